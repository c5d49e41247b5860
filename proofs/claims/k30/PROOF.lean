import PyProof.Rows.All
import Wide.All
import OpenK.AllK
import Wide.FinOn
import HandS.ForMost
import HandS.IsInst
import HandS.TupAny
import HandS.TupMul
import HandS.Conv
import HandS.Style
import HandS.Flow
import HandS.Walk
import KE.GoesEnum
import KE.KRevSl
import HandS.RaiseMore
import HandS.SetFor
import HandS.Strs
import HandS.Nested
import HandS.ExcValue
import KE.SortKeyHeap
import KE.SortData
import HandS.EndTab
import KE.KNestM
import HandS.Wide
import KE.DataMinMax
import KE.DatumOrd
import KE.DataMinKey
import HandS.SortRule
import PySem.Challenge.RW_pulltree_k30_days_of_sales
set_option Elab.async false
set_option linter.all false
set_option maxRecDepth 100000
set_option maxHeartbeats 4000000
/-! rules that the layer lacks: enumerate over a tuple, a list read and stored at one place, a tuple the other way round, repr of data -/
namespace PT
open PySem PySem.Spec PyProof.Rows L2

/-! ### enumerate(v) with one argument, v anything that begins -/
theorem meets_enum1 {v : Value} {o : Obj} {H : Heap → Prop} (B : Begins v o H) :
    Meets (Builtin.«enumerate.__new__» ⟨[.type "enumerate", v], []⟩) (fun _ R st => H st.heap ∧
      R (.ok (.ret (.ref (st.heap.push o).objs.size))) { st with heap := (st.heap.push o).push { cls := .type "enumerate", data := .fields #[.none, .bool false, .ref st.heap.objs.size, rawInt 0, .none, .none] } }) :=
  .of_wp fun prog w A R st hh => by
    obtain ⟨hp, gg, dd, tt, oo⟩ := st
    obtain ⟨b1, b2⟩ := hh
    have se := sub_enumerate
    have go : ∀ {A' : Around} {E' : Value → Shared → Prop} {Q' : Value → Shared → Prop}, Q' (.ref hp.objs.size) ⟨hp.push o, gg, dd, tt, oo⟩ → wpAny (model prog w) A' (pyIter v) Q' E' ⟨hp, gg, dd, tt, oo⟩ :=
      fun z => B.iter prog w _ _ ⟨hp, gg, dd, tt, oo⟩ _ b1 z
    wp_walk using go
    refine wpAny_stack_any fun frs => wpAny_pure ?_
    split
    · rename_i cc _ _ _ _ _
      cases (cc == Value.type "enumerate") <;> (wp_walk using go; exact ⟨_, rfl, b2⟩)
    · wp_walk using go
      exact ⟨_, rfl, b2⟩
theorem enum_call1 {prog : Program} {w : World} {A : Around} {E : Value → Shared → Prop} {st : Shared} {v : Value} {o : Obj} {H : Heap → Prop} {Q : Value → Shared → Prop} (B : Begins v o H) (b1 : H st.heap)
    (fin : ∀ h2, IsEnum h2 (st.heap.objs.size + 1) st.heap.objs.size 0 .none → h2.get? st.heap.objs.size = some o → (∀ b u, st.heap.get? b = some u → h2.get? b = some u) → Q (.ref (st.heap.objs.size + 1)) { st with heap := h2 }) :
    wpAny (model prog w) A (call (.type "enumerate") [v]) Q E st := by
  refine callType_new F.called_enumerate (by decide) (F.typeCall_enumerate_1 _) (F.newCall_enumerate_1 _) (fun ob => F.args_object_init_2 ob _) F.entry_enumerate_new (meets_enum1 B) ⟨b1, ?_⟩
  have sz : (st.heap.push o).objs.size = st.heap.objs.size + 1 := Heap.size_push ..
  show _ ∧ _
  rw [sz]
  have en : IsEnum ((st.heap.push o).push { cls := .type "enumerate", data := .fields #[.none, .bool false, .ref st.heap.objs.size, rawInt 0, .none, .none] }) (st.heap.objs.size + 1) st.heap.objs.size 0 .none := by
    have z := Heap.get?_push_size (st.heap.push o) (o := { cls := .type "enumerate", data := .fields #[.none, .bool false, .ref st.heap.objs.size, rawInt 0, .none, .none] }) rfl
    rw [sz] at z
    exact z
  exact ⟨⟨_, en, rfl⟩, fin _ en (Heap.get?_push_of_some _ (Heap.get?_push_size _ B.free)) fun b u y => Heap.get?_push_of_some _ (Heap.get?_push_of_some _ y)⟩

/-- the tuple at a, each item in a new pair with its place -/
def ItE (K : PySem.W.Frag) (a : Addr) : It :=
  ⟨fun i H => ∃ (xs : List V) (x : V), SqT K H a xs ∧ xs[i]? = some x,
   fun i H v H' => ∃ T x, v = .ref T ∧ H T = none ∧ H' = upd H T (.tup [.int (i : Nat), x]) ∧ ∀ xs, SqT K H a xs → xs[i]? = some x,
   fun i H => ∃ xs : List V, SqT K H a xs ∧ xs.length ≤ i⟩
theorem turn_E {P : Program} {w : World} {K : PySem.W.Frag} {elts : List Expr} {kk : Nat} {tpos : Pos} (a e it : Addr) :
    Turn P w K (.Tuple elts kk tpos) (ItE K a) [e, it] e (fun i h => (∃ old, IsEnum h e it ((i : Nat) : Int) old) ∧ h.IsTupleIter it a i ∧ e ≠ it) where
  mem := by simp
  obj := fun i h st b hb => by
    obtain ⟨⟨old, he⟩, ⟨o, ho, hc, hd⟩, _⟩ := st
    rcases List.mem_cons.mp hb with z | z
    · rw [z]
      exact ⟨_, he, fun v q => nomatch q⟩
    · rw [List.mem_singleton.mp z]
      exact ⟨o, ho, fun v q => by rw [hd] at q; cases q⟩
  keep := fun i h h' st k => ⟨let ⟨old, he⟩ := st.1; ⟨old, k e (by simp) _ he⟩, st.2.1.at fun o q => k it (by simp) o q, st.2.2⟩
  item := by
    intro X hP hw hK hc i pins st σ H E I hf tn hg
    subst hP hw hK
    obtain ⟨⟨old, he⟩, hit, hne⟩ := tn
    obtain ⟨xs, x, hq, hx⟩ := hg
    obtain ⟨its, rv, p, hz⟩ := I.tuple hq
    obtain ⟨u, hu, ru⟩ := rv.get hx
    have le : e < st.heap.objs.size := Heap.lt_size he
    have li : it < st.heap.objs.size := let ⟨_, q, _⟩ := hit; Heap.lt_size q
    have hta : a ≠ it := fun z => by
      obtain ⟨o1, q1, c1, _⟩ := hit
      obtain ⟨o2, q2, c2, _⟩ := p
      rw [z, q1] at q2
      cases q2
      rw [c1] at c2
      exact absurd (Value.type.inj c2) (by decide)
    have D := Draws.tuple (prog := X.prog) (w := X.w) (A := X.A.in1) (I.ok.hd hc) it a hta its.toArray
    have hi : i < its.length := by
      obtain ⟨h1, _⟩ := List.getElem?_eq_some_iff.mp hu
      exact h1
    refine wpAny_pyNext_enum_itemD D he ⟨hit, p⟩ (by simpa using hi) hne ?_ fun y h2 tk hy ho sn hT hsz hk => ?_
    · intro hm
      rcases List.mem_cons.mp hm with z | z
      · exact hne z
      · have z2 := List.mem_singleton.mp z
        obtain ⟨o2, q2, c2, _⟩ := p
        have q3 : st.heap.get? e = some _ := he
        rw [z2, q2] at q3
        cases q3
        exact absurd (Value.type.inj c2) (by decide)
    have ey : y = u := by
      have e1 : its.toArray[i]? = some u := by simpa using hu
      exact Option.some.inj (hy.symm.trans e1)
    subst ey
    refine ⟨_, rfl, wpAny_letOwnedTupleGo_enum (s := { st with heap := h2, toks := tk + 1 }) ho fun h3 he3 sb => ?_⟩
    have hT3 : h3.get? st.heap.objs.size = some { cls := .type "tuple", data := .seq #[.int i tk, y] } := (sb.2 _ (Nat.ne_of_gt le)).trans hT
    have nw : ObjOk X.prog X.w (upd H st.heap.objs.size (.tup [.int (i : Nat), x])) h3 st.heap.objs.size (.tup [.int (i : Nat), x]) :=
      ⟨by show 2 ≤ sizeLine; decide, [.int i tk, y], .cons ⟨_, rfl⟩ (.cons ru .nil), ⟨_, hT3, rfl, _, rfl⟩⟩
    have I1 : Inv X pins σ (upd H st.heap.objs.size (.tup [.int (i : Nat), x])) { st with heap := h3, toks := tk + 1 } :=
      I.turnedNew (ch := [e, it]) (fun b ob hb q => (sb.2 b (fun z => hb (by simp [z]))).trans (hk b ob (fun z => hb (by simp [z])) (fun z => hb (by simp [z])) q)) hf (Nat.le_refl _) nw
    refine ⟨.ref st.heap.objs.size, _, I1, rfl, ⟨_, x, rfl, I.hok.fresh (Nat.le_refl _), rfl, fun ys hy => by rw [I.tuple_inj hy hq]; exact hx⟩, ⟨⟨y, ?_⟩, sn.1.at fun o q => (sb.2 it (Ne.symm hne)).trans q, hne⟩, fun b hb => ?_⟩
    · have e1 : ((i + 1 : Nat) : Int) = (i : Int) + 1 := by omega
      exact e1 ▸ he3
    · have hb' : b < st.heap.objs.size := by
        rcases List.mem_cons.mp hb with z | z
        · exact z ▸ le
        · exact (List.mem_singleton.mp z) ▸ li
      rw [upd_ne (Nat.ne_of_lt hb')]
      exact (hf b hb).1
  done := by
    intro X hP hw hK hc i pins st σ H E I hf tn hg
    subst hP hw hK
    obtain ⟨⟨old, he⟩, hit, hne⟩ := tn
    obtain ⟨xs, hq, hx⟩ := hg
    obtain ⟨its, rv, p, hz⟩ := I.tuple hq
    obtain ⟨f0, f1, f2, f3, f4, f5⟩ := hf it (by simp)
    have hl := rv.length
    have hT : st.TypeIs (.ref e) "enumerate" := ⟨_, he, rfl⟩
    unfold pyNext
    refine wpAny_bind (wpAny_attempt (wpAny_callSpecial?_slot (name := Str.ofString "__next__") hT F.slot_enumerate_next (wpAny_call_entry F.slot_enumerate_next hT F.entry_enumerate_next ?_ (F.args_enumerate_next_1 _))))
    show wpAny _ _ (field (.ref e) 2 >>= _) _ _ _
    refine wpAny_bind (wpAny_field he rfl (x := .ref it) rfl ?_)
    refine wpAny_bind (wpAny_nextOf_tuple_end (I.ok.hd hc) hit p (by simp; omega) fun h2 x e1 hx2 => ?_)
    obtain ⟨o, ho, hcc⟩ := hx2
    refine wpAny_bind (wpAny_isInstance (T := "StopIteration") (b := true) ⟨o, ho, hcc⟩ isSubtype_stop ?_)
    exact wpAny_pure ⟨rfl, I.turned (t' := st.toks) (fun b o hb q => e1 b o hb q) f0 f1 f3 f4 f5⟩
  self := fun A i s Q E tn h => let ⟨⟨_, he⟩, _⟩ := tn; wpAny_pyIter_enum he h
def iE (K : PySem.W.Frag) (ta : TA) : TI := fun σ H R => ta σ H fun vs H1 => ∃ a xs, vs = [.ref a] ∧ SqT K H1 a xs ∧ R (ItE K a) H1
theorem pi_E {X : Cx} {e : Expr} {ta : TA} {p pos tpos : Pos} {elts : List Expr} {kk : Nat} (hg : Gl X "enumerate") (hm : X.mg "enumerate" = none) (ha : PA X [e] ta) (hs : starEach [e] X.env = [(false, eval e X.env)] := by rfl) :
    PI X (.Tuple elts kk tpos) (.Call (.Name "enumerate" p) [e] [] pos) (iE X.K ta) := by
  refine ⟨fun pins st σ H R I h => Call_ (ld_blt I hg hm boot_enumerate (PyProof.Rows.callWith_type1 (thn (ha.run pos pins st σ H _ I h) fun us s1 ⟨vs, H1, I1, r1, q1⟩ => ?_) hs rfl))⟩
  obtain ⟨a, xs, ex, hq, q⟩ := q1
  subst ex
  cases r1 with
  | cons r rr =>
    cases rr
    cases r
    obtain ⟨its, rv, pp, hz⟩ := I1.tuple hq
    refine enum_call1 (begins_tuple a its.toArray) pp fun h2 he hi hk => wpAny_pyIter_enum he ?_
    have I2 : Inv X pins σ H1 { s1 with heap := h2 } := I1.kept (t' := s1.toks) hk
    refine ⟨s1.heap.objs.size + 1, [s1.heap.objs.size + 1, s1.heap.objs.size], _, _, H1, rfl, I2, turn_E a (s1.heap.objs.size + 1) s1.heap.objs.size, ⟨⟨.none, he⟩, ⟨_, hi, rfl, rfl⟩, Nat.succ_ne_self _⟩, fun b hb => ?_, q⟩
    have hle : s1.heap.objs.size ≤ b := by
      rcases List.mem_cons.mp hb with z | z
      · rw [z]
        exact Nat.le_add_right _ _
      · rw [List.mem_singleton.mp z]
        exact Nat.le_refl _
    exact I1.fpOk hle (I1.hok.fresh hle)
theorem walk_E {K : PySem.W.Frag} {a : Addr} {xs : List V} : Walk (ItE K a) xs.length (fun H => SqT K H a xs) (YPair (fun i => some (.int (i : Nat))) (fun i => xs[i]?)) := by
  refine ⟨fun i _ hi q => ⟨xs, xs[i], q, by simp [hi]⟩, fun _ q => ⟨xs, q, Nat.le_refl _⟩, fun i H v H' _ q y => ?_⟩
  obtain ⟨T, x, h1, h2, h3, h4⟩ := y
  exact ⟨T, .int (i : Nat), x, h1, h2, h3, rfl, h4 xs q⟩

/-! ### a list's item read for o[i] op= v -/
theorem get_lst {X : Cx} : PGet X (fun o i H Q => ∃ p xs j v, o = .ref p ∧ i = .int ((j : Nat) : Int) ∧ SqL X.K H p xs ∧ xs[j]? = some v ∧ Q v H) := by
  intro pins st σ H o i ov iv Q I ro ri h
  obtain ⟨p, xs, j, v, rfl, rfl, hq, hv, q⟩ := h
  cases ro
  obtain ⟨t, rfl⟩ := ri
  obtain ⟨its, r, pl, hz⟩ := I.list hq
  obtain ⟨u, hu, ru⟩ := r.get hv
  have hn := line63
  have hl := r.length
  have hj : j < its.length := (List.getElem?_eq_some_iff.mp hu).1
  exact wpAny_getItem_list pl.isList (by omega) (by omega) (x := u) (by simpa using hu) ⟨v, H, I, ru, q⟩

end PT

set_option maxHeartbeats 4000000
/-! repr of data that the law shows: scalars, rows of ints, tuples of such items and of one odd thing -/
namespace PT
open PySem PySem.Spec PyProof.Rows L2

/-! ### t[::-1] of a tuple -/
theorem adj_back (n : Nat) : Builtin.Slice.sliceAdjust none none (-1) (n : Int) = ((n : Int) - 1, -1) := by
  unfold Builtin.Slice.sliceAdjust
  simp
theorem pl_back (n : Nat) : Builtin.Slice.slicePlaces ((n : Int) - 1) (-1) (-1) = n := by
  unfold Builtin.Slice.slicePlaces
  have h1 : ¬ ((-1 : Int) > 0) := by omega
  simp only [h1, if_false]
  split
  · rw [show (- -1 : Int) = 1 from rfl, Int.ediv_one]
    omega
  · omega
theorem fm_congr {α β : Type} {f g : α → Option β} : ∀ (l : List α), (∀ x ∈ l, f x = g x) → l.filterMap f = l.filterMap g
  | [], _ => rfl
  | x :: r, h => by
    rw [List.filterMap_cons, List.filterMap_cons, h x (List.mem_cons_self ..), fm_congr r fun y hy => h y (List.mem_cons_of_mem _ hy)]
theorem pick_back (xs : Array Value) : ((List.range xs.size).filterMap fun (k : Nat) => xs[(((xs.size : Int) - 1) + (k : Int) * (-1)).toNat]?) = xs.toList.reverse := by
  have e : ∀ (l : List Value) (n : Nat), n = l.length → ((List.range n).filterMap fun (k : Nat) => l[(((n : Int) - 1) + (k : Int) * (-1)).toNat]?) = l.reverse := by
    intro l
    induction l with
    | nil => intro n hn; subst hn; rfl
    | cons x r ih =>
      intro n hn
      subst hn
      have step : ∀ m, m ≤ r.length → ((List.range m).filterMap fun (k : Nat) => (x :: r)[((((x :: r).length : Nat) : Int) - 1 + (k : Int) * (-1)).toNat]?) = ((List.range m).filterMap fun (k : Nat) => r[(((r.length : Int) - 1) + (k : Int) * (-1)).toNat]?) := by
        intro m hm
        refine fm_congr _ fun k hk => ?_
        have hk' : k < m := List.mem_range.mp hk
        have e1 : ((((x :: r).length : Nat) : Int) - 1 + (k : Int) * (-1)).toNat = (((r.length : Int) - 1) + (k : Int) * (-1)).toNat + 1 := by
          rw [List.length_cons]
          omega
        rw [e1, List.getElem?_cons_succ]
      rw [List.length_cons, List.range_succ, List.filterMap_append]
      have s := step r.length (Nat.le_refl _)
      rw [List.length_cons] at s
      rw [s, ih r.length rfl, List.reverse_cons]
      congr 1
      have e2 : (((r.length + 1 : Nat) : Int) - 1 + (r.length : Int) * (-1)).toNat = 0 := by omega
      simp only [List.filterMap_cons, List.filterMap_nil, e2, List.getElem?_cons_zero]
  have := e xs.toList xs.size (by simp)
  simpa using this
section
variable {prog : Program} {w : World} {A : Around} {E : Value → Shared → Prop} {st : Shared}
theorem part_int {i : Int} {u : Tok} {Q : Option Int → Shared → Prop} (h : Q (some i) st) : wpAny (model prog w) A (Builtin.Slice.slicePartIndex (.int i u)) Q E st := slicePart_int h
theorem applied_back {sl : Addr} {n : Nat} {u : Tok} {Q : Int × Int × Nat → Shared → Prop} (hs : st.heap.IsSliceOf sl .none .none (.int (-1) u)) (h : Q ((n : Int) - 1, -1, n) st) :
    wpAny (model prog w) A (Builtin.Slice.sliceApplied (.ref sl) (pure (n : Int))) Q E st := by
  obtain ⟨ob, e1, e2, e3⟩ := id hs
  unfold Builtin.Slice.sliceApplied Builtin.Slice.sliceFields
  refine wpAny_bind (wpAny_bind (wpAny_field e1 e3 (x := .none) rfl (wpAny_bind (wpAny_field e1 e3 (x := .none) rfl (wpAny_bind (wpAny_field e1 e3 (x := .int (-1) u) rfl (wpAny_pure ?_)))))))
  refine wpAny_bind (part_int ?_)
  show wpAny _ _ (if ((-1 : Int) == 0) = true then _ else _) _ _ st
  rw [if_neg (by decide)]
  refine wpAny_bind (slicePart_none (wpAny_bind (slicePart_none (wpAny_bind (wpAny_pure ?_)))))
  show wpAny _ _ (match Builtin.Slice.sliceAdjust none none (-1) (n : Int) with | (lo, hi) => pure (lo, (-1 : Int), Builtin.Slice.slicePlaces lo hi (-1))) _ _ st
  rw [adj_back n]
  show wpAny _ _ (pure ((n : Int) - 1, (-1 : Int), Builtin.Slice.slicePlaces ((n : Int) - 1) (-1) (-1))) _ _ st
  rw [pl_back n]
  exact wpAny_pure h
theorem tup_back {t sl : Addr} {items : Array Value} {u : Tok} {Q : Value → Shared → Prop} (ht : IsTup st.heap t items) (hs : st.heap.IsSliceOf sl .none .none (.int (-1) u)) (hz : items.size ≤ sizeLine)
    (h : Q (.ref st.heap.objs.size) { st with heap := st.heap.push { cls := .type "tuple", data := .seq items.toList.reverse.toArray } }) : wpAny (model prog w) A (getItem (.ref t) (.ref sl)) Q E st := by
  have ok : sizeOk (.seq items.toList.reverse.toArray) := by
    show items.toList.reverse.toArray.size ≤ sizeLine
    rw [List.size_toArray, List.length_reverse, Array.length_toList]
    exact hz
  obtain ⟨ob, e1, e2, e3⟩ := id hs
  have ts : st.TypeIs (.ref sl) "slice" := ⟨ob, e1, e2⟩
  unfold getItem
  try with_reducible refine wpAny_holding ?_
  first | refine wpAny_bind (wpAny_pure ?_) | skip
  refine wpAny_bind (wpAny_sequenceKey ht.typeIs (by decide) (wpAny_bind (wpAny_callSpecial?_slot (name := Str.ofString "__getitem__") ht.typeIs PyProof.Rows.slot_tuple_getitem
    (wpAny_call_entry PyProof.Rows.slot_tuple_getitem ht.typeIs entry_tuple_getitem ?_ (args_tuple_getitem _ _)))))
  show wpAny _ _ (Builtin.Tuple.tupleItemsOf (.ref t) >>= _) _ _ st
  refine wpAny_bind (tupleItemsOf_ ht (wpAny_bind (wpAny_typeOf ts ?_)))
  rw [if_pos (by decide)]
  refine wpAny_bind (applied_back hs ?_)
  have no1 : ((-1 : Int) == 1) = false := by decide
  show wpAny _ _ (if (((items.size : Int) - 1) == 0 && (-1 : Int) == 1 && items.size == items.size) = true then _ else _) _ _ st
  rw [if_neg (by rw [no1, Bool.and_false, Bool.false_and]; exact Bool.false_ne_true), pick_back]
  first
    | exact wpAny_bind (m := Builtin.Tuple.tupleExact _) (wpAny_newObj_type (wpAny_pure ⟨_, rfl, wpAny_pure h⟩) ok)
    | exact wpAny_bind (m := Builtin.Tuple.tupleExact _) (wpAny_newObj_type (wpAny_bind (wpAny_pure (wpAny_pure ⟨_, rfl, wpAny_pure h⟩))) ok)
    | exact wpAny_bind (wpAny_bind (m := Builtin.Tuple.tupleExact _) (wpAny_newObj_type (wpAny_pure (wpAny_pure ⟨_, rfl, wpAny_pure h⟩)) ok))
    | exact wpAny_bind (wpAny_bind (m := Builtin.Tuple.tupleExact _) (wpAny_newObj_type (wpAny_pure ⟨_, rfl, wpAny_pure h⟩) ok))
end
section
variable {X : Cx}
def tRevT (K : PySem.W.Frag) (te : TE) : TE := fun σ H Q => te σ H fun x H1 => ∃ a xs, x = .ref a ∧ SqT K H1 a xs ∧ ∀ p, H1 p = none → Q (.ref p) (upd H1 p (.tup xs.reverse))
theorem pe_revT {e : Expr} {te : TE} {k : Nat} {p1 p2 p3 pos : Pos} (he : PE X e te) : PE X (.Subscript e (.Slice none none (some (.UnaryOp .USub (.Constant (.int 1) k p1) p2)) p3) pos) (tRevT X.K te) := by
  refine ⟨fun pins st σ H Q I h => Subscript_ (thn (he.run pins st σ H _ I h) fun v s1 ⟨x, H1, I1, r1, q1⟩ => ?_)⟩
  obtain ⟨a, xs, ex, hx, q⟩ := q1
  subst ex
  cases r1
  have minus : PO X (some (.UnaryOp .USub (.Constant (.int 1) k p1) p2)) (tPart (tUn (rU fun i => .int (-i)) (tC (.int 1)))) := po_some (pe_un un_neg pe_int)
  refine wpAny_Slice (thn (po_none.run pins s1 σ H1 (fun o H2 => o = none ∧ H2 = H1) I1 ⟨rfl, rfl⟩) fun vl s2 ⟨l, H2, I2, pl, el, e2⟩ => ?_)
  subst el e2
  refine thn (po_none.run pins s2 σ H2 (fun o H3 => o = none ∧ H3 = H2) I2 ⟨rfl, rfl⟩) fun vu s3 ⟨u, H3, I3, pu, eu, e3⟩ => ?_
  subst eu e3
  refine thn (minus.run pins s3 σ H3 (fun o H4 => o = some (-1) ∧ H4 = H3) I3 ⟨1, rfl, -1, rfl, rfl, rfl⟩) fun vs s4 ⟨o, H4, I4, ps, eo, e4⟩ => ?_
  subst eo e4
  have I5 : Inv X pins σ H4 { s4 with heap := s4.heap.push { cls := .type "slice", data := .fields #[vl, vu, vs] } } := I4.kept (t' := s4.toks) fun b ob q => Heap.get?_push_of_some _ q
  obtain ⟨its, r, ht, hz⟩ := I5.tuple hx
  have hlen := r.length
  cases pl
  cases pu
  cases ps
  show wpAny (model X.prog X.w) X.A (subscriptTail e (.Slice none none (some (.UnaryOp .USub (.Constant (.int 1) k p1) p2)) p3) (.ref a) (.ref s4.heap.objs.size)) (EP X pins σ Q) X.xe { s4 with heap := s4.heap.push { cls := .type "slice", data := .fields #[.none, .none, .int (-1) _] } }
  refine tail_any (ops := [.ref a, .ref s4.heap.objs.size]) ht.typeIs (PyProof.Rows.slot_tuple_getitem.lookup) ?_ (by with_unfolding_all rfl)
  refine tup_back ht (Heap.IsSliceOf.new _ _ _ _) (by rw [List.size_toArray]; omega) ?_
  exact ⟨.ref _, _, I5.laid (t' := s4.toks) (o := .tup xs.reverse) (fun b ob q => Heap.get?_push_of_some _ q) (Nat.le_refl _) ⟨by rw [List.length_reverse]; exact hz, _, r.reverse, IsTup.new _ _⟩, rfl, q _ (I5.hok.fresh (Nat.le_refl _))⟩
end
end PT

set_option maxHeartbeats 4000000
/-! repr of data that stands in the heap -/
namespace PT
open PySem PySem.Spec PyProof.Rows L2

/-! ### data in the heap -/
inductive Si (H : Hp) : V → PyData → Prop
  | non : Si H .non .none
  | bl (b : Bool) : Si H (.bl b) (.bool b)
  | int (i : Int) : Si H (.int i) (.int i)
  | str (x : Str) : Si H (.str x) (.str x)
  | dic {a : Addr} : H a = some (.dK []) → Si H (.ref a) (.dict [])
inductive Rp (K : PySem.W.Frag) (H : Hp) : V → PyData → Prop
  | dp {v : V} {d : PyData} : Dp K H v d → Rp K H v d
  | dic {a : Addr} : H a = some (.dK []) → Rp K H (.ref a) (.dict [])
  | tup {a : Addr} {xs : List V} {ds : List PyData} : SqT K H a xs → Paired (Si H) xs ds → Rp K H (.ref a) (.tuple ds)

theorem seqT {K : PySem.W.Frag} {H H' : Hp} {a : Addr} {xs : List V} (e : Same H H') (h : SqT K H a xs) : SqT K H' a xs := by
  rcases h with (h | ⟨o, h⟩) | h
  · exact .inl (.inl (e _ _ h))
  · exact .inl (.inr ⟨o, e _ _ h⟩)
  · exact .inr h
mutual
theorem dp_same {K : PySem.W.Frag} {H H' : Hp} (e : Same H H') : ∀ (d : PyData) (v : V), Dp K H v d → Dp K H' v d
  | .none, _, h => by cases h; exact .non
  | .bool b, _, h => by cases h; exact .bl b
  | .int i, _, h => by cases h; exact .int i
  | .str x, _, h => by cases h; exact .str x
  | .list ds, _, h => by
    cases h with
    | lst a b => exact .lst (e.seq a) (dps_same e ds _ b)
  | .tuple ds, _, h => by
    cases h with
    | tup a b => exact .tup (seqT e a) (dps_same e ds _ b)
  | .dict _, _, h => by cases h
theorem dps_same {K : PySem.W.Frag} {H H' : Hp} (e : Same H H') : ∀ (ds : List PyData) (vs : List V), DpAll K H vs ds → DpAll K H' vs ds
  | [], _, h => by cases h; exact .nil
  | d :: ds, _, h => by
    cases h with
    | cons a b => exact .cons (dp_same e d _ a) (dps_same e ds _ b)
end
mutual
theorem dp_nd {K : PySem.W.Frag} {H : Hp} : ∀ (d : PyData) (v : V), Dp K H v d → d.hasDict = false
  | .none, _, _ => rfl
  | .bool _, _, _ => rfl
  | .int _, _, _ => rfl
  | .str _, _, _ => rfl
  | .list ds, _, h => by
    cases h with
    | lst a b => simp only [PyData.hasDict]; exact dps_nd ds _ b
  | .tuple ds, _, h => by
    cases h with
    | tup a b => simp only [PyData.hasDict]; exact dps_nd ds _ b
  | .dict _, _, h => by cases h
theorem dps_nd {K : PySem.W.Frag} {H : Hp} : ∀ (ds : List PyData) (vs : List V), DpAll K H vs ds → PyData.hasDictAll ds = false
  | [], _, _ => rfl
  | d :: ds, _, h => by
    cases h with
    | cons a b => simp only [PyData.hasDictAll, dp_nd d _ a, dps_nd ds _ b, Bool.or_self]
end
theorem si_same {H H' : Hp} (e : Same H H') {v : V} {d : PyData} (h : Si H v d) : Si H' v d := by
  cases h with
  | non => exact .non
  | bl b => exact .bl b
  | int i => exact .int i
  | str x => exact .str x
  | dic q => exact .dic (e _ _ q)
theorem rp_same {K : PySem.W.Frag} {H H' : Hp} (e : Same H H') {v : V} {d : PyData} (h : Rp K H v d) : Rp K H' v d := by
  cases h with
  | dp q => exact .dp (dp_same e _ _ q)
  | dic q => exact .dic (e _ _ q)
  | tup a b => exact .tup (seqT e a) (Paired.mapP b fun _ _ z => si_same e z)
theorem dp_ints {K : PySem.W.Frag} {H : Hp} : ∀ ns : List Int, DpAll K H (ns.map V.int) (ns.map PyData.int)
  | [] => .nil
  | n :: ns => .cons (.int n) (dp_ints ns)

section
variable {X : Cx} {pins : List (Addr × Obj)} {σ : List (Option V)} {H : Hp} {st : Shared}
theorem dic_reads {a : Addr} (I : Inv X pins σ H st) (q : H a = some (.dK [])) : Reads st.heap (.ref a) (.dict []) ([a] ++ []) ∧ sysModules ≠ a := by
  obtain ⟨_, hs, vs, rel, dd⟩ := dk_of I.hok q
  obtain ⟨o, es, ep, e1, e2, e3, e4⟩ := dd
  cases rel
  have hes : es.toList = [] := by
    have z := e4.2.1.length
    exact List.eq_nil_of_length_eq_zero z
  refine ⟨.dict e1 e2.1 e3 ?_ ?_, fun z => ?_⟩
  · rw [hes]; exact .nil
  · rw [hes]; exact .nil
  · rw [← z] at hs
    simp at hs
theorem si_reads (I : Inv X pins σ H st) {v : V} {u : Value} {d : PyData} (h : Si H v d) (r : RelV v u) : ∃ as, Reads st.heap u d as ∧ sysModules ∉ as := by
  cases h with
  | non => cases r; exact ⟨_, .none, by simp⟩
  | bl b => cases r; exact ⟨_, .bool b, by simp⟩
  | int i => obtain ⟨t, rfl⟩ := r; exact ⟨_, .int i t, by simp⟩
  | str x => obtain ⟨t, rfl⟩ := r; exact ⟨_, .str x t, by simp⟩
  | dic q =>
    cases r
    obtain ⟨z, ne⟩ := dic_reads I q
    exact ⟨_, z, by simp [ne]⟩
theorem sis_reads (I : Inv X pins σ H st) : ∀ {xs : List V} {us : List Value} {ds : List PyData}, Paired (Si H) xs ds → Vals xs us → ∃ as, ReadsAll st.heap us ds as ∧ sysModules ∉ as
  | _, _, _, .nil, .nil => ⟨_, .nil, by simp⟩
  | _, _, _, .cons a b, .cons r t => by
    obtain ⟨as, h1, n1⟩ := si_reads I a r
    obtain ⟨bs, h2, n2⟩ := sis_reads I b t
    exact ⟨_, .cons h1 h2, by simp [n1, n2]⟩
theorem rp_reads (I : Inv X pins σ H st) {v : V} {u : Value} {d : PyData} (h : Rp X.K H v d) (r : RelV v u) : ∃ as, Reads st.heap u d as ∧ (d.hasDict = true → sysModules ∉ as) := by
  cases h with
  | dp q =>
    obtain ⟨as, z⟩ := Dp.reads I d v u q r
    exact ⟨as, z, fun e => by rw [dp_nd d v q] at e; cases e⟩
  | dic q =>
    cases r
    obtain ⟨z, ne⟩ := dic_reads I q
    exact ⟨_, z, fun _ => by simp [ne]⟩
  | tup a b =>
    cases r
    obtain ⟨its, rv, ⟨o, ho, hc, n, hd⟩, _⟩ := I.tuple a
    obtain ⟨as, z, ne⟩ := sis_reads I b rv
    exact ⟨_, .tuple ho hc hd z, fun _ => ne⟩
end

/-! ### what is short enough to be shown -/
structure Nice (W k : Nat) (d : PyData) : Prop where
  sh : d.showable = true
  dp : d.depth ≤ k
  lv : d.leavesShort 60 = true
  wt : d.weight ≤ W
theorem Nice.shown {W k : Nat} {d : PyData} (n : Nice W k d) (hW : W ≤ 270000 := by decide) : d.shown.length ≤ sizeLine := by
  have h1 := PyData.shown_le 60 (by decide) d n.lv
  have h2 := n.wt
  have h3 := sizeLine_eq
  have h4 : (60 + 2) * d.weight ≤ (60 + 2) * W := Nat.mul_le_mul_left _ h2
  have h5 : (60 + 2) * W ≤ (60 + 2) * 270000 := Nat.mul_le_mul_left _ hW
  omega
theorem Nice.mono {W W' k k' : Nat} {d : PyData} (n : Nice W k d) (hW : W ≤ W' := by decide) (hk : k ≤ k' := by decide) : Nice W' k' d := ⟨n.sh, Nat.le_trans n.dp hk, n.lv, Nat.le_trans n.wt hW⟩
theorem nice_none : Nice 0 0 .none := ⟨rfl, Nat.le_refl _, rfl, Nat.le_refl _⟩
theorem nice_bl (b : Bool) : Nice 0 0 (.bool b) := ⟨rfl, Nat.le_refl _, rfl, Nat.le_refl _⟩
theorem nice_int {i : Int} (h : i.natAbs < 10 ^ 50) : Nice 170 0 (.int i) := by
  have hl : i.natAbs.log2 < 169 := by
    by_cases z : i.natAbs = 0
    · rw [z]; decide
    · exact (Nat.log2_lt z).mpr (Nat.lt_trans h (by decide))
  refine ⟨by simp only [PyData.showable, decide_eq_true_eq]; omega, Nat.le_refl _, ?_, ?_⟩
  · simp only [PyData.leavesShort, decide_eq_true_eq]
    have z := int_text_length_le10 (k := 50) (by decide) h
    have z2 : (PyData.shown (.int i)).length = (toString i).length := by
      show (Str.ofString (toString i)).length = _
      exact PySem.ofString_length _
    omega
  · simp only [PyData.weight]
    split <;> omega
theorem nice_str {x : Str} (h : x.cps.size ≤ 170) (hc : ∀ c ∈ x.cps.toList, c < 16 ^ 8) : Nice 170 0 (.str x) :=
  ⟨rfl, Nat.le_refl _, by simp only [PyData.leavesShort, List.all_eq_true, decide_eq_true_eq]; exact hc, h⟩
theorem nice_all {W k : Nat} : ∀ {ds : List PyData}, (∀ d ∈ ds, Nice W k d) → PyData.showableAll ds = true ∧ PyData.depthAll ds ≤ k ∧ PyData.leavesShortAll 60 ds = true ∧ PyData.weightAll ds ≤ ds.length * (W + 1)
  | [], _ => ⟨rfl, Nat.zero_le _, rfl, Nat.zero_le _⟩
  | d :: ds, h => by
    obtain ⟨a1, a2, a3, a4⟩ := h d (List.mem_cons_self ..)
    obtain ⟨b1, b2, b3, b4⟩ := nice_all fun e he => h e (List.mem_cons_of_mem _ he)
    refine ⟨by simp only [PyData.showableAll, a1, b1, Bool.and_self], by simp only [PyData.depthAll]; omega, by simp only [PyData.leavesShortAll, a3, b3, Bool.and_self], ?_⟩
    simp only [PyData.weightAll, List.length_cons, Nat.add_mul, Nat.one_mul]
    omega
theorem nice_tup {W k L : Nat} {ds : List PyData} (h : ∀ d ∈ ds, Nice W k d) (hl : ds.length ≤ L) : Nice (L * (W + 1)) (k + 1) (.tuple ds) := by
  obtain ⟨b1, b2, b3, b4⟩ := nice_all h
  have z : ds.length * (W + 1) ≤ L * (W + 1) := Nat.mul_le_mul_right _ hl
  exact ⟨by simpa only [PyData.showable] using b1, by simp only [PyData.depth]; omega, by simpa only [PyData.leavesShort] using b3, by simp only [PyData.weight]; omega⟩
theorem nice_lst {W k L : Nat} {ds : List PyData} (h : ∀ d ∈ ds, Nice W k d) (hl : ds.length ≤ L) : Nice (L * (W + 1)) (k + 1) (.list ds) := by
  obtain ⟨b1, b2, b3, b4⟩ := nice_all h
  have z : ds.length * (W + 1) ≤ L * (W + 1) := Nat.mul_le_mul_right _ hl
  exact ⟨by simpa only [PyData.showable] using b1, by simp only [PyData.depth]; omega, by simpa only [PyData.leavesShort] using b3, by simp only [PyData.weight]; omega⟩
theorem nice_ints {ns : List Int} (h : ∀ n ∈ ns, n.natAbs < 10 ^ 50) : ∀ d ∈ ns.map PyData.int, Nice 170 0 d := fun d hd => by
  obtain ⟨n, hn, rfl⟩ := List.mem_map.mp hd
  exact nice_int (h n hn)

/-! ### repr(v) -/
section
variable {X : Cx}
theorem call_reprD (hg : X.A.guards = some []) (hu : X.A.units + 64 < cLine) : CallR X (.builtin "repr") (fun xs H Q => ∃ v d W, xs = [v] ∧ Rp X.K H v d ∧ Nice W 50 d ∧ W ≤ 270000 ∧ Q (.str d.shown) H) := by
  intro pins st σ H xs us Q I r h
  obtain ⟨v, d, W, rfl, hr, hn, hW, q⟩ := h
  obtain ⟨u, rfl, ru⟩ := vals1 r
  obtain ⟨as, hR, hs⟩ := rp_reads I hr ru
  have hz := hn.shown hW
  have hd := hn.dp
  have fin : ∀ t, EP X pins σ Q (.str d.shown t) { st with toks := st.toks + 1 } := fun t => ⟨.str d.shown, H, I.tok _, ⟨t, rfl⟩, q⟩
  cases hR with
  | none => exact PySem.P.repr_of_none (fin _)
  | bool b => exact PySem.P.repr_of_bool (fin _)
  | int i t => exact PySem.P.repr_of_int (by have := hn.sh; simpa only [PyData.showable, decide_eq_true_eq] using this) (fin _)
  | str x t => exact PySem.P.repr_of_str (fin _) hz
  | list a b c e => exact repr_of_reads' (.list a b c e) hn.sh hs hg (by omega) (fun _ _ z => z) (fun h' t tk hk => ⟨.str _, H, I.kept hk, ⟨t, rfl⟩, q⟩) hz
  | tuple a b c e => exact repr_of_reads' (.tuple a b c e) hn.sh hs hg (by omega) (fun _ _ z => z) (fun h' t tk hk => ⟨.str _, H, I.kept hk, ⟨t, rfl⟩, q⟩) hz
  | dict a b c e f => exact repr_of_reads' (.dict a b c e f) hn.sh hs hg (by omega) (fun _ _ z => z) (fun h' t tk hk => ⟨.str _, H, I.kept hk, ⟨t, rfl⟩, q⟩) hz
end
end PT

set_option maxHeartbeats 4000000
/-! the law's own call, where it is known that nothing is being shown: its body may use repr of data -/
namespace PT
open PySem PySem.Spec PyProof.Rows L2

section
variable {CX : CXT} {P : Program} {w : World} {K : PySem.W.Frag} {mg : Str → Option Value} {base : Heap}
/-- a def's call at one Around, from the reading of its body there -/
theorem at_body {k : Nat} {f : Addr} {name qual : Str} {params : Arguments} {body : List Stmt} {scope : Scope} {dV kV doc pm cdv ct oc : Value} {an od : Option Addr} {osl : Array (Option Value)} {N ps : List Str} {A : Around} {outer : List Env} {st : Shared} {H : Hp} {args : Args} {us : List Value} {vs : List V} {Q : VK} {E : XK}
    (lk : K.lookup f = some ⟨oc, od, .func (PySem.W.fnOf name qual params body scope dV kV doc pm an cdv ct), osl⟩) (cd : PySem.W.codeIn K cdv qual = true) (S : FnScope N ps scope) (room : Room (k + 1) A) (e0 : Env0 P w K mg base A outer st H)
    (bd : BindsTo st (PySem.W.fnOf name qual params body scope dV kV doc pm an cdv ct) args (ps.zip us)) (rv : Vals vs us) (ln : vs.length = ps.length)
    (rd : ∃ t, PSs (cxOf CX P w K mg base N qual scope f cdv A outer st H E) body t ∧ t { nx := fun _ H' => Q .non H', rt := Q } (start N vs) H) :
    codeAny (model P w) A (.call (.ref f) args) (CR CX outer P w H st Q E) st := by
  have kin : K.In st.heap := e0.mod.kin.keeps fun b o z => (e0.bs b o z).1
  have nol : st.heap.NoLimit := e0.mod.nolimit.keeps fun b o z => (e0.bs b o z).1
  have kinds : ∀ y ∈ ps.zip us, scope.names.lookup y.1 = some .local ∨ (scope.names.lookup y.1 = some .cell ∧ ((cellsFrom (st.heap.objs.size + 1) scope.names []).lookup y.1).isSome = true) := by
    rintro ⟨n, v⟩ hy
    exact (S.par n (List.of_mem_zip hy).1).imp id fun z => ⟨z, PySem.W.cellsFrom_some _ _ _ (.inl z)⟩
  refine codeAny_call_function room.depth (kin _ _ lk) rfl S.co S.gen rfl (PySem.W.codeRec_of kin cd) (bd _ _ _ _ (wpAny_newFunctionEnv_cells S.kind kinds fun env ee s1 x => ?_))
  subst ee
  refine ⟨nol.keeps x.toInCall.keep, codeAny_func ?_⟩
  obtain ⟨t, ht, hq⟩ := rd
  have I : Inv (cxOf CX P w K mg base N qual scope f cdv A outer st H E) [] (start N vs) H s1 := inv_start S room.hd e0 ln rv x
  refine wpAny_mono (ht.run [] s1 (start N vs) H _ I hq) (fun fl s2 z => ?_) fun _ _ z => z
  cases fl with
  | ret u =>
    obtain ⟨v, σ2, H2, J, rr, q⟩ := z
    exact ⟨v, H2, J.os, J.bare, J.base, J.hok, rr, q⟩
  | next =>
    obtain ⟨σ2, H2, J, q⟩ := z
    exact ⟨V.non, H2, J.os, J.bare, J.base, J.hok, rfl, q⟩
  | brk =>
    obtain ⟨_, _, _, q⟩ := z
    cases q
  | cont =>
    obtain ⟨_, _, _, q⟩ := z
    cases q
end

/-- the law's call behind the top: only the script may be tracked, and it is known -/
theorem law_atG {P : Program} {w : World} {K : PySem.W.Frag} {mg mb : Str → Option Value} {fa a : Addr} {s₁ : Shared} {vs : List Value} {ns : List Int}
    (kin : K.In s₁.heap) (gl : s₁.heap.Ns mainGlobals mg) (bl : s₁.heap.Ns builtinsNs mb) (bb : ∀ x : Str, x ≠ "__name__" → mb x = bootBuiltins x) (nl : s₁.heap.NoLimit) (gn : s₁.gens = #[])
    (ha : s₁.heap.get? a = some { cls := .type "list", data := .seq vs.toArray }) (hi : IntsAre vs ns) (hl : ns.length ≤ sizeLine)
    (F : ∀ (base : Heap) (H : Hp), K.In base → base.Ns mainGlobals mg → Only H → SqL K H a (ns.map V.int) → Env0 P w K mg base callerA [] s₁ H →
      codeAny (model P w) callerA (.call (.ref fa) ⟨[.ref a], []⟩) (CR CX0 [] P w H s₁ (fun v _ => v = .bl true) fun _ _ _ => False) s₁) :
    codeAny (model P w) callerA (.call (.ref fa) ⟨[.ref a], []⟩) (fun r s' => r = .ok (.ret (.bool true)) ∧ OldK s₁.heap s'.heap ∧ s'.os = s₁.os ∧ AllBare s'.gens) s₁ := by
  have rv := vals_ints hi
  have ln := hi.length
  suffices main : ∃ H : Hp, Only H ∧ SqL K H a (ns.map V.int) ∧ HOk P w H s₁.heap ∧ (∀ b, H b ≠ none → b = a ∧ K.lookup a = none) by
    obtain ⟨H, o1, o2, ok, tr⟩ := main
    have keepH : ∀ {b : Addr} {o : Obj}, s₁.heap.get? b = some o → H b = none → (hidT s₁.heap H).get? b = some o := fun z n => hidT_get z n
    have seqNot : ∀ {b : Addr} {o : Obj} {es : Array DictEntry} {ep : Nat}, s₁.heap.get? b = some o → o.data = .dict es ep → H b = none := by
      intro b o es ep z1 z2
      by_cases n : H b = none
      · exact n
      · rw [(tr b n).1, ha] at z1
        cases z1
        cases z2
    have nss : ∀ {b : Addr} {m : Str → Option Value}, s₁.heap.Ns b m → (hidT s₁.heap H).Ns b m := by
      rintro b m ⟨o, es, ep, z1, z2, r⟩
      exact ⟨o, es, ep, keepH z1 (seqNot z1 z2), z2, r⟩
    have kb : K.In (hidT s₁.heap H) := by
      intro b o z
      refine keepH (kin b o z) ?_
      by_cases n : H b = none
      · exact n
      · obtain ⟨z1, z2⟩ := tr b n
        rw [z1, z2] at z
        cases z
    have md : Mod K mg (hidT s₁.heap H) := by
      obtain ⟨mc, c1, c2⟩ := nl
      exact ⟨kb, nss gl, ⟨mb, nss bl, bb⟩, ⟨mc, nss c1, c2⟩⟩
    have en : Env0 P w K mg (hidT s₁.heap H) callerA [] s₁ H :=
      ⟨rfl, md, fun _ _ z => of_hidT z, Nat.le_of_eq (hidT_size _ _), trivial, fun b z => absurd (show b ∈ ([] : List Addr) from z) (by simp), ok, .of_eq gn⟩
    refine codeAny_mono (F _ H kb (nss gl) o1 o2 en) fun r s2 z => ?_
    match r, z with
    | .error _, z => exact False.elim z
    | .ok .next, z => exact False.elim z
    | .ok .brk, z => exact False.elim z
    | .ok .cont, z => exact False.elim z
    | .ok (.ret u), z =>
      obtain ⟨v, H2, os, bare, un, ok2, rr, q⟩ := z
      have q2 : v = .bl true := q
      subst q2
      obtain rfl : u = Value.bool true := rr
      refine ⟨rfl, .of_keep fun b o z => ?_, os, bare⟩
      by_cases n : H b = none
      · exact un.keep b o z n (fun y => absurd (show b ∈ ([] : List Addr) from y) (by simp)) (by simp)
      · rcases o1 b with y | ⟨ob, xs, y⟩
        · exact absurd y n
        · obtain ⟨y1, _⟩ := ok b _ y
          obtain ⟨y2, _⟩ := ok2 b _ (un.frzs b ob _ y)
          rw [z] at y1
          cases y1
          exact y2
  cases hk : K.lookup a with
  | some o =>
    have z := kin a o hk
    rw [ha] at z
    cases z
    exact ⟨fun _ => none, fun _ => .inl rfl, .inr ⟨_, vs.toArray, _, hk, rfl, rfl, rfl, by rw [List.size_toArray, ln]; exact hl, by simpa using rv⟩, fun _ u y => absurd (show (none : Option HO) = some u from y) (by simp), fun _ y => absurd rfl y⟩
  | none =>
    let scr : HO := .frz { cls := .type "list", data := .seq vs.toArray } (.lst (ns.map V.int))
    refine ⟨fun b => if b = a then some scr else none, fun b => ?_, .inl (.inr ⟨_, if_pos rfl⟩), fun b u z => ?_, fun b z => ?_⟩
    · by_cases e : b = a
      · exact .inr ⟨_, _, if_pos e⟩
      · exact .inl (if_neg e)
    · by_cases e : b = a
      · have z2 : some scr = some u := (if_pos e).symm.trans z
        cases z2
        rw [e]
        exact ⟨ha, by rw [List.length_map]; exact hl, vs, _, rv, ha⟩
      · exact absurd (show (none : Option HO) = some u from (if_neg e).symm.trans z) (by simp)
    · by_cases e : b = a
      · exact ⟨e, rfl⟩
      · exact absurd (if_neg e) z
/-- what k_head leaves, from such a call -/
theorem walk_G {l : PySem.W.OpenLaw} {n : Nat} {q : Program} {loose : List Str} {XP : (Str → Option Value) → Heap → Prop} {YP : World → Heap → Prop} {d : DefRec} {K : Params → PySem.W.Frag}
    (hn : l.most = some n) (hn2 : n ≤ sizeLine) (hdf : d.params.defaults = []) (hY : ∀ (w : World) (h : Heap), YP w h → (K w.params).In h)
    (F : ∀ (w : World) (mg : Str → Option Value) (fa a : Addr) (st : Shared) (base : Heap) (H : Hp) (ns : List Int), (K w.params).In st.heap → st.heap.Ns mainGlobals mg → mg d.name = some (.ref fa) → (K w.params).In base → base.Ns mainGlobals mg → ns.length ≤ n → Only H → SqL (K w.params) H a (ns.map V.int) →
      Env0 l.prog w (K w.params) mg base callerA [] st H → codeAny (model l.prog w) callerA (.call (.ref fa) ⟨[.ref a], []⟩) (CR CX0 [] l.prog w H st (fun v _ => v = .bl true) fun _ _ _ => False) st) :
    PySem.W.WalkO q loose XP YP l.row.toRowW d [] (fun f vs => PySem.call f vs) := by
  refine Att.attach_call hn hdf fun w s₀ s₁ mg mb fa o pm cd doc a vs ns G Y ho hd hcd hmg hobj hints hlen hg => ?_
  have kin := hY w _ Y
  exact law_atG kin G.T.g G.T.b G.T.builtins G.T.nolimit hg hobj hints (Nat.le_trans hlen hn2) fun base H kb gb o1 o2 en => F w mg fa a s₁ base H ns kin G.T.g hmg kb gb hlen o1 o2 en
end PT

/-! plants as lists of ints: customers, paths, suppliers, sizes -/
namespace PT

structure Plant (pl : List Int) : Prop where
  len : pl.length ≤ 39
  ok : ∀ (i : Nat) (x : Int), pl[i]? = some x → 0 ≤ x ∧ x ≤ i
/-- the customer of a station that is not 0 -/
def cu (pl : List Int) (k : Nat) : Nat := min (pl.getD (k - 1) 0).toNat (k - 1)
theorem cu_lt (pl : List Int) {k : Nat} (h : 0 < k) : cu pl k < k := by
  unfold cu
  omega
theorem Plant.at {pl : List Int} (p : Plant pl) {i : Nat} (hi : i < pl.length) : pl[i]? = some ((cu pl (i + 1) : Nat) : Int) := by
  have e : pl[i]? = some pl[i] := List.getElem?_eq_getElem hi
  obtain ⟨h0, h1⟩ := p.ok i _ e
  rw [e]
  unfold cu
  rw [Nat.add_sub_cancel, List.getD_eq_getElem?_getD, e, Option.getD_some]
  congr 1
  omega
/-- the way to station 0 -/
def path (pl : List Int) (k : Nat) : List Nat := if h : 0 < k then k :: path pl (cu pl k) else [k]
termination_by k
decreasing_by exact cu_lt pl h
theorem path_zero (pl : List Int) : path pl 0 = [0] := by
  rw [path]
  rfl
theorem path_pos (pl : List Int) {k : Nat} (h : 0 < k) : path pl k = k :: path pl (cu pl k) := by
  rw [path, dif_pos h]
theorem path_head (pl : List Int) (k : Nat) : (path pl k)[0]? = some k := by
  by_cases h : 0 < k
  · rw [path_pos pl h]; rfl
  · have : k = 0 := by omega
    subst this
    rw [path_zero]; rfl
theorem path_le (pl : List Int) : ∀ (k m : Nat), m ∈ path pl k → m ≤ k := by
  intro k
  induction k using Nat.strongRecOn with
  | ind k ih =>
    intro m hm
    by_cases h : 0 < k
    · rw [path_pos pl h] at hm
      rcases List.mem_cons.mp hm with e | e
      · omega
      · have := ih _ (cu_lt pl h) m e
        have := cu_lt pl h
        omega
    · have e : k = 0 := by omega
      subst e
      rw [path_zero] at hm
      simp at hm
      omega
theorem path_len (pl : List Int) : ∀ (k : Nat), (path pl k).length ≤ k + 1 := by
  intro k
  induction k using Nat.strongRecOn with
  | ind k ih =>
    by_cases h : 0 < k
    · rw [path_pos pl h, List.length_cons]
      have := ih _ (cu_lt pl h)
      have := cu_lt pl h
      omega
    · have e : k = 0 := by omega
      subst e
      rw [path_zero]
      simp
/-- the first station of the way that is at most m -/
def anc (pl : List Int) (m k : Nat) : Nat := if h : m < k then anc pl m (cu pl k) else k
termination_by k
decreasing_by exact cu_lt pl (by omega)
theorem anc_gt (pl : List Int) {m k : Nat} (h : m < k) : anc pl m k = anc pl m (cu pl k) := by
  rw [anc, dif_pos h]
theorem anc_le (pl : List Int) {m k : Nat} (h : k ≤ m) : anc pl m k = k := by
  rw [anc, dif_neg (by omega)]
theorem anc_mem (pl : List Int) (m : Nat) : ∀ k, anc pl m k = m ↔ m ∈ path pl k := by
  intro k
  induction k using Nat.strongRecOn with
  | ind k ih =>
    by_cases h : m < k
    · rw [anc_gt pl h, path_pos pl (by omega), List.mem_cons, ih _ (cu_lt pl (by omega))]
      constructor
      · exact .inr
      · rintro (e | e)
        · omega
        · exact e
    · rw [anc_le pl (by omega)]
      constructor
      · intro e
        subst e
        exact List.mem_of_getElem? (path_head pl k)
      · intro e
        have := path_le pl k m e
        omega
theorem anc_step (pl : List Int) {m : Nat} (hm : 0 < m) : ∀ k, anc pl (m - 1) k = if anc pl m k = m then cu pl m else anc pl m k := by
  intro k
  induction k using Nat.strongRecOn with
  | ind k ih =>
    by_cases h : m < k
    · rw [anc_gt pl h, anc_gt pl (by omega), ih _ (cu_lt pl (by omega))]
    · by_cases e : k = m
      · subst e
        have c := cu_lt pl hm
        rw [anc_gt pl (by omega), anc_le pl (Nat.le_refl k), if_pos rfl, anc_le pl (by omega)]
      · rw [anc_le pl (by omega), anc_le pl (by omega), if_neg e]
/-- how many stations come to j when all above m are passed on -/
def cnt (pl : List Int) (m j : Nat) : Nat := (List.range (pl.length + 1)).countP fun k => decide (anc pl m k = j)
theorem countP_or {α : Type} {p q r : α → Bool} (h : ∀ x, r x = (p x || q x)) (d : ∀ x, p x = true → q x = false) : ∀ l : List α, l.countP r = l.countP p + l.countP q
  | [] => rfl
  | x :: l => by
    rw [List.countP_cons, List.countP_cons, List.countP_cons, countP_or h d l, h x]
    cases ep : p x with
    | true =>
      rw [d x ep]
      simp
      omega
    | false =>
      cases q x <;> simp <;> omega
theorem countP_none {α : Type} {p : α → Bool} (h : ∀ x, p x = false) : ∀ l : List α, l.countP p = 0
  | [] => rfl
  | x :: l => by rw [List.countP_cons, countP_none h l, h x]; rfl
theorem cnt_step (pl : List Int) {m j : Nat} (hm : 0 < m) (hj : j < m) : cnt pl (m - 1) j = cnt pl m j + if cu pl m = j then cnt pl m m else 0 := by
  unfold cnt
  by_cases c : cu pl m = j
  · rw [if_pos c]
    refine countP_or (fun k => ?_) (fun k h => ?_) _
    · rw [anc_step pl hm k]
      by_cases e : anc pl m k = m
      · rw [if_pos e, c]
        simp [e]
      · rw [if_neg e]
        simp [e]
    · have := of_decide_eq_true h
      exact decide_eq_false (by omega)
  · rw [if_neg c, Nat.add_zero]
    congr 1
    funext k
    rw [anc_step pl hm k]
    by_cases e : anc pl m k = m
    · rw [if_pos e]
      have h1 : ¬ anc pl m k = j := by omega
      simp [c, h1]
    · rw [if_neg e]
theorem countP_one (j : Nat) : ∀ n, (List.range n).countP (fun k => decide (k = j)) = if j < n then 1 else 0
  | 0 => rfl
  | n + 1 => by
    rw [List.range_succ, List.countP_append, countP_one j n]
    simp only [List.countP_cons, List.countP_nil]
    by_cases e : n = j
    · subst e
      simp
    · by_cases h : j < n
      · have h2 : j < n + 1 := by omega
        simp [e, h, h2]
      · have h2 : ¬ j < n + 1 := by omega
        simp [e, h, h2]
theorem cnt_top (pl : List Int) {j : Nat} (hj : j ≤ pl.length) : cnt pl pl.length j = 1 := by
  unfold cnt
  have e : (List.range (pl.length + 1)).countP (fun k => decide (anc pl pl.length k = j)) = (List.range (pl.length + 1)).countP (fun k => decide (k = j)) := by
    refine List.countP_congr fun k hk => ?_
    have : k ≤ pl.length := by have := List.mem_range.mp hk; omega
    rw [anc_le pl this]
  rw [e, countP_one, if_pos (by omega)]
/-- the size of a station -/
def sz (pl : List Int) (j : Nat) : Nat := (List.range (pl.length + 1)).countP fun k => decide (j ∈ path pl k)
theorem cnt_sz (pl : List Int) (j : Nat) : cnt pl j j = sz pl j := by
  unfold cnt sz
  refine List.countP_congr fun k _ => ?_
  simp only [decide_eq_true_eq]
  exact anc_mem pl j k
/-- the list of sizes when the stations above m are passed on -/
def szs (pl : List Int) (m : Nat) : List Int := (List.range (pl.length + 1)).map fun j => if j ≤ m then ((cnt pl m j : Nat) : Int) else ((sz pl j : Nat) : Int)
theorem szs_len (pl : List Int) (m : Nat) : (szs pl m).length = pl.length + 1 := by
  unfold szs
  rw [List.length_map, List.length_range]
theorem szs_at (pl : List Int) (m : Nat) {j : Nat} (hj : j ≤ pl.length) : (szs pl m)[j]? = some (if j ≤ m then ((cnt pl m j : Nat) : Int) else ((sz pl j : Nat) : Int)) := by
  unfold szs
  rw [List.getElem?_map, List.getElem?_range (by omega)]
  rfl
theorem szs_top (pl : List Int) : szs pl pl.length = List.replicate (pl.length + 1) 1 := by
  refine List.ext_getElem? fun j => ?_
  by_cases hj : j ≤ pl.length
  · rw [szs_at pl _ hj, if_pos hj, cnt_top pl hj, List.getElem?_replicate, if_pos (by omega)]
    rfl
  · rw [List.getElem?_eq_none (by rw [szs_len]; omega), List.getElem?_eq_none (by rw [List.length_replicate]; omega)]
theorem szs_step (pl : List Int) {m : Nat} (hm : 0 < m) (hn : m ≤ pl.length) : szs pl (m - 1) = (szs pl m).set (cu pl m) (((cnt pl m (cu pl m) : Nat) : Int) + ((cnt pl m m : Nat) : Int)) := by
  have hc := cu_lt pl hm
  refine List.ext_getElem? fun j => ?_
  by_cases hj : j ≤ pl.length
  · rw [szs_at pl _ hj]
    by_cases e : cu pl m = j
    · subst e
      rw [List.getElem?_set_self (by rw [szs_len]; omega), if_pos (by omega), cnt_step pl hm hc, if_pos rfl]
      congr 1
    · rw [List.getElem?_set_ne e, szs_at pl _ hj]
      by_cases h1 : j ≤ m - 1
      · rw [if_pos h1, if_pos (by omega), cnt_step pl hm (by omega), if_neg e, Nat.add_zero]
      · rw [if_neg h1]
        by_cases h2 : j ≤ m
        · have : j = m := by omega
          subst this
          rw [if_pos (Nat.le_refl _), cnt_sz]
        · rw [if_neg h2]
  · rw [List.getElem?_eq_none (by rw [szs_len]; omega), List.getElem?_eq_none (by rw [List.length_set, szs_len]; omega)]
theorem szs_zero (pl : List Int) {j : Nat} (hj : j ≤ pl.length) : (szs pl 0)[j]? = some ((sz pl j : Nat) : Int) := by
  rw [szs_at pl 0 hj]
  by_cases h : j ≤ 0
  · have : j = 0 := by omega
    subst this
    rw [if_pos (Nat.le_refl _), cnt_sz]
  · rw [if_neg h]
theorem cnt_le (pl : List Int) (m j : Nat) : cnt pl m j ≤ pl.length + 1 := by
  unfold cnt
  exact Nat.le_trans List.countP_le_length (by rw [List.length_range]; exact Nat.le_refl _)
theorem sz_le (pl : List Int) (j : Nat) : sz pl j ≤ pl.length + 1 := by
  rw [← cnt_sz]
  exact cnt_le pl j j

/-- the suppliers of j among the first i stations that have a customer -/
def sup (pl : List Int) (i j : Nat) : List Int := ((List.range i).filter fun k => decide (pl.getD k 0 = (j : Int))).map fun k => ((k : Nat) : Int) + 1
theorem sup_zero (pl : List Int) (j : Nat) : sup pl 0 j = [] := rfl
theorem sup_step {pl : List Int} {i : Nat} {x : Int} (j : Nat) (h : pl[i]? = some x) : sup pl (i + 1) j = if x = (j : Int) then sup pl i j ++ [((i : Nat) : Int) + 1] else sup pl i j := by
  unfold sup
  rw [List.range_succ, List.filter_append, List.map_append]
  have e : pl[i]?.getD 0 = x := by rw [h]; rfl
  by_cases c : x = (j : Int)
  · rw [if_pos c]
    simp [e, c]
  · rw [if_neg c]
    simp [e, c]
theorem sup_len (pl : List Int) (i j : Nat) : (sup pl i j).length ≤ i := by
  unfold sup
  rw [List.length_map]
  exact Nat.le_trans (List.length_filter_le ..) (by rw [List.length_range]; exact Nat.le_refl _)
theorem sup_small (pl : List Int) (i j : Nat) : ∀ n ∈ sup pl i j, 0 ≤ n ∧ n ≤ i := by
  intro n hn
  unfold sup at hn
  obtain ⟨k, hk, rfl⟩ := List.mem_map.mp hn
  have := List.mem_range.mp (List.mem_filter.mp hk).1
  omega
theorem sup_nil {pl : List Int} (j : Nat) : sup pl pl.length j = [] ↔ (j : Int) ∉ pl := by
  constructor
  · intro h hm
    obtain ⟨k, hk, e⟩ := List.getElem_of_mem hm
    have : ((k : Nat) : Int) + 1 ∈ sup pl pl.length j := by
      unfold sup
      refine List.mem_map.mpr ⟨k, List.mem_filter.mpr ⟨List.mem_range.mpr hk, ?_⟩, rfl⟩
      rw [decide_eq_true_eq, List.getD_eq_getElem?_getD, List.getElem?_eq_getElem hk, Option.getD_some]
      exact e
    rw [h] at this
    cases this
  · intro h
    unfold sup
    rw [List.map_eq_nil_iff, List.filter_eq_nil_iff]
    intro k hk c
    have hk' := List.mem_range.mp hk
    have e := of_decide_eq_true c
    rw [List.getD_eq_getElem?_getD, List.getElem?_eq_getElem hk', Option.getD_some] at e
    exact h (e ▸ List.getElem_mem hk')
/-- the makers -/
def mks (pl : List Int) (i : Nat) : List Int := ((List.range i).filter fun (j : Nat) => decide ((j : Int) ∉ pl)).map fun (j : Nat) => (j : Int)
theorem mks_step (pl : List Int) (i : Nat) : mks pl (i + 1) = if (i : Int) ∈ pl then mks pl i else mks pl i ++ [((i : Nat) : Int)] := by
  unfold mks
  rw [List.range_succ, List.filter_append, List.map_append]
  by_cases c : (i : Int) ∈ pl
  · rw [if_pos c]
    simp [c]
  · rw [if_neg c]
    simp [c]
theorem mks_len (pl : List Int) (i : Nat) : (mks pl i).length ≤ i := by
  unfold mks
  rw [List.length_map]
  exact Nat.le_trans (List.length_filter_le ..) (by rw [List.length_range]; exact Nat.le_refl _)
theorem mks_small (pl : List Int) (i : Nat) : ∀ n ∈ mks pl i, 0 ≤ n ∧ n ≤ i := by
  intro n hn
  unfold mks at hn
  obtain ⟨k, hk, rfl⟩ := List.mem_map.mp hn
  have := List.mem_range.mp (List.mem_filter.mp hk).1
  omega
end PT

/-! a day of a plant, as a function on lists -/
namespace PT

theorem sup_gt {pl : List Int} (hP : Plant pl) {j : Nat} {n : Int} (h : n ∈ sup pl pl.length j) : ∃ k : Nat, n = (k : Int) ∧ j < k ∧ k ≤ pl.length := by
  unfold sup at h
  obtain ⟨k, hk, rfl⟩ := List.mem_map.mp h
  obtain ⟨h1, h2⟩ := List.mem_filter.mp hk
  have hk' := List.mem_range.mp h1
  have e : pl[k]? = some pl[k] := List.getElem?_eq_getElem hk'
  obtain ⟨a, b⟩ := hP.ok k _ e
  have c := of_decide_eq_true h2
  rw [List.getD_eq_getElem?_getD, e, Option.getD_some] at c
  exact ⟨k + 1, by omega, by omega, by omega⟩
/-- the number of the box at a station -/
def bx (ss : List Int) (k : Int) : Int := ss.getD k.toNat 0
/-- the first of the stations with the oldest box -/
def pickB (ss : List Int) (b : Int) (l : List Int) : Int := l.foldl (fun b o => if bx ss o < bx ss b then o else b) b
theorem pickB_mem (ss : List Int) : ∀ (l : List Int) (b : Int), pickB ss b l ∈ b :: l
  | [], b => List.mem_cons_self
  | o :: l, b => by
    have ih := pickB_mem ss l (if bx ss o < bx ss b then o else b)
    show pickB ss (if bx ss o < bx ss b then o else b) l ∈ b :: o :: l
    rcases List.mem_cons.mp ih with e | e
    · rw [e]
      by_cases c : bx ss o < bx ss b
      · rw [if_pos c]; simp
      · rw [if_neg c]; simp
    · exact List.mem_cons_of_mem _ (List.mem_cons_of_mem _ e)
theorem pickB_le (ss : List Int) : ∀ (l : List Int) (b : Int), ∀ x ∈ b :: l, bx ss (pickB ss b l) ≤ bx ss x
  | [], b, x, h => by
    rw [List.mem_singleton.mp h]
    exact Int.le_refl _
  | o :: l, b, x, h => by
    have ih := pickB_le ss l (if bx ss o < bx ss b then o else b)
    show bx ss (pickB ss (if bx ss o < bx ss b then o else b) l) ≤ bx ss x
    have h0 := ih _ List.mem_cons_self
    rcases List.mem_cons.mp h with e | e
    · subst e
      by_cases c : bx ss o < bx ss x
      · rw [if_pos c] at h0 ⊢
        omega
      · rw [if_neg c] at h0 ⊢
        exact h0
    · rcases List.mem_cons.mp e with e | e
      · subst e
        by_cases c : bx ss x < bx ss b
        · rw [if_pos c] at h0 ⊢
          exact h0
        · rw [if_neg c] at h0 ⊢
          omega
      · exact ih x (List.mem_cons_of_mem _ e)
/-- the supplier that gives to j; 0 for a maker -/
def bst (pl ss : List Int) (j : Nat) : Nat := match sup pl pl.length j with
  | [] => 0
  | h :: r => (pickB ss h (h :: r)).toNat
theorem bst_nil {pl ss : List Int} {j : Nat} (h : sup pl pl.length j = []) : bst pl ss j = 0 := by
  unfold bst
  rw [h]
theorem bst_cons {pl ss : List Int} {j : Nat} {h : Int} {r : List Int} (hP : Plant pl) (e : sup pl pl.length j = h :: r) : pickB ss h (h :: r) = ((bst pl ss j : Nat) : Int) ∧ pickB ss h (h :: r) ∈ sup pl pl.length j ∧ j < bst pl ss j ∧ bst pl ss j ≤ pl.length := by
  have hm : pickB ss h (h :: r) ∈ sup pl pl.length j := by
    rw [e]
    rcases List.mem_cons.mp (pickB_mem ss (h :: r) h) with z | z
    · rw [z]
      exact List.mem_cons_self
    · exact z
  obtain ⟨k, ek, h1, h2⟩ := sup_gt hP hm
  have eb : bst pl ss j = k := by
    unfold bst
    rw [e]
    show (pickB ss h (h :: r)).toNat = k
    omega
  rw [eb]
  exact ⟨ek, hm, h1, h2⟩
/-- the greatest number -/
def mxv : List Int → Int
  | [] => 0
  | x :: r => r.foldl max x
theorem fold_max : ∀ (r : List Int) (x : Int), r.foldl max x ∈ x :: r ∧ ∀ y ∈ x :: r, y ≤ r.foldl max x
  | [], x => ⟨List.mem_cons_self, fun y h => by rw [List.mem_singleton.mp h]; exact Int.le_refl _⟩
  | z :: r, x => by
    obtain ⟨h1, h2⟩ := fold_max r (max x z)
    rw [List.foldl_cons]
    refine ⟨?_, fun y h => ?_⟩
    · rcases List.mem_cons.mp h1 with e | e
      · rw [e]
        by_cases c : x ≤ z
        · rw [Int.max_eq_right c]; simp
        · rw [Int.max_eq_left (by omega)]; simp
      · exact List.mem_cons_of_mem _ (List.mem_cons_of_mem _ e)
    · have h0 := h2 _ List.mem_cons_self
      rcases List.mem_cons.mp h with e | e
      · subst e
        omega
      · rcases List.mem_cons.mp e with e | e
        · subst e
          omega
        · exact h2 y (List.mem_cons_of_mem _ e)
theorem mxv_mem {l : List Int} (h : l ≠ []) : mxv l ∈ l ∧ ∀ y ∈ l, y ≤ mxv l := by
  cases l with
  | nil => exact absurd rfl h
  | cons x r => exact fold_max r x
theorem mxv_of {l : List Int} {m : Int} (h : m ∈ l) (u : ∀ y ∈ l, y ≤ m) : m = mxv l := by
  have hn : l ≠ [] := fun e => by
    rw [e] at h
    cases h
  obtain ⟨a, b⟩ := mxv_mem hn
  have := u _ a
  have := b _ h
  omega
/-- the day from a row, where the chain has come to c -/
def go (pl ss row : List Int) (pre : List Nat) (c : Nat) : List Nat × List Int :=
  if h : c < bst pl ss c ∧ bst pl ss c ≤ pl.length then go pl ss (row.set c (bx ss (bst pl ss c))) (pre ++ [c]) (bst pl ss c) else (pre ++ [c], row.set c (mxv ss + 1))
termination_by pl.length - c
decreasing_by omega
theorem go_on {pl ss row : List Int} {pre : List Nat} {c : Nat} (h : c < bst pl ss c ∧ bst pl ss c ≤ pl.length) : go pl ss row pre c = go pl ss (row.set c (bx ss (bst pl ss c))) (pre ++ [c]) (bst pl ss c) := by
  rw [go, dif_pos h]
theorem go_end {pl ss row : List Int} {pre : List Nat} {c : Nat} (h : ¬ (c < bst pl ss c ∧ bst pl ss c ≤ pl.length)) : go pl ss row pre c = (pre ++ [c], row.set c (mxv ss + 1)) := by
  rw [go, dif_neg h]
/-- a day that begins at j: the chain, the row behind it -/
def day (pl ss : List Int) (j : Nat) : List Nat × List Int := go pl ss ss [] j
theorem perm_set {α : Type} : ∀ {l : List α} {i : Nat} {a : α} (x : α), l[i]? = some a → (a :: l.set i x).Perm (x :: l)
  | [], _, _, _, h => by simp at h
  | y :: r, 0, a, x, h => by
    have e : y = a := Option.some.inj h
    subst e
    exact List.Perm.swap x y r
  | y :: r, i + 1, a, x, h => by
    have ih := perm_set (l := r) (i := i) (a := a) x (by simpa using h)
    show (a :: y :: r.set i x).Perm (x :: y :: r)
    exact ((List.Perm.swap y a (r.set i x)).trans (ih.cons y)).trans (List.Perm.swap x y r)
/-- what a row has to do with the stock while the chain stands at c -/
structure Row (pl ss row : List Int) (s0 : Int) (c : Nat) : Prop where
  len : row.length = ss.length
  top : ∀ k, c ≤ k → row[k]? = ss[k]?
  pm : (s0 :: row).Perm (bx ss c :: ss)
theorem bx_at {ss : List Int} {k : Nat} (h : k < ss.length) : ss[k]? = some (bx ss k) := by
  unfold bx
  rw [Int.toNat_natCast, List.getD_eq_getElem?_getD, List.getElem?_eq_getElem h, Option.getD_some]
theorem Row.start {pl ss : List Int} {c : Nat} (h : c < ss.length) : Row pl ss ss (bx ss c) c := ⟨rfl, fun _ _ => rfl, .refl _⟩
theorem Row.next {pl ss row : List Int} {s0 : Int} {c d : Nat} (h : Row pl ss row s0 c) (hc : c < ss.length) (hd : c < d) : Row pl ss (row.set c (bx ss d)) s0 d := by
  have ec : row[c]? = some (bx ss c) := by
    rw [h.top c (Nat.le_refl _)]
    exact bx_at hc
  refine ⟨by rw [List.length_set]; exact h.len, fun k hk => ?_, ?_⟩
  · rw [List.getElem?_set_ne (by omega)]
    exact h.top k (by omega)
  · have p1 := perm_set (bx ss d) ec
    have p2 : (bx ss c :: s0 :: row.set c (bx ss d)).Perm (bx ss c :: bx ss d :: ss) :=
      (List.Perm.swap s0 (bx ss c) _).trans ((p1.cons s0).trans ((List.Perm.swap (bx ss d) s0 row).trans ((h.pm.cons (bx ss d)).trans (List.Perm.swap (bx ss c) (bx ss d) ss))))
    exact p2.cons_inv
theorem go_ok {pl ss : List Int} (hs : ss.length = pl.length + 1) : ∀ (n : Nat) (row : List Int) (pre : List Nat) (c : Nat) (s0 : Int), pl.length - c = n → c ≤ pl.length → Row pl ss row s0 c →
    (go pl ss row pre c).2.length = ss.length ∧ (s0 :: (go pl ss row pre c).2).Perm ((mxv ss + 1) :: ss) ∧ (∀ x ∈ (go pl ss row pre c).1, x ∈ pre ∨ x ≤ pl.length) ∧ (go pl ss row pre c).1.length ≤ pre.length + (pl.length + 1 - c) ∧ ∃ r, (go pl ss row pre c).1 = pre ++ c :: r := by
  intro n
  induction n using Nat.strongRecOn with
  | ind n ih =>
    intro row pre c s0 hn hc hR
    have hc' : c < ss.length := by omega
    by_cases h : c < bst pl ss c ∧ bst pl ss c ≤ pl.length
    · rw [go_on h]
      obtain ⟨a1, a2, a3, a4, r, a5⟩ := ih (pl.length - bst pl ss c) (by omega) (row.set c (bx ss (bst pl ss c))) (pre ++ [c]) (bst pl ss c) s0 rfl h.2 (hR.next hc' h.1)
      refine ⟨a1, a2, fun x hx => ?_, ?_, bst pl ss c :: r, by rw [a5, List.append_assoc]; rfl⟩
      · rcases a3 x hx with z | z
        · rcases List.mem_append.mp z with z | z
          · exact .inl z
          · exact .inr (by rw [List.mem_singleton.mp z]; exact hc)
        · exact .inr z
      · rw [List.length_append] at a4
        have z : ([c] : List Nat).length = 1 := rfl
        omega
    · rw [go_end h]
      have ec : row[c]? = some (bx ss c) := by
        rw [hR.top c (Nat.le_refl _)]
        exact bx_at hc'
      refine ⟨by rw [List.length_set]; exact hR.len, ?_, fun x hx => ?_, ?_, [], rfl⟩
      · have p1 := perm_set (mxv ss + 1) ec
        have p2 : (bx ss c :: s0 :: row.set c (mxv ss + 1)).Perm (bx ss c :: (mxv ss + 1) :: ss) :=
          (List.Perm.swap s0 (bx ss c) _).trans ((p1.cons s0).trans ((List.Perm.swap (mxv ss + 1) s0 row).trans ((hR.pm.cons (mxv ss + 1)).trans (List.Perm.swap (bx ss c) (mxv ss + 1) ss))))
        exact p2.cons_inv
      · rcases List.mem_append.mp hx with z | z
        · exact .inl z
        · exact .inr (by rw [List.mem_singleton.mp z]; exact hc)
      · rw [List.length_append]
        have z : ([c] : List Nat).length = 1 := rfl
        omega
/-- a day keeps a stock a stock -/
theorem day_ok {pl ss : List Int} (hs : ss.length = pl.length + 1) (hn : ss.Nodup) {j : Nat} (hj : j ≤ pl.length) :
    (day pl ss j).2.length = pl.length + 1 ∧ (day pl ss j).2.Nodup ∧ (∀ x ∈ (day pl ss j).2, x ∈ ss ∨ x = mxv ss + 1) ∧ (∀ x ∈ (day pl ss j).1, x ≤ pl.length) ∧ (day pl ss j).1.length ≤ pl.length + 1 := by
  obtain ⟨a1, a2, a3, a4, _⟩ := go_ok hs _ ss [] j (bx ss j) rfl hj (Row.start (by omega))
  have hne : ss ≠ [] := fun e => by
    rw [e] at hs
    simp at hs
  obtain ⟨m1, m2⟩ := mxv_mem hne
  have nd : ((mxv ss + 1) :: ss).Nodup := List.nodup_cons.mpr ⟨fun h => by have := m2 _ h; omega, hn⟩
  have nd2 := a2.nodup_iff.mpr nd
  refine ⟨by unfold day; rw [a1]; exact hs, (List.nodup_cons.mp nd2).2, fun x hx => ?_, fun x hx => ?_, ?_⟩
  · have z := a2.mem_iff.mp (List.mem_cons_of_mem _ hx)
    rcases List.mem_cons.mp z with e | e
    · exact .inr e
    · exact .inl e
  · rcases a3 x hx with z | z
    · cases z
    · exact z
  · unfold day
    have z : ([] : List Nat).length = 0 := rfl
    omega
end PT

/-! stocks that are ordered: a day keeps them, and each stock becomes one -/
namespace PT

theorem sup_cu {pl : List Int} (hP : Plant pl) {j k : Nat} : ((k : Nat) : Int) ∈ sup pl pl.length j ↔ 0 < k ∧ k ≤ pl.length ∧ cu pl k = j := by
  unfold sup
  rw [List.mem_map]
  constructor
  · rintro ⟨i, hi, e⟩
    obtain ⟨h1, h2⟩ := List.mem_filter.mp hi
    have hi' := List.mem_range.mp h1
    have ek : k = i + 1 := by omega
    subst ek
    have e2 := hP.at hi'
    have c := of_decide_eq_true h2
    rw [List.getD_eq_getElem?_getD, e2, Option.getD_some] at c
    exact ⟨by omega, by omega, by omega⟩
  · rintro ⟨h1, h2, h3⟩
    refine ⟨k - 1, List.mem_filter.mpr ⟨List.mem_range.mpr (by omega), decide_eq_true ?_⟩, by omega⟩
    have e2 := hP.at (i := k - 1) (by omega)
    rw [show k - 1 + 1 = k by omega] at e2
    rw [List.getD_eq_getElem?_getD, e2, Option.getD_some, h3]
/-- does a station give to j? -/
def gives (pl ss : List Int) (j : Nat) : Prop := j < bst pl ss j ∧ bst pl ss j ≤ pl.length
instance (pl ss : List Int) (j : Nat) : Decidable (gives pl ss j) := inferInstanceAs (Decidable (_ ∧ _))
theorem gives_of {pl ss : List Int} (hP : Plant pl) {k : Nat} (h0 : 0 < k) (h1 : k ≤ pl.length) : gives pl ss (cu pl k) ∧ bx ss (bst pl ss (cu pl k)) ≤ bx ss k := by
  have hm := (sup_cu hP).mpr ⟨h0, h1, rfl⟩
  cases e : sup pl pl.length (cu pl k) with
  | nil => rw [e] at hm; cases hm
  | cons h r =>
    obtain ⟨b1, b2, b3, b4⟩ := bst_cons (ss := ss) hP e
    rw [e] at hm
    have z := pickB_le ss (h :: r) h k (List.mem_cons_of_mem _ hm)
    rw [b1] at z
    exact ⟨⟨b3, b4⟩, z⟩
theorem gives_cu {pl ss : List Int} (hP : Plant pl) {j : Nat} (h : gives pl ss j) : cu pl (bst pl ss j) = j := by
  cases e : sup pl pl.length j with
  | nil =>
    have z := bst_nil (ss := ss) e
    unfold gives at h
    omega
  | cons a r =>
    obtain ⟨b1, b2, b3, b4⟩ := bst_cons (ss := ss) hP e
    rw [b1] at b2
    exact ((sup_cu hP).mp b2).2.2
/-- the chain from c on -/
def chn (pl ss : List Int) (c : Nat) : List Nat := if h : c < bst pl ss c ∧ bst pl ss c ≤ pl.length then c :: chn pl ss (bst pl ss c) else [c]
termination_by pl.length - c
decreasing_by omega
theorem chn_on {pl ss : List Int} {c : Nat} (h : gives pl ss c) : chn pl ss c = c :: chn pl ss (bst pl ss c) := by
  rw [chn, dif_pos (show c < bst pl ss c ∧ bst pl ss c ≤ pl.length from h)]
theorem chn_end {pl ss : List Int} {c : Nat} (h : ¬ gives pl ss c) : chn pl ss c = [c] := by
  rw [chn, dif_neg (show ¬ (c < bst pl ss c ∧ bst pl ss c ≤ pl.length) from h)]
theorem chn_self {pl ss : List Int} (c : Nat) : c ∈ chn pl ss c := by
  by_cases h : gives pl ss c
  · rw [chn_on h]; exact List.mem_cons_self
  · rw [chn_end h]; exact List.mem_cons_self
theorem chn_le {pl ss : List Int} : ∀ (n c : Nat), pl.length - c = n → c ≤ pl.length → ∀ k ∈ chn pl ss c, c ≤ k ∧ k ≤ pl.length := by
  intro n
  induction n using Nat.strongRecOn with
  | ind n ih =>
    intro c hn hc k hk
    by_cases h : gives pl ss c
    · rw [chn_on h] at hk
      unfold gives at h
      rcases List.mem_cons.mp hk with z | z
      · omega
      · have := ih (pl.length - bst pl ss c) (by omega) (bst pl ss c) rfl h.2 k z
        omega
    · rw [chn_end h] at hk
      have := List.mem_singleton.mp hk
      omega
theorem chn_down {pl ss : List Int} : ∀ (n c : Nat), pl.length - c = n → ∀ k ∈ chn pl ss c, gives pl ss k → bst pl ss k ∈ chn pl ss c := by
  intro n
  induction n using Nat.strongRecOn with
  | ind n ih =>
    intro c hn k hk hg
    by_cases h : gives pl ss c
    · rw [chn_on h] at hk ⊢
      rcases List.mem_cons.mp hk with z | z
      · rw [z]
        exact List.mem_cons_of_mem _ (chn_self _)
      · unfold gives at h
        exact List.mem_cons_of_mem _ (ih (pl.length - bst pl ss c) (by omega) (bst pl ss c) rfl k z hg)
    · rw [chn_end h] at hk
      rw [List.mem_singleton.mp hk] at hg
      exact absurd hg h
theorem chn_up {pl ss : List Int} : ∀ (n c : Nat), pl.length - c = n → ∀ k ∈ chn pl ss c, k = c ∨ ∃ p ∈ chn pl ss c, gives pl ss p ∧ bst pl ss p = k := by
  intro n
  induction n using Nat.strongRecOn with
  | ind n ih =>
    intro c hn k hk
    by_cases h : gives pl ss c
    · rw [chn_on h] at hk ⊢
      rcases List.mem_cons.mp hk with z | z
      · exact .inl z
      · have h' := h
        unfold gives at h'
        rcases ih (pl.length - bst pl ss c) (by omega) (bst pl ss c) rfl k z with y | ⟨p, y, w⟩
        · exact .inr ⟨c, List.mem_cons_self, h, y.symm⟩
        · exact .inr ⟨p, List.mem_cons_of_mem _ y, w⟩
    · rw [chn_end h] at hk
      exact .inl (List.mem_singleton.mp hk)
/-- what comes to a station of the chain -/
def nxt (pl ss : List Int) (j : Nat) : Int := if gives pl ss j then bx ss (bst pl ss j) else mxv ss + 1
theorem go_chn {pl ss : List Int} : ∀ (n : Nat) (row : List Int) (pre : List Nat) (c : Nat), pl.length - c = n → (go pl ss row pre c).1 = pre ++ chn pl ss c := by
  intro n
  induction n using Nat.strongRecOn with
  | ind n ih =>
    intro row pre c hn
    by_cases h : gives pl ss c
    · have h' := h
      unfold gives at h'
      rw [go_on h', ih (pl.length - bst pl ss c) (by omega) _ _ _ rfl, chn_on h, List.append_assoc]
      rfl
    · rw [go_end h, chn_end h]
theorem go_at {pl ss : List Int} : ∀ (n : Nat) (row : List Int) (pre : List Nat) (c : Nat), pl.length - c = n → c ≤ pl.length → row.length = pl.length + 1 → ∀ j, j ≤ pl.length → (go pl ss row pre c).2[j]? = if j ∈ chn pl ss c then some (nxt pl ss j) else row[j]? := by
  intro n
  induction n using Nat.strongRecOn with
  | ind n ih =>
    intro row pre c hn hc hr j hj
    by_cases h : gives pl ss c
    · have h' := h
      unfold gives at h'
      rw [go_on h', ih (pl.length - bst pl ss c) (by omega) _ _ _ rfl h'.2 (by rw [List.length_set]; exact hr) j hj, chn_on h]
      by_cases hm : j ∈ chn pl ss (bst pl ss c)
      · rw [if_pos hm, if_pos (List.mem_cons_of_mem _ hm)]
      · rw [if_neg hm]
        by_cases e : j = c
        · subst e
          rw [if_pos List.mem_cons_self, List.getElem?_set_self (by omega)]
          unfold nxt
          rw [if_pos h]
        · rw [if_neg (fun z => (List.mem_cons.mp z).elim e hm), List.getElem?_set_ne (fun z => e z.symm)]
    · rw [go_end h, chn_end h]
      by_cases e : j = c
      · subst e
        rw [if_pos List.mem_cons_self, List.getElem?_set_self (by omega)]
        unfold nxt
        rw [if_neg h]
      · rw [if_neg (fun z => e (List.mem_singleton.mp z)), List.getElem?_set_ne (fun z => e z.symm)]
theorem bx_some {ss : List Int} {k : Nat} {v : Int} (h : ss[k]? = some v) : bx ss k = v := by
  unfold bx
  rw [Int.toNat_natCast, List.getD_eq_getElem?_getD, h, Option.getD_some]
theorem day_at {pl ss : List Int} (hs : ss.length = pl.length + 1) {j : Nat} (hj : j ≤ pl.length) : bx (day pl ss 0).2 j = if j ∈ chn pl ss 0 then nxt pl ss j else bx ss j := by
  have z := go_at (pl := pl) (ss := ss) _ ss [] 0 rfl (Nat.zero_le _) hs j hj
  by_cases h : j ∈ chn pl ss 0
  · rw [if_pos h] at z ⊢
    exact bx_some z
  · rw [if_neg h] at z ⊢
    rw [bx_at (ss := ss) (k := j) (by omega)] at z
    exact bx_some z
theorem day_chn {pl ss : List Int} (j : Nat) : (day pl ss j).1 = chn pl ss j := go_chn _ ss [] j rfl
theorem bx_inj {ss : List Int} (hn : ss.Nodup) {i j : Nat} (hi : i < ss.length) (hj : j < ss.length) (h : bx ss i = bx ss j) : i = j := by
  have ei := bx_at hi
  have ej := bx_at hj
  rw [← h] at ej
  exact (List.getElem?_inj hi hn).mp (ei.trans ej.symm)
theorem bx_mem {ss : List Int} {k : Nat} (h : k < ss.length) : bx ss k ∈ ss := List.mem_of_getElem? (bx_at h)
theorem mxv_lt {ss : List Int} {k : Nat} (h : k < ss.length) : bx ss k < mxv ss + 1 := by
  have hne : ss ≠ [] := fun e => by
    rw [e] at h
    cases h
  have := (mxv_mem hne).2 _ (bx_mem h)
  omega
/-- boxes of a kind are older than those that wait below -/
def Waits (N : Int → Prop) (pl ss : List Int) : Prop := ∀ k : Nat, 0 < k → k ≤ pl.length → N (bx ss (cu pl k)) → bx ss (cu pl k) < bx ss k
theorem inv_day {N : Int → Prop} {pl ss : List Int} (hP : Plant pl) (hs : ss.length = pl.length + 1) (hn : ss.Nodup) (h : Waits N pl ss) : Waits N pl (day pl ss 0).2 := by
  intro k h0 h1 hN
  have hc := cu_lt pl h0
  rw [day_at hs (j := cu pl k) (by omega)] at hN ⊢
  rw [day_at hs h1]
  obtain ⟨g1, g2⟩ := gives_of (ss := ss) hP h0 h1
  by_cases hm : cu pl k ∈ chn pl ss 0
  · rw [if_pos hm] at hN ⊢
    have en : nxt pl ss (cu pl k) = bx ss (bst pl ss (cu pl k)) := by
      unfold nxt
      rw [if_pos g1]
    rw [en] at hN ⊢
    by_cases hk : k ∈ chn pl ss 0
    · rw [if_pos hk]
      have ek : bst pl ss (cu pl k) = k := by
        rcases chn_up _ 0 rfl k hk with z | ⟨p, _, gp, ep⟩
        · omega
        · have := gives_cu hP gp
          rw [ep] at this
          rw [this]
          exact ep
      rw [ek] at hN ⊢
      unfold nxt
      by_cases gk : gives pl ss k
      · rw [if_pos gk]
        have e2 := gives_cu hP gk
        have h3 := h (bst pl ss k) (by unfold gives at gk; omega) gk.2
        rw [e2] at h3
        exact h3 hN
      · rw [if_neg gk]
        exact mxv_lt (by omega)
    · rw [if_neg hk]
      have hne : bx ss (bst pl ss (cu pl k)) ≠ bx ss k := fun e => by
        have z := bx_inj hn (by have := g1.2; omega) (by omega) e
        exact hk (z ▸ chn_down _ 0 rfl _ hm g1)
      omega
  · rw [if_neg hm] at hN ⊢
    have hk : k ∉ chn pl ss 0 := fun z => by
      rcases chn_up _ 0 rfl k z with y | ⟨p, hp, gp, ep⟩
      · omega
      · have := gives_cu hP gp
        rw [ep] at this
        rw [this] at hm
        exact hm hp
    rw [if_neg hk]
    exact h k h0 h1 hN
/-- each station's box is older than those of its suppliers -/
def Ord (pl ss : List Int) : Prop := ∀ k : Nat, 0 < k → k ≤ pl.length → bx ss (cu pl k) < bx ss k
theorem ord_day {pl ss : List Int} (hP : Plant pl) (hs : ss.length = pl.length + 1) (hn : ss.Nodup) (h : Ord pl ss) : Ord pl (day pl ss 0).2 := fun k a b => inv_day (N := fun _ => True) hP hs hn (fun k a b _ => h k a b) k a b trivial
/-! ### within n - 1 days -/
theorem countP_two {α : Type} {p : α → Bool} : ∀ {l : List α} {i j : Nat} {a b : α}, i < j → l[i]? = some a → l[j]? = some b → p a = true → p b = true → 2 ≤ l.countP p
  | [], _, _, _, _, _, h, _, _, _ => by simp at h
  | x :: l, 0, j + 1, a, b, _, h, g, pa, pb => by
    have e : x = a := Option.some.inj h
    subst e
    rw [List.countP_cons_of_pos pa]
    have : 0 < l.countP p := List.countP_pos_iff.mpr ⟨b, List.mem_of_getElem? (by simpa using g), pb⟩
    omega
  | x :: l, i + 1, j + 1, a, b, hij, h, g, pa, pb => by
    have := countP_two (l := l) (i := i) (j := j) (by omega) (by simpa using h) (by simpa using g) pa pb
    exact Nat.le_trans this (List.Sublist.countP_le (List.sublist_cons_self x l))
/-- the stock after n days -/
def dyn (pl ss : List Int) : Nat → List Int
  | 0 => ss
  | n + 1 => (day pl (dyn pl ss n) 0).2
theorem dyn_len {pl ss : List Int} (hs : ss.length = pl.length + 1) (hn : ss.Nodup) : ∀ n, (dyn pl ss n).length = pl.length + 1 ∧ (dyn pl ss n).Nodup
  | 0 => ⟨hs, hn⟩
  | n + 1 => by
    obtain ⟨a, b⟩ := dyn_len hs hn n
    obtain ⟨a2, b2, _⟩ := day_ok a b (Nat.zero_le _) (j := 0)
    exact ⟨a2, b2⟩
theorem dyn_add (pl ss : List Int) (m : Nat) : ∀ n, dyn pl ss (m + n) = dyn pl (dyn pl ss m) n
  | 0 => rfl
  | n + 1 => by
    show (day pl (dyn pl ss (m + n)) 0).2 = (day pl (dyn pl (dyn pl ss m) n) 0).2
    rw [dyn_add pl ss m n]
theorem bx0 (ss : List Int) : bx ss ((0 : Nat) : Int) = bx ss 0 := rfl
theorem day_perm {pl ss : List Int} (hs : ss.length = pl.length + 1) : (bx ss 0 :: (day pl ss 0).2).Perm ((mxv ss + 1) :: ss) :=
  (go_ok hs _ ss [] 0 (bx ss ((0 : Nat) : Int)) rfl (Nat.zero_le _) (Row.start (pl := pl) (ss := ss) (c := 0) (by omega))).2.1
theorem day_mxv {pl ss : List Int} (hs : ss.length = pl.length + 1) : mxv (day pl ss 0).2 = mxv ss + 1 := by
  have hne : ss ≠ [] := fun e => by
    rw [e] at hs
    simp at hs
  obtain ⟨m1, m2⟩ := mxv_mem hne
  have p := day_perm hs
  have h0 := m2 _ (bx_mem (ss := ss) (k := 0) (by omega))
  rw [bx0] at h0
  refine (mxv_of ?_ fun y hy => ?_).symm
  · have z := p.mem_iff.mpr List.mem_cons_self
    rcases List.mem_cons.mp z with e | e
    · exact absurd e (by omega)
    · exact e
  · have z := p.mem_iff.mp (List.mem_cons_of_mem _ hy)
    rcases List.mem_cons.mp z with e | e
    · omega
    · have := m2 _ e
      omega
theorem dyn_mxv {pl ss : List Int} (hs : ss.length = pl.length + 1) (hn : ss.Nodup) : ∀ n : Nat, mxv (dyn pl ss n) = mxv ss + n
  | 0 => by show mxv ss = mxv ss + ((0 : Nat) : Int); omega
  | n + 1 => by
    show mxv (day pl (dyn pl ss n) 0).2 = _
    rw [day_mxv (dyn_len hs hn n).1, dyn_mxv hs hn n]
    omega
theorem inv_dyn {N : Int → Prop} {pl ss : List Int} (hP : Plant pl) (hs : ss.length = pl.length + 1) (hn : ss.Nodup) (h : Waits N pl ss) : ∀ n, Waits N pl (dyn pl ss n)
  | 0 => h
  | n + 1 => inv_day hP (dyn_len hs hn n).1 (dyn_len hs hn n).2 (inv_dyn hP hs hn h n)
theorem ord_dyn {pl ss : List Int} (hP : Plant pl) (hs : ss.length = pl.length + 1) (hn : ss.Nodup) (h : Ord pl ss) : ∀ n, Ord pl (dyn pl ss n) := fun n k a b => inv_dyn (N := fun _ => True) hP hs hn (fun k a b _ => h k a b) n k a b trivial
/-- once the box at the shop is a new one, all are -/
theorem all_new {t : Int} {pl ss : List Int} (h : Waits (t < ·) pl ss) (h0 : t < bx ss 0) : ∀ k : Nat, k ≤ pl.length → t < bx ss k := by
  intro k
  induction k using Nat.strongRecOn with
  | ind k ih =>
    intro hk
    by_cases e : k = 0
    · rw [e]; exact h0
    · have hc := cu_lt pl (show 0 < k by omega)
      have h1 := ih (cu pl k) hc (by omega)
      have := h k (by omega) hk h1
      omega
def olds (t : Int) (ss : List Int) : Nat := ss.countP fun x => decide (x ≤ t)
theorem olds_day {t : Int} {pl ss : List Int} (hs : ss.length = pl.length + 1) (ht : t ≤ mxv ss) (h : Waits (t < ·) pl ss) {m : Nat} (ho : olds t ss ≤ m + 1) : olds t (day pl ss 0).2 ≤ m := by
  have e := (day_perm hs).countP_eq fun x => decide (x ≤ t)
  have e2 : ((mxv ss + 1) :: ss).countP (fun x => decide (x ≤ t)) = olds t ss := List.countP_cons_of_neg (by rw [decide_eq_true_eq]; omega)
  rw [e2] at e
  by_cases c : bx ss 0 ≤ t
  · rw [List.countP_cons_of_pos (p := fun x => decide (x ≤ t)) (decide_eq_true c)] at e
    unfold olds at ho e ⊢
    omega
  · rw [List.countP_cons_of_neg (p := fun x => decide (x ≤ t)) (by rw [decide_eq_true_eq]; exact c)] at e
    have z : olds t ss = 0 := by
      unfold olds
      rw [List.countP_eq_zero]
      intro x hx
      obtain ⟨k, hk, rfl⟩ := List.getElem_of_mem hx
      have e3 := bx_at hk
      rw [List.getElem?_eq_getElem hk] at e3
      have := all_new h (by omega) k (by omega)
      rw [Option.some.inj e3, decide_eq_true_eq]
      omega
    rw [z] at e
    unfold olds
    omega
theorem olds_dyn {pl ss : List Int} (hP : Plant pl) (hs : ss.length = pl.length + 1) (hn : ss.Nodup) (hI : Waits (mxv ss < ·) pl ss) : ∀ n, n ≤ pl.length → olds (mxv ss) (dyn pl ss n) ≤ pl.length + 1 - n
  | 0, _ => by
    show olds _ ss ≤ _
    unfold olds
    have := List.countP_le_length (l := ss) (p := fun x => decide (x ≤ mxv ss))
    omega
  | n + 1, h => by
    have ih := olds_dyn hP hs hn hI n (by omega)
    show olds _ (day pl (dyn pl ss n) 0).2 ≤ _
    exact Nat.le_trans (olds_day (m := pl.length - n) (dyn_len hs hn n).1 (by rw [dyn_mxv hs hn]; omega) (inv_dyn hP hs hn hI n) (by omega)) (by omega)
/-- after n - 1 days a stock is ordered -/
theorem ord_end {pl ss : List Int} (hP : Plant pl) (hs : ss.length = pl.length + 1) (hn : ss.Nodup) : Ord pl (dyn pl ss pl.length) := by
  have hI : Waits (mxv ss < ·) pl ss := fun k a b c => by
    have := mxv_lt (ss := ss) (k := cu pl k) (by have := cu_lt pl a; omega)
    omega
  have ho := olds_dyn hP hs hn hI pl.length (Nat.le_refl _)
  have hI2 := inv_dyn hP hs hn hI pl.length
  obtain ⟨hl, hd⟩ := dyn_len hs hn pl.length
  intro k h0 h1
  have hc := cu_lt pl h0
  by_cases c : mxv ss < bx (dyn pl ss pl.length) (cu pl k)
  · exact hI2 k h0 h1 c
  · by_cases d : mxv ss < bx (dyn pl ss pl.length) k
    · omega
    · have := countP_two (p := fun x => decide (x ≤ mxv ss)) hc (bx_at (ss := dyn pl ss pl.length) (k := cu pl k) (by omega)) (bx_at (ss := dyn pl ss pl.length) (k := k) (by omega)) (decide_eq_true (by omega)) (decide_eq_true (by omega))
      unfold olds at ho
      omega
theorem dyn_bd {pl ss : List Int} (hs : ss.length = pl.length + 1) (hn : ss.Nodup) {l u : Int} (h : ∀ x ∈ ss, l ≤ x ∧ x ≤ u) : ∀ n : Nat, ∀ x ∈ dyn pl ss n, l ≤ x ∧ x ≤ u + n
  | 0 => fun x hx => by
    have := h x hx
    show l ≤ x ∧ x ≤ u + ((0 : Nat) : Int)
    omega
  | n + 1 => fun x hx => by
    obtain ⟨a, b⟩ := dyn_len hs hn n
    have ih := dyn_bd hs hn h n
    obtain ⟨_, _, c2, _, _⟩ := day_ok a b (Nat.zero_le _) (j := 0)
    have hne : dyn pl ss n ≠ [] := fun e => by
      rw [e] at a
      simp at a
    have m := ih _ (mxv_mem hne).1
    rcases c2 x hx with z | z
    · have := ih x z
      omega
    · omega
/-- the boxes sold on the first days -/
def sold (pl ss : List Int) (n : Nat) : List Int := (List.range n).map fun i => bx (dyn pl ss i) 0
theorem sold_step (pl ss : List Int) (n : Nat) : sold pl ss (n + 1) = sold pl ss n ++ [bx (dyn pl ss n) 0] := by
  unfold sold
  rw [List.range_succ, List.map_append]
  rfl
theorem sold_len (pl ss : List Int) (n : Nat) : (sold pl ss n).length = n := by
  unfold sold
  rw [List.length_map, List.length_range]
end PT

set_option maxHeartbeats 4000000
/-! kinds of values, plants in the heap: of no law's own text -/
namespace PT
open PySem PySem.Spec PyProof.Rows L2

/-! ### kinds of values -/
inductive Kd (H : Hp) : V → String → Prop
  | non : Kd H .non "NoneType"
  | bl (b : Bool) : Kd H (.bl b) "bool"
  | int (i : Int) : Kd H (.int i) "int"
  | str (x : Str) : Kd H (.str x) "str"
  | lst {a : Addr} {xs : List V} : H a = some (.lst xs) → Kd H (.ref a) "list"
  | tup {a : Addr} {xs : List V} : H a = some (.tup xs) → Kd H (.ref a) "tuple"
  | dic {a : Addr} {kvs : List (Key × V)} : H a = some (.dK kvs) → Kd H (.ref a) "dict"
theorem Kd.same {H H' : Hp} (e : Same H H') {v : V} {n : String} (h : Kd H v n) : Kd H' v n := by
  cases h with
  | non => exact .non
  | bl b => exact .bl b
  | int i => exact .int i
  | str x => exact .str x
  | lst q => exact .lst (e _ _ q)
  | tup q => exact .tup (e _ _ q)
  | dic q => exact .dic (e _ _ q)
theorem Kd.tyx {K : PySem.W.Frag} {H : Hp} {v : V} {n : String} (h : Kd H v n) : TyX K H v (.type n) := by
  cases h with
  | non => exact .base .non
  | bl b => exact .base (.bl b)
  | int i => exact .base (.int i)
  | str x => exact .base (.str x)
  | lst q => exact .base (.lst q)
  | tup q => exact .base (.tup q)
  | dic q => exact .base (.dK q)
def isI : V → Bool
  | .int _ => true
  | _ => false
def isB : V → Bool
  | .bl _ => true
  | _ => false
theorem kd_int {K : PySem.W.Frag} {H : Hp} {v : V} {n : String} (h : Kd H v n) : PySem.W.kitOne K (.type n) (.type "int") = some (isI v || isB v) := by
  cases h with
  | bl b => exact kit_ty (show kitB "bool" "int" = some true by decide +kernel)
  | int i => exact kit_ty (show kitB "int" "int" = some true by decide +kernel)
  | non => exact kit_ty (show kitB "NoneType" "int" = some false by decide +kernel)
  | str x => exact kit_ty (show kitB "str" "int" = some false by decide +kernel)
  | lst _ => exact kit_ty (show kitB "list" "int" = some false by decide +kernel)
  | tup _ => exact kit_ty (show kitB "tuple" "int" = some false by decide +kernel)
  | dic _ => exact kit_ty (show kitB "dict" "int" = some false by decide +kernel)
theorem kd_bool {K : PySem.W.Frag} {H : Hp} {v : V} {n : String} (h : Kd H v n) : PySem.W.kitOne K (.type n) (.type "bool") = some (isB v) := by
  cases h with
  | bl b => exact kit_ty (show kitB "bool" "bool" = some true by decide +kernel)
  | int i => exact kit_ty (show kitB "int" "bool" = some false by decide +kernel)
  | non => exact kit_ty (show kitB "NoneType" "bool" = some false by decide +kernel)
  | str x => exact kit_ty (show kitB "str" "bool" = some false by decide +kernel)
  | lst _ => exact kit_ty (show kitB "list" "bool" = some false by decide +kernel)
  | tup _ => exact kit_ty (show kitB "tuple" "bool" = some false by decide +kernel)
  | dic _ => exact kit_ty (show kitB "dict" "bool" = some false by decide +kernel)
theorem kd_tuple {K : PySem.W.Frag} {H : Hp} {v : V} {n : String} (h : Kd H v n) : PySem.W.kitOne K (.type n) (.type "tuple") = some (n == "tuple") := by
  cases h with
  | bl b => exact kit_ty (show kitB "bool" "tuple" = some false by decide +kernel)
  | int i => exact kit_ty (show kitB "int" "tuple" = some false by decide +kernel)
  | non => exact kit_ty (show kitB "NoneType" "tuple" = some false by decide +kernel)
  | str x => exact kit_ty (show kitB "str" "tuple" = some false by decide +kernel)
  | lst _ => exact kit_ty (show kitB "list" "tuple" = some false by decide +kernel)
  | tup _ => exact kit_ty (show kitB "tuple" "tuple" = some true by decide +kernel)
  | dic _ => exact kit_ty (show kitB "dict" "tuple" = some false by decide +kernel)
/-- an int between two bounds -/
def okV (lo hi : Int) : V → Bool
  | .int j => decide (lo ≤ j) && decide (j ≤ hi)
  | _ => false
/-- the tuple of a plant -/
def okVs (xs : List V) : List Bool := (List.range xs.length).map fun i => okV 0 (i : Nat) (xs.getD i .non)
def fitsV (xs : List V) : Bool := decide (xs.length < 40) && (okVs xs).all id

inductive FitsIs (H : Hp) : V → Bool → Prop
  | no {v : V} {n : String} : Kd H v n → n ≠ "tuple" → FitsIs H v false
  | tup {a : Addr} {xs : List V} : H a = some (.tup xs) → xs.length ≤ 300 → (∀ x ∈ xs, ∃ m, Kd H x m) → FitsIs H (.ref a) (fitsV xs)
theorem same_new {H : Hp} {p : Addr} {o : HO} (h : H p = none) : Same H (upd H p o) := fun b u z => by
  rw [upd_ne (ne_of_none z h)]
  exact z
theorem okVs_len (xs : List V) : (okVs xs).length = xs.length := by
  unfold okVs
  rw [List.length_map, List.length_range]
theorem okVs_at {xs : List V} {i : Nat} {x : V} (h : xs[i]? = some x) : (okVs xs)[i]? = some (okV 0 (i : Nat) x) := by
  have hi : i < xs.length := (List.getElem?_eq_some_iff.mp h).1
  unfold okVs
  rw [List.getElem?_map, List.getElem?_range hi, Option.map_some, List.getD_eq_getElem?_getD, h]
  rfl
theorem take_next {α : Type} {l : List α} {i : Nat} {x : α} (h : l[i]? = some x) : l.take (i + 1) = l.take i ++ [x] := by
  rw [List.take_add_one, h]
  rfl
/-- a comprehension's item without a test -/
theorem tyes_if {σ : List (Option V)} {H : Hp} {A B : Hp → Prop} (h : A H) : tYes σ H (fun b H3 => if b = true then A H3 else B H3) := by
  show (if true = true then A H else B H)
  rw [if_pos (rfl : true = true)]
  exact h
theorem small300 {n : Nat} (h : n ≤ 300) : n < sizeLine := small1000 (by omega)
/-! ### a plant that stands in the heap -/
structure PlantAt (H : Hp) (p : Addr) (pl : List Int) : Prop where
  at_ : H p = some (.tup (pl.map V.int))
  ok : Plant pl
theorem PlantAt.same {H H' : Hp} {p : Addr} {pl : List Int} (e : Same H H') (h : PlantAt H p pl) : PlantAt H' p pl := ⟨e _ _ h.at_, h.ok⟩
theorem PlantAt.seq {K : PySem.W.Frag} {H : Hp} {p : Addr} {pl : List Int} (h : PlantAt H p pl) : SqT K H p (pl.map V.int) := .inl (.inl h.at_)
theorem Plant.fits {pl : List Int} (h : Plant pl) : fitsV (pl.map V.int) = true := by
  unfold fitsV
  have hl := h.len
  rw [List.length_map, decide_eq_true (by omega), Bool.true_and, List.all_eq_true]
  intro b hb
  obtain ⟨i, hi, rfl⟩ := List.mem_map.mp hb
  have hi2 := List.mem_range.mp hi
  rw [List.length_map] at hi2
  have e : pl[i]? = some pl[i] := List.getElem?_eq_getElem hi2
  obtain ⟨h0, h1⟩ := h.ok i _ e
  rw [List.getD_eq_getElem?_getD, List.getElem?_map, e]
  show (decide (0 ≤ pl[i]) && decide (pl[i] ≤ (i : Int))) = true
  rw [decide_eq_true h0, decide_eq_true h1]
  rfl
theorem PlantAt.fits {H : Hp} {p : Addr} {pl : List Int} (h : PlantAt H p pl) : FitsIs H (.ref p) true := by
  have z := FitsIs.tup (H := H) h.at_ (by rw [List.length_map]; have := h.ok.len; omega) fun x hx => by
    obtain ⟨n, _, rfl⟩ := List.mem_map.mp hx
    exact ⟨_, .int n⟩
  rw [h.ok.fits] at z
  exact z
theorem upd_at {H : Hp} {a b : Addr} {o u : HO} (h : H b = some u) (n : H a = none) : upd H a o b = some u := by
  rw [upd_ne (ne_of_none h n)]
  exact h

theorem ixN_at {n j : Nat} (hj : j < n) : ixN n (j : Int) = some j := by
  unfold ixN
  rw [if_pos (by omega), if_pos (by omega), Int.toNat_natCast]
/-- all but b is as it was -/
def Bar (b : Addr) (H H' : Hp) : Prop := ∀ c o, c ≠ b → H c = some o → H' c = some o
theorem Bar.refl (b : Addr) (H : Hp) : Bar b H H := fun _ _ _ h => h
theorem Bar.trans {b : Addr} {H H1 H2 : Hp} (u : Bar b H H1) (v : Bar b H1 H2) : Bar b H H2 := fun c o n h => v c o n (u c o n h)
theorem Same.bar {b : Addr} {H H' : Hp} (e : Same H H') : Bar b H H' := fun c o _ h => e c o h
theorem bar_upd {b : Addr} {H : Hp} {o : HO} : Bar b H (upd H b o) := fun c u n h => by
  rw [upd_ne n]
  exact h
/-- a heap is forgotten but for what is said of it -/
theorem heap_cut {P R : Hp → Prop} {G : Hp} (h : P G) (k : ∀ G', P G' → R G') : R G := k G h
/-! ### stocks, rows in another order, items of short lists -/
theorem erase_map {α β : Type} (f : α → β) : ∀ (l : List α) (i : Nat), (l.map f).eraseIdx i = (l.eraseIdx i).map f
  | [], _ => rfl
  | x :: r, 0 => rfl
  | x :: r, i + 1 => by
    rw [List.map_cons, List.eraseIdx_cons_succ, List.eraseIdx_cons_succ, List.map_cons, erase_map f r i]
theorem perm_pick {α : Type} : ∀ {l : List α} {i : Nat} {x : α}, l[i]? = some x → (x :: l.eraseIdx i).Perm l
  | [], _, _, h => by simp at h
  | y :: r, 0, x, h => by
    have e : y = x := Option.some.inj h
    rw [e]
    exact .refl _
  | y :: r, i + 1, x, h => by
    have ih := perm_pick (l := r) (i := i) (x := x) (by simpa using h)
    exact (List.Perm.swap y x (r.eraseIdx i)).trans (ih.cons y)
structure StockOk (pl ss : List Int) : Prop where
  len : ss.length = pl.length + 1
  nd : ss.Nodup
  sm : ∀ n ∈ ss, -(10 ^ 36) ≤ n ∧ n ≤ 10 ^ 36
theorem four_at {u0 u1 u2 u3 : V} {r : Int} (h0 : 0 ≤ r) (h4 : r < 4) : ∃ v, atI [u0, u1, u2, u3] r = some v ∧ (v = u0 ∨ v = u1 ∨ v = u2 ∨ v = u3) := by
  have c : r = 0 ∨ r = 1 ∨ r = 2 ∨ r = 3 := by omega
  rcases c with rfl | rfl | rfl | rfl
  · exact ⟨u0, rfl, .inl rfl⟩
  · exact ⟨u1, rfl, .inr (.inl rfl)⟩
  · exact ⟨u2, rfl, .inr (.inr (.inl rfl))⟩
  · exact ⟨u3, rfl, .inr (.inr (.inr rfl))⟩
theorem nodup_lt {l : List Int} (h : l.Pairwise (· < ·)) : l.Nodup := h.imp fun a b => by omega
theorem StockOk.perm {pl ss ts : List Int} (h : StockOk pl ss) (p : ts.Perm ss) : StockOk pl ts := ⟨by rw [p.length_eq]; exact h.len, p.nodup_iff.mpr h.nd, fun n hn => h.sm n (p.mem_iff.mp hn)⟩
theorem three_at {u0 u1 u2 : V} {r : Int} (h0 : 0 ≤ r) (h3 : r < 3) : ∃ v, atI [u0, u1, u2] r = some v ∧ (v = u0 ∨ v = u1 ∨ v = u2) := by
  have c : r = 0 ∨ r = 1 ∨ r = 2 := by omega
  rcases c with rfl | rfl | rfl
  · exact ⟨u0, rfl, .inl rfl⟩
  · exact ⟨u1, rfl, .inr (.inl rfl)⟩
  · exact ⟨u2, rfl, .inr (.inr rfl)⟩
theorem Plant.snoc {pl : List Int} (hP : Plant pl) {u : Int} (hl : pl.length < 39) (u0 : 0 ≤ u) (u1 : u ≤ pl.length) : Plant (pl ++ [u]) := by
  refine ⟨by rw [List.length_append]; show pl.length + 1 ≤ 39; omega, fun k x e => ?_⟩
  by_cases hk : k < pl.length
  · rw [List.getElem?_append_left hk] at e
    exact hP.ok k x e
  · have hk2 : k = pl.length := by
      have z := (List.getElem?_eq_some_iff.mp e).1
      rw [List.length_append] at z
      have z2 : k < pl.length + 1 := z
      omega
    subst hk2
    rw [List.getElem?_append_right (Nat.le_refl _), Nat.sub_self] at e
    cases e
    exact ⟨u0, u1⟩
theorem five_at {u0 u1 u2 u3 u4 : V} {r : Int} (h0 : 0 ≤ r) (h5 : r < 5) : ∃ v, atI [u0, u1, u2, u3, u4] r = some v ∧ (v = u0 ∨ v = u1 ∨ v = u2 ∨ v = u3 ∨ v = u4) := by
  have c : r = 0 ∨ r = 1 ∨ r = 2 ∨ r = 3 ∨ r = 4 := by omega
  rcases c with rfl | rfl | rfl | rfl | rfl
  · exact ⟨u0, rfl, .inl rfl⟩
  · exact ⟨u1, rfl, .inr (.inl rfl)⟩
  · exact ⟨u2, rfl, .inr (.inr (.inl rfl))⟩
  · exact ⟨u3, rfl, .inr (.inr (.inr (.inl rfl)))⟩
  · exact ⟨u4, rfl, .inr (.inr (.inr (.inr rfl)))⟩
/-- a new list of new lists, the suppliers so far -/
structure ListsAt (H H' : Hp) (l : Addr) (as : List Addr) (pl : List Int) (i : Nat) : Prop where
  sm : Same H H'
  nl : H l = none
  hl : H' l = some (.lst (as.map V.ref))
  len : as.length = pl.length + 1
  new : ∀ a ∈ as, H a = none
  out : l ∉ as
  nd : as.Nodup
  at_ : ∀ (j : Nat) (a : Addr), as[j]? = some a → H' a = some (.lst ((sup pl i j).map V.int))
end PT

set_option maxHeartbeats 4000000
/-! rules that round 3's code asks for: is True of ints and bools, set(t), count of bools, enumerate from a start -/
namespace PT
open PySem PySem.Spec PyProof.Rows L2

section
variable {X : Cx}
/-! ### x is True, x an int or a bool -/
def isTV (b : Bool) : V → Bool
  | .bl a => decide (a = b)
  | _ => false
def rIsK : V → V → Hp → (V → Hp → Prop) → Prop := fun x y H Q => ∃ b, y = .bl b ∧ ((∃ a, x = .bl a) ∨ ∃ i, x = .int i) ∧ Q (.bl (isTV b x)) H
theorem op_isK : OpR X (compareOp .Is) rIsK := by
  intro pins st σ H x y v u Q I rx ry h
  obtain ⟨b, rfl, hx, q⟩ := h
  cases (show u = Value.bool b from ry)
  rcases hx with ⟨a, rfl⟩ | ⟨i, rfl⟩
  · cases (show v = Value.bool a from rx)
    by_cases c : a = b
    · subst c
      exact wpAny_is_self rfl ⟨.bl true, H, I, rfl, by simpa [isTV] using q⟩
    · exact wpAny_is_other rfl (fun z => c (Value.bool.inj z)) ⟨.bl false, H, I, rfl, by simpa [isTV, c] using q⟩
  · obtain ⟨t, rfl⟩ := rx
    exact wpAny_is_other rfl (fun z => nomatch z) ⟨.bl false, H, I, rfl, q⟩
/-! ### set(t), t a tuple of ints -/
def rSetT (K : PySem.W.Frag) (w : World) : List V → Hp → (V → Hp → Prop) → Prop := fun vs H Q => ∃ (l : Addr) (ns : List Int), vs = [.ref l] ∧ SqT K H l (ns.map V.int) ∧ ns.length ≤ 1000 ∧
  ∀ p n, H p = none → Q (.ref p) (upd H p (SetO w p (fun j => decide (j ∈ ns)) n))
theorem cr_setT (hc : X.calm = true) : CallR X (.type "set") (rSetT X.K X.w) := by
  intro pins st σ H vs us Q I r h
  obtain ⟨l, ns, rfl, hq, hl, q⟩ := h
  rw [Vals.ref1 r]
  obtain ⟨its, rv, pl, hz⟩ := I.tuple hq
  have hi : IntsAre its.toArray.toList ns := by simpa using ints_of_vals rv
  refine call_set_tupI ns (I.ok.hd hc) pl hi (by unfold scanBound; omega) fun h' tk c R hcn k => ?_
  exact ⟨.ref _, upd H st.heap.objs.size (SetO X.w st.heap.objs.size (fun j => decide (j ∈ ns)) c), I.laid (t' := tk) k (Nat.le_refl _) (setO_new R), rfl, q _ c (I.hok.fresh (Nat.le_refl _))⟩
/-! ### xs.count(True), xs of bools -/
theorem flat_bls (bs : List Bool) : (bs.map V.bl).all flatV = true := by
  rw [List.all_eq_true]
  intro x hx
  obtain ⟨b, _, rfl⟩ := List.mem_map.mp hx
  rfl
theorem count_bls {b : Bool} : ∀ {bs : List Bool} {us : List Value}, Vals (bs.map V.bl) us → us.countP (eqU (.bl b)) = bs.count b
  | [], _, .nil => rfl
  | a :: bs, _, .cons r t => by
    have ih := count_bls (b := b) t
    have e := eqU_of (x := .bl b) r rfl
    rw [List.countP_cons, List.count_cons, ih, e]
    cases a <;> cases b <;> rfl
def rCntB (K : PySem.W.Frag) : V → List V → Hp → (V → Hp → Prop) → Prop := fun x xs H Q => ∃ (p : Addr) (bs : List Bool) (b : Bool), x = .ref p ∧ xs = [.bl b] ∧ SqL K H p (bs.map V.bl) ∧ Q (.int ((bs.count b : Nat) : Int)) H
theorem mt_countB : MtR X "list.count" (rCntB X.K) := by
  intro pins st σ H x xs v us Q I rx rxs h
  obtain ⟨p, bs, b, rfl, rfl, hs, q⟩ := h
  cases rx
  obtain ⟨u, rfl, ru⟩ := rxs.one
  obtain ⟨its, rv, ⟨⟨cls, dd, data, sl⟩, n, ho, hc, hdn, hd⟩, hlen⟩ := I.list hs
  simp only at hc hd
  subst hc hd
  refine call_meets PySem.F.slot_list_count ⟨_, ho, rfl⟩ PySem.F.entry_list_count (PySem.F.args_list_count_2 _ _)
    (SeqAt.list_countAt p its.toArray n dd sl u (eqU (.bl b))) ⟨ho, fun y hy => mem_eqAt ru rfl rv (flat_bls bs) y (by simpa using hy), ?_⟩
  have ec : its.toArray.toList.countP (eqU (.bl b)) = bs.count b := count_bls rv
  refine ⟨.int ((bs.count b : Nat) : Int), H, I.tok _, ⟨st.toks, ?_⟩, q⟩
  show Value.int ((its.toArray.toList.countP (eqU (.bl b)) : Nat) : Int) st.toks = Value.int ((bs.count b : Nat) : Int) st.toks
  rw [ec]
end

/-! ### len(set(t)), t a tuple of different ints -/
section
variable {X : Cx}
theorem setR_len {w : World} {h : Heap} {a : Addr} {ns : List Int} {c : Nat} (R : SetR w h a (fun j => decide (j ∈ ns)) c) (nd : ns.Nodup) : c = ns.length := by
  obtain ⟨o, es, ep, t, ho, hx, hd, g, nk, hm, hb, hf, hn, _⟩ := R
  have p : (es.toList.map keyOf).Perm ns := (List.perm_ext_iff_of_nodup nk nd).mpr fun k => by
    rw [← hm k]
    exact decide_eq_true_iff
  have e := p.length_eq
  rw [List.length_map, Array.length_toList] at e
  omega
def tLenSetT (K : PySem.W.Frag) (ta : TE) : TE := fun σ H Q => ta σ H fun x H1 => ∃ (l : Addr) (ns : List Int), x = .ref l ∧ SqT K H1 l (ns.map V.int) ∧ ns.Nodup ∧ ns.length ≤ 1000 ∧ Q (.int (ns.length : Nat)) H1
theorem pe_lenSetT {a : Expr} {ta : TE} {p p2 q pos : Pos} (hg : Gl X "len") (hm : X.mg "len" = none) (hg2 : Gl X "set") (hm2 : X.mg "set" = none) (ha : PE X a ta) (hc : X.calm = true := by rfl)
    (na : starEach [a] X.env = (false, eval a X.env) :: starEach [] X.env := by rfl) : PE X (.Call (.Name "len" p) [.Call (.Name "set" p2) [a] [] q] [] pos) (tLenSetT X.K ta) := by
  constructor
  intro pins st σ H Q I h
  refine Call_ (ld_blt I hg hm boot_len (PyProof.Rows.callWith_builtin1 (PyProof.Rows.args_cons ?_ rfl) rfl rfl))
  refine Call_ (ld_blt I hg2 hm2 boot_set (PyProof.Rows.callWith_type1 (PyProof.Rows.args_cons (thn (ha.run pins st σ H _ I h) fun v s1 ⟨x, H1, I1, r1, q1⟩ => PyProof.Rows.args_nil ?_) na) na rfl))
  obtain ⟨l, ns, rfl, hq, nd, hl, q1⟩ := q1
  cases r1
  obtain ⟨its, r, pl, hz⟩ := I1.tuple hq
  have hi : IntsAre its.toArray.toList ns := by simpa using ints_of_vals r
  refine call_set_tupI ns (I1.ok.hd hc) pl hi (by unfold scanBound; omega) fun h' tk c R hcn hk => PyProof.Rows.args_nil ?_
  have ec := setR_len R nd
  obtain ⟨o, es, ep, t, ho, hx, hd, _, _, _, hb, hf, hn, _⟩ := R
  exact call_len_set ho hx hd hf (by omega) ⟨.int (ns.length : Nat), H1, (I1.kept hk).tok _, ⟨_, by rw [hn, ec]⟩, q1⟩
end
/-! ### enumerate(t, k): a tuple's items with their places, counted from k -/
def ItF (K : PySem.W.Frag) (a : Addr) (k : Int) : It :=
  ⟨fun i H => ∃ (xs : List V) (x : V), SqT K H a xs ∧ xs[i]? = some x,
   fun i H v H' => ∃ T x, v = .ref T ∧ H T = none ∧ H' = upd H T (.tup [.int (k + (i : Nat)), x]) ∧ ∀ xs, SqT K H a xs → xs[i]? = some x,
   fun i H => ∃ xs : List V, SqT K H a xs ∧ xs.length ≤ i⟩
theorem turn_F {P : Program} {w : World} {K : PySem.W.Frag} {elts : List Expr} {kk : Nat} {tpos : Pos} (a e it : Addr) (k : Int) :
    Turn P w K (.Tuple elts kk tpos) (ItF K a k) [e, it] e (fun i h => (∃ old, IsEnum h e it (k + ((i : Nat) : Int)) old) ∧ h.IsTupleIter it a i ∧ e ≠ it) where
  mem := by simp
  obj := fun i h st b hb => by
    obtain ⟨⟨old, he⟩, ⟨o, ho, hc, hd⟩, _⟩ := st
    rcases List.mem_cons.mp hb with z | z
    · rw [z]
      exact ⟨_, he, fun v q => nomatch q⟩
    · rw [List.mem_singleton.mp z]
      exact ⟨o, ho, fun v q => by rw [hd] at q; cases q⟩
  keep := fun i h h' st kp => ⟨let ⟨old, he⟩ := st.1; ⟨old, kp e (by simp) _ he⟩, st.2.1.at fun o q => kp it (by simp) o q, st.2.2⟩
  item := by
    intro X hP hw hK hc i pins st σ H E I hf tn hg
    subst hP hw hK
    obtain ⟨⟨old, he⟩, hit, hne⟩ := tn
    obtain ⟨xs, x, hq, hx⟩ := hg
    obtain ⟨its, rv, p, hz⟩ := I.tuple hq
    obtain ⟨u, hu, ru⟩ := rv.get hx
    have le : e < st.heap.objs.size := Heap.lt_size he
    have li : it < st.heap.objs.size := let ⟨_, q, _⟩ := hit; Heap.lt_size q
    have hta : a ≠ it := fun z => by
      obtain ⟨o1, q1, c1, _⟩ := hit
      obtain ⟨o2, q2, c2, _⟩ := p
      rw [z, q1] at q2
      cases q2
      rw [c1] at c2
      exact absurd (Value.type.inj c2) (by decide)
    have D := Draws.tuple (prog := X.prog) (w := X.w) (A := X.A.in1) (I.ok.hd hc) it a hta its.toArray
    have hi : i < its.length := by
      obtain ⟨h1, _⟩ := List.getElem?_eq_some_iff.mp hu
      exact h1
    refine wpAny_pyNext_enum_itemC D he ⟨hit, p⟩ (by simpa using hi) hne ?_ fun y h2 tk hy ho sn hT hsz hk => ?_
    · intro hm
      rcases List.mem_cons.mp hm with z | z
      · exact hne z
      · have z2 := List.mem_singleton.mp z
        obtain ⟨o2, q2, c2, _⟩ := p
        have q3 : st.heap.get? e = some _ := he
        rw [z2, q2] at q3
        cases q3
        exact absurd (Value.type.inj c2) (by decide)
    have ey : y = u := by
      have e1 : its.toArray[i]? = some u := by simpa using hu
      exact Option.some.inj (hy.symm.trans e1)
    subst ey
    refine ⟨_, rfl, wpAny_letOwnedTupleGo_enum (s := { st with heap := h2, toks := tk + 1 }) ho fun h3 he3 sb => ?_⟩
    have hT3 : h3.get? st.heap.objs.size = some { cls := .type "tuple", data := .seq #[.int (k + (i : Int)) tk, y] } := (sb.2 _ (Nat.ne_of_gt le)).trans hT
    have nw : ObjOk X.prog X.w (upd H st.heap.objs.size (.tup [.int (k + (i : Nat)), x])) h3 st.heap.objs.size (.tup [.int (k + (i : Nat)), x]) :=
      ⟨by show 2 ≤ sizeLine; decide, [.int (k + (i : Int)) tk, y], .cons ⟨_, rfl⟩ (.cons ru .nil), ⟨_, hT3, rfl, _, rfl⟩⟩
    have I1 : Inv X pins σ (upd H st.heap.objs.size (.tup [.int (k + (i : Nat)), x])) { st with heap := h3, toks := tk + 1 } :=
      I.turnedNew (ch := [e, it]) (fun b ob hb q => (sb.2 b (fun z => hb (by simp [z]))).trans (hk b ob (fun z => hb (by simp [z])) (fun z => hb (by simp [z])) q)) hf (Nat.le_refl _) nw
    refine ⟨.ref st.heap.objs.size, _, I1, rfl, ⟨_, x, rfl, I.hok.fresh (Nat.le_refl _), rfl, fun ys hy => by rw [I.tuple_inj hy hq]; exact hx⟩, ⟨⟨y, ?_⟩, sn.1.at fun o q => (sb.2 it (Ne.symm hne)).trans q, hne⟩, fun b hb => ?_⟩
    · have e1 : k + ((i + 1 : Nat) : Int) = k + (i : Int) + 1 := by omega
      exact e1 ▸ he3
    · have hb' : b < st.heap.objs.size := by
        rcases List.mem_cons.mp hb with z | z
        · exact z ▸ le
        · exact (List.mem_singleton.mp z) ▸ li
      rw [upd_ne (Nat.ne_of_lt hb')]
      exact (hf b hb).1
  done := by
    intro X hP hw hK hc i pins st σ H E I hf tn hg
    subst hP hw hK
    obtain ⟨⟨old, he⟩, hit, hne⟩ := tn
    obtain ⟨xs, hq, hx⟩ := hg
    obtain ⟨its, rv, p, hz⟩ := I.tuple hq
    obtain ⟨f0, f1, f2, f3, f4, f5⟩ := hf it (by simp)
    have hl := rv.length
    have hT : st.TypeIs (.ref e) "enumerate" := ⟨_, he, rfl⟩
    unfold pyNext
    refine wpAny_bind (wpAny_attempt (wpAny_callSpecial?_slot (name := Str.ofString "__next__") hT F.slot_enumerate_next (wpAny_call_entry F.slot_enumerate_next hT F.entry_enumerate_next ?_ (F.args_enumerate_next_1 _))))
    show wpAny _ _ (field (.ref e) 2 >>= _) _ _ _
    refine wpAny_bind (wpAny_field he rfl (x := .ref it) rfl ?_)
    refine wpAny_bind (wpAny_nextOf_tuple_end (I.ok.hd hc) hit p (by simp; omega) fun h2 x e1 hx2 => ?_)
    obtain ⟨o, ho, hcc⟩ := hx2
    refine wpAny_bind (wpAny_isInstance (T := "StopIteration") (b := true) ⟨o, ho, hcc⟩ isSubtype_stop ?_)
    exact wpAny_pure ⟨rfl, I.turned (t' := st.toks) (fun b o hb q => e1 b o hb q) f0 f1 f3 f4 f5⟩
  self := fun A i s Q E tn h => let ⟨⟨_, he⟩, _⟩ := tn; wpAny_pyIter_enum he h
def iF (K : PySem.W.Frag) (ta : TA) : TI := fun σ H R => ta σ H fun vs H1 => ∃ a k xs, vs = [.ref a, .int k] ∧ SqT K H1 a xs ∧ -(2 ^ 63) ≤ k ∧ k < 2 ^ 63 ∧ R (ItF K a k) H1
theorem pi_F {X : Cx} {e e2 : Expr} {ta : TA} {p pos tpos : Pos} {elts : List Expr} {kk : Nat} (hg : Gl X "enumerate") (hm : X.mg "enumerate" = none) (ha : PA X [e, e2] ta)
    (hs : starEach [e, e2] X.env = (false, eval e X.env) :: starEach [e2] X.env := by rfl) (hpl : (backTo pos (starEach [e2] X.env)).any (·.1) = false := by rfl) :
    PI X (.Tuple elts kk tpos) (.Call (.Name "enumerate" p) [e, e2] [] pos) (iF X.K ta) := by
  refine ⟨fun pins st σ H R I h => Call_ (ld_blt I hg hm boot_enumerate (PyProof.Rows.callWith_type1 (thn (ha.run pos pins st σ H _ I h) fun us s1 ⟨vs, H1, I1, r1, q1⟩ => ?_) hs hpl))⟩
  obtain ⟨a, k, xs, ex, hq, hk0, hk1, q⟩ := q1
  subst ex
  cases r1 with
  | cons r rr =>
    cases rr with
    | cons r2 rr =>
      cases rr
      cases r
      obtain ⟨tk, rfl⟩ := r2
      obtain ⟨its, rv, pp, hz⟩ := I1.tuple hq
      refine enum_begins (begins_tuple a its.toArray) pp hk0 hk1 fun h2 he hi hz2 hk => wpAny_pyIter_enum he ?_
      have I2 : Inv X pins σ H1 { s1 with heap := h2 } := I1.kept (t' := s1.toks) hk
      refine ⟨s1.heap.objs.size + 1, [s1.heap.objs.size + 1, s1.heap.objs.size], _, _, H1, rfl, I2, turn_F a (s1.heap.objs.size + 1) s1.heap.objs.size k, ⟨⟨.none, by simpa using he⟩, ⟨_, hi, rfl, rfl⟩, Nat.succ_ne_self _⟩, fun b hb => ?_, q⟩
      have hle : s1.heap.objs.size ≤ b := by
        rcases List.mem_cons.mp hb with z | z
        · rw [z]
          exact Nat.le_add_right _ _
        · rw [List.mem_singleton.mp z]
          exact Nat.le_refl _
      exact I1.fpOk hle (I1.hok.fresh hle)
theorem walk_F {K : PySem.W.Frag} {a : Addr} {k : Int} {xs : List V} : Walk (ItF K a k) xs.length (fun H => SqT K H a xs) (YPair (fun i => some (.int (k + (i : Nat)))) (fun i => xs[i]?)) := by
  refine ⟨fun i _ hi q => ⟨xs, xs[i], q, by simp [hi]⟩, fun _ q => ⟨xs, q, Nat.le_refl _⟩, fun i H v H' _ q y => ?_⟩
  obtain ⟨T, x, h1, h2, h3, h4⟩ := y
  exact ⟨T, .int (k + (i : Nat)), x, h1, h2, h3, rfl, h4 xs q⟩
/-! ### t + u, t[a:b], told by what comes out -/
section
variable {X : Cx}
theorem op_catG : OpR X (binaryOp .Add) (fun x y H Q => ∃ a b xs ys, x = .ref a ∧ y = .ref b ∧ H a = some (.tup xs) ∧ H b = some (.tup ys) ∧ xs.length + ys.length ≤ 1000 ∧ ∀ c H', Same H H' → H' c = some (.tup (xs ++ ys)) → Q (.ref c) H') := by
  intro pins st σ H x y v u Q I rx ry h
  obtain ⟨a, b, xs, ys, rfl, rfl, ea, eb, hl, q⟩ := h
  refine op_catA pins st σ H _ _ v u Q I rx ry ⟨a, b, xs, ys, rfl, rfl, .inl (.inl ea), .inl (.inl eb), Nat.le_of_lt (small1000 hl), fun e => ?_, fun _ e => ?_, fun _ _ p np => q p _ (same_new np) upd_same⟩
  · subst e
    exact q b H (Same.refl H) eb
  · subst e
    exact q a H (Same.refl H) (by rw [List.append_nil]; exact ea)
theorem sl_tupG : SlR X (fun x lo hi H Q => ∃ a xs, x = .ref a ∧ H a = some (.tup xs) ∧ ∀ c H', Same H H' → H' c = some (.tup (cutV xs lo hi)) → Q (.ref c) H') := by
  intro pins st σ H x v vl vu lo hi sl Q I rx hs pl pu h
  obtain ⟨a, xs, rfl, ea, q⟩ := h
  refine sl_tupA pins st σ H _ v vl vu lo hi sl Q I rx hs pl pu ⟨a, xs, rfl, .inl (.inl ea), fun e => ?_, fun _ p np => q p _ (same_new np) upd_same⟩
  refine q a H (Same.refl H) ?_
  unfold cutV
  rw [e.1, e.2, List.drop_zero, Nat.sub_zero, List.take_length]
  exact ea
end
theorem cut_to (ns : List Int) (i : Nat) : cutV (ns.map V.int) none (some (i : Int)) = (ns.take i).map V.int := by
  unfold cutV
  rw [HT.sIx_none, HT.sIx_nat, List.drop_zero, Nat.sub_zero, List.map_take]
  by_cases h : i ≤ (ns.map V.int).length
  · rw [Nat.min_eq_left h]
  · rw [Nat.min_eq_right (by omega), List.take_length, List.take_of_length_le (by omega)]
theorem cut_from (ns : List Int) (i : Nat) : cutV (ns.map V.int) (some (i : Int)) none = (ns.drop i).map V.int := by
  unfold cutV
  rw [HT.sIx_none, HT.sIx_nat, List.map_drop]
  by_cases h : i ≤ (ns.map V.int).length
  · rw [Nat.min_eq_left h, List.take_of_length_le (by rw [List.length_drop]; omega)]
  · rw [Nat.min_eq_right (by omega), List.drop_length, List.drop_of_length_le (by omega), List.take_nil]

theorem rep_bls (j : Nat) (b : Bool) : (List.replicate (j : Int).toNat [V.bl b]).flatten = (List.replicate j b).map V.bl := by
  rw [Int.toNat_natCast]
  induction j with
  | zero => rfl
  | succ j ih => rw [List.replicate_succ, List.flatten_cons, ih]; rfl
/-! ### math of the plants functions -/
theorem sup_low {pl : List Int} (hP : Plant pl) (j : Nat) : ∀ i, i ≤ j → i ≤ pl.length → sup pl i j = []
  | 0, _, _ => rfl
  | i + 1, h, hl => by
    have e : pl[i]? = some pl[i] := List.getElem?_eq_getElem (by omega)
    have z := hP.ok i _ e
    rw [sup_step j e, if_neg (by omega), sup_low hP j i (by omega) (by omega)]
/-- who stands at or below j, of the stations up to j + i -/
def und (pl : List Int) (j i : Nat) : List Bool := (List.range (j + 1 + i)).map fun k => decide (j ∈ path pl k)
theorem und_zero (pl : List Int) (j : Nat) : und pl j 0 = List.replicate j false ++ [true] := by
  unfold und
  rw [show j + 1 + 0 = j + 1 from rfl, List.range_succ, List.map_append]
  congr 1
  · refine List.ext_getElem? fun k => ?_
    by_cases h : k < j
    · rw [List.getElem?_map, List.getElem?_range h, List.getElem?_replicate, if_pos h]
      have z : j ∉ path pl k := fun m => by
        have := path_le pl k j m
        omega
      simp [z]
    · rw [List.getElem?_eq_none (by rw [List.length_map, List.length_range]; omega), List.getElem?_eq_none (by rw [List.length_replicate]; omega)]
  · have z : j ∈ path pl j := List.mem_of_getElem? (path_head pl j)
    simp [z]
theorem und_len (pl : List Int) (j i : Nat) : (und pl j i).length = j + 1 + i := by
  unfold und
  rw [List.length_map, List.length_range]
theorem und_at (pl : List Int) (j : Nat) {i k : Nat} (h : k < j + 1 + i) : (und pl j i)[k]? = some (decide (j ∈ path pl k)) := by
  unfold und
  rw [List.getElem?_map, List.getElem?_range h]
  rfl
theorem und_step (pl : List Int) (j i : Nat) : und pl j (i + 1) = und pl j i ++ [decide (j ∈ path pl (cu pl (j + i + 1)))] := by
  unfold und
  rw [show j + 1 + (i + 1) = j + 1 + i + 1 from rfl, List.range_succ, List.map_append]
  congr 1
  show [decide (j ∈ path pl (j + 1 + i))] = _
  rw [show j + 1 + i = j + i + 1 by omega]
  have e : j ∈ path pl (j + i + 1) ↔ j ∈ path pl (cu pl (j + i + 1)) := by
    rw [path_pos pl (by omega), List.mem_cons]
    constructor
    · rintro (h | h)
      · omega
      · exact h
    · exact .inr
  by_cases c : j ∈ path pl (cu pl (j + i + 1))
  · rw [decide_eq_true c, decide_eq_true (e.mpr c)]
  · rw [decide_eq_false c, decide_eq_false fun z => c (e.mp z)]
theorem und_count (pl : List Int) {j : Nat} (hj : j ≤ pl.length) : (und pl j (pl.length - j)).count true = sz pl j := by
  unfold und sz
  rw [show j + 1 + (pl.length - j) = pl.length + 1 by omega, List.count_eq_countP, List.countP_map]
  refine List.countP_congr fun k _ => ?_
  simp

/-! ### xs[i], xs a list or a tuple -/
theorem ix_lt {X : Cx} : IxR X (fun x y H Q => rIxL X.K x y H Q ∨ rIxT X.K x y H Q) := ix_list.or ix_tup
theorem item_lt {K : PySem.W.Frag} {H : Hp} {a : Addr} {xs : List V} {i : Int} {v : V} {Q : V → Hp → Prop} (h : SqL K H a xs ∨ SqT K H a xs) (e : atI xs i = some v) (q : Q v H) : rIxL K (.ref a) (.int i) H Q ∨ rIxT K (.ref a) (.int i) H Q := by
  rcases h with h | h
  · exact .inl ⟨a, xs, i, v, rfl, rfl, h, e, q⟩
  · exact .inr ⟨a, xs, i, v, rfl, rfl, h, e, q⟩
theorem lt_same {K : PySem.W.Frag} {H H' : Hp} {a : Addr} {xs : List V} (e : Same H H') (h : SqL K H a xs ∨ SqT K H a xs) : SqL K H' a xs ∨ SqT K H' a xs := h.imp (fun z => e.seq z) fun z => seqT e z
end PT

set_option maxHeartbeats 4000000
/-! sorted(range(n), key=lambda k: xs[k]): the lambda made, called, the list it sorts -/
namespace PT
open PySem PySem.Spec PyProof.Rows L2 LamX NdefX

section
variable {X : Cx} {pins : List (Addr × Obj)} {σ : List (Option V)} {H : Hp} {s : Shared}
/-- a name read: the state stays as it is -/
theorem name_still {i : Nat} {x : Str} {v : V} {pos : Pos} {Q E : Value → Shared → Prop} (I : Inv X pins σ H s) (hN : X.N[i]? = some x) (e : σ[i]? = some (some v)) (hv : Vis X.env.scope x)
    (k : ∀ u, RelV v u → Q u s) (hd : (x == ("__debug__" : Str)) = false := by decide) (hcd : (x == ("__classdict__" : Str)) = false := by decide) : wpAny (model X.prog X.w) X.A (eval (.Name x pos) X.env) Q E s := by
  obtain ⟨m, hn, hl⟩ := I.loc
  obtain ⟨u, r, l⟩ := hl i x v hN e hv
  have fin := k u r
  rcases l with ⟨hk, hm⟩ | ⟨hk, c, hc, hcell⟩
  · exact wpAny_Name (wpAny_loadName_local I.ok.kind hk hn hm fin) hd
  · rcases hk with hk | hk
    · exact wpAny_Name (wpAny_loadName_cell I.ok.kind hk hc hcell fin) hd
    · exact wpAny_Name (wpAny_loadName_free I.ok.kind hk hc hcell fin hcd) hd
/-- xs[k] of two names: the state stays as it is -/
theorem item_still {i j : Nat} {x y : Str} {a : Addr} {k : Nat} {ns : List Int} {n : Int} {p1 p2 pos : Pos} {Q E : Value → Shared → Prop} (I : Inv X pins σ H s) (hx : X.N[i]? = some x) (ex : σ[i]? = some (some (.ref a))) (vx : Vis X.env.scope x)
    (hy : X.N[j]? = some y) (ey : σ[j]? = some (some (.int (k : Int)))) (vy : Vis X.env.scope y) (hq : SqL X.K H a (ns.map V.int) ∨ SqT X.K H a (ns.map V.int)) (hk : ns[k]? = some n) (fin : ∀ t, Q (.int n t) s)
    (dx : (x == ("__debug__" : Str)) = false) (cx : (x == ("__classdict__" : Str)) = false) (dy : (y == ("__debug__" : Str)) = false) (cy : (y == ("__classdict__" : Str)) = false) : wpAny (model X.prog X.w) X.A (eval (.Subscript (.Name x p1) (.Name y p2) pos) X.env) Q E s := by
  refine Subscript_ (name_still I hx ex vx (fun u ru => name_still I hy ey vy (fun w rw' => ?_) dy cy) dx cx)
  cases ru
  obtain ⟨t, rfl⟩ := rw'
  have hi : (ns.map V.int)[k]? = some (.int n) := by
    rw [List.getElem?_map, hk]
    rfl
  have h63 := line63
  rcases hq with hq | hq
  · obtain ⟨its, r, pl, hz⟩ := I.list hq
    obtain ⟨v, hv, rv⟩ := r.get hi
    obtain ⟨t2, rfl⟩ := rv
    have hl := r.length
    have hlt := (List.getElem?_eq_some_iff.mp hv).1
    exact item_listR pl.isList (by omega) (by omega) (by rw [Int.toNat_natCast]; simpa using hv) (fin t2) rfl
  · obtain ⟨its, r, pl, hz⟩ := I.tuple hq
    obtain ⟨v, hv, rv⟩ := r.get hi
    obtain ⟨t2, rfl⟩ := rv
    have hl := r.length
    have hlt := (List.getElem?_eq_some_iff.mp hv).1
    exact subscriptTail_builtinR (x := .int n t2) pl.typeIs slot_tuple_getitem.lookup
      (getItem_tuple (j := k) (Q := fun r s' => r = .int n t2 ∧ Q r s') pl (by omega) (by omega) (seqIndex_of (by omega) (by rw [List.size_toArray]; omega)) (by simpa using hv) ⟨rfl, fin t2⟩) rfl
/-- the words of a lambda, as those of a def that was made -/
abbrev lamF (qual : Str) (scope : Scope) (cl : List (Str × Addr)) (c' : Addr) : NF := ⟨"<lambda>", qual, ⟨[], [], none, [], [], none, []⟩, [], scope, cl, c'⟩
/-- lambda k: xs[k], called at k -/
theorem key_call {A : Around} {qual x y : Str} {scope : Scope} {params : Arguments} {p1 p2 pos : Pos} {cl : List (Str × Addr)} {pm ctv : Value} {c' f a : Addr} {k : Nat} {t : Tok} {ns : List Int} {n : Int} {m : Nat}
    (I : Inv X pins σ H s) (e0 : Env0 X.prog X.w X.K X.mg X.base A X.stack s H) (room : Room (m + 1) A) (S : NScope [y, x] [y] [x] scope) (C : CellsAt cl [x] [some (.ref a)] s.heap H)
    (hf : s.heap.get? f = some (PySem.W.kla_obj "<lambda>" qual params (.Subscript (.Name x p1) (.Name y p2) pos) scope cl pm c' ctv)) (hc : s.heap.CodeRec (.ref c') qual)
    (hb : ∀ v, bindArgs (PySem.W.kla_fn "<lambda>" qual params (.Subscript (.Name x p1) (.Name y p2) pos) scope cl pm (.ref c') ctv) ⟨[v], []⟩ = pure [(y, v)])
    (hq : SqL X.K H a (ns.map V.int) ∨ SqT X.K H a (ns.map V.int)) (hk : ns[k]? = some n)
    (dx : (x == ("__debug__" : Str)) = false) (cx : (x == ("__classdict__" : Str)) = false) (dy : (y == ("__debug__" : Str)) = false) (cy : (y == ("__classdict__" : Str)) = false) :
    wpAny (model X.prog X.w) A (call (.ref f) [.int (k : Int) t]) (fun v s' => ∃ h' tk, s' = { s with heap := h', toks := tk } ∧ (∀ b o, s.heap.get? b = some o → h'.get? b = some o) ∧ ∃ t', v = .int n t') (fun _ _ => False) s := by
  have lim : s.heap.NoLimit := e0.mod.nolimit.keeps fun b o e => (e0.bs b o e).1
  have rc : codeAny (model X.prog X.w) A (.call (.ref f) ⟨[.int (k : Int) t], []⟩) (fun r s' => ∃ v, r = .ok (.ret v) ∧ ∃ h' tk, s' = { s with heap := h', toks := tk } ∧ (∀ b o, s.heap.get? b = some o → h'.get? b = some o) ∧ ∃ t', v = .int n t') s := by
    refine PySem.W.kla_callFunE room.depth hf rfl S.co S.gen rfl hc ?_
    rw [hb]
    refine wpAny_pure (wpAny_newFunctionEnv (binds := [y].zip [.int (k : Int) t]) S.nocell (fun ⟨n2, _⟩ hy => S.par n2 (List.of_mem_zip hy).1) (fun h₁ hns hsb => ⟨lim.fresh _ hsb, ?_⟩) S.kind)
    have kp : ∀ b o, s.heap.get? b = some o → h₁.get? b = some o := fun b o e => hsb.extBut b o (Nat.ne_of_lt (Heap.lt_size e)) (Heap.get?_push_of_some _ e)
    have J : Inv (ncx CX0 X.prog X.w X.K X.mg X.base [y, x] (lamF qual scope cl c') f A X.stack s H fun _ _ _ => False) [] (startF [y, x] [.int (k : Int)] [some (.ref a)]) H { s with heap := h₁, toks := s.toks + ([y].zip [Value.int (k : Int) t]).length } :=
      inv_startN (us := [.int (k : Int) t]) S room.hd e0 rfl (.cons ⟨t, rfl⟩ .nil) C hns kp
    refine PySem.W.kla_codeExpr (item_still (Q := fun v s' => _) (i := 1) (j := 0) J rfl rfl (.inr (.inr (S.frk x (by simp)))) rfl rfl (.inl (S.par y (by simp))) hq hk (fun t2 => ?_) dx cx dy cy)
    exact ⟨_, rfl, h₁, _, rfl, kp, t2, rfl⟩
  refine wpAny_call (codeAny_mono rc fun r s' hr => ?_)
  obtain ⟨v, rfl, q⟩ := hr
  exact q
end

/-! ### sorted(range(n), key=f) -/
theorem each_get {α β : Type} {R : α → β → Prop} : ∀ {as : List α} {bs : List β}, as.length = bs.length → (∀ (i : Nat) (a : α) (b : β), as[i]? = some a → bs[i]? = some b → R a b) → PySem.W.EachIs R as bs
  | [], [], _, _ => .nil
  | [], _ :: _, h, _ => by simp at h
  | _ :: _, [], h, _ => by simp at h
  | a :: as, b :: bs, h, q => .cons (q 0 a b rfl rfl) (each_get (by simpa using h) fun i x y e1 e2 => q (i + 1) x y (by simpa using e1) (by simpa using e2))
theorem each_map {α β : Type} {R : α → β → Prop} {as : List α} {bs : List β} (h : PySem.W.EachIs R as bs) {S : V → Value → Prop} {g : β → V} {f : α → Value} (q : ∀ a b, R a b → RelV (g b) (f a)) : Vals (bs.map g) (as.map f) := by
  induction h with
  | nil => exact .nil
  | cons r _ ih => exact .cons (q _ _ r) ih
/-- the stations, by their numbers -/
def byAge (n : Nat) (k : Nat → Int) : List Nat := (List.range n).mergeSort fun a b => decide (k a ≤ k b)
section
variable {prog : Program} {w : World} {A : Around} {E : Value → Shared → Prop} {s : Shared}
open PySem.W in
theorem sorted_rng {r q : Addr} {n : Nat} {t u v : Tok} {Q : Value → Shared → Prop} (k : Nat → Int) (hh : A.handled = none) (hr : IsRange s.heap r 0 (n : Int) 1 t u v) (hn : n ≤ 1000) (hu : A.units + 64 < cLine)
    (turn : ∀ (i : Nat) (tk0 : Tok), i < n → ∀ (h : Heap) (tk : Nat), (∀ b o, s.heap.get? b = some o → h.get? b = some o) →
      wpAny (model prog w) A.in1.in1 (call (.ref q) [.int (i : Int) tk0]) (PySem.W.KeyPure (.int (k i)) { s with heap := h, toks := tk }) (fun _ _ => False) { s with heap := h, toks := tk })
    (fin : ∀ (out : List Value) (c : Nat) (h' : Heap) (tk : Nat) (a : Addr), (∀ b o, s.heap.get? b = some o → h'.get? b = some o) → s.heap.get? a = none → h'.get? a = some (seqObj "list" out.toArray c) → PySem.W.EachIs (fun (v : Value) (i : Nat) => ∃ t, v = .int (i : Int) t) out (byAge n k) →
      Q (.ref a) { s with heap := h', toks := tk }) :
    wpAny (model prog w) A (call (.builtin "sorted") [.ref r] [(Str.ofString "key", .ref q)]) Q E s := by
  have hsl : n ≤ sizeLine := Nat.le_of_lt (small1000 hn)
  refine call_function_entry_kw PyProof.Rows.kind_sorted PyProof.Rows.plain_sorted PyProof.Rows.entry_sorted (PyProof.Rows.ksk_s1 _ _) ?_
  unfold Builtin.«sorted»
  refine wpAny_bind (m := checkCount "sorted" 1 1 _) (wpAny_pure ?_)
  refine wpAny_bind (collect_range (n := n) (by simp [hh]) hr (small_one (by omega) (by omega) (by omega) (by omega)) (by have z := rangeSize_nat 0 (n : Int); simpa using z) (by omega) fun h1 tk1 acc kp hi => ?_)
  have hal : acc.toList.length = n := by rw [Array.length_toList]; exact hi.1
  refine wpAny_bind (wpAny_newList ?_ (by rw [hal]; exact hsl))
  have up1 : ∀ b o, s.heap.get? b = some o → (h1.push { cls := .type "list", data := .seq acc.toList.toArray }).get? b = some o := fun b o e => Heap.get?_push_of_some _ (kp b o e)
  have hD : (h1.push { cls := .type "list", data := .seq acc.toList.toArray }).get? h1.objs.size = some (seqObj "list" acc.toList.toArray 0) := Heap.get?_push_size _ rfl
  have nS : s.heap.get? h1.objs.size = none := by
    cases e : s.heap.get? h1.objs.size with
    | none => rfl
    | some o => exact absurd (Heap.lt_size (kp _ _ e)) (Nat.lt_irrefl _)
  have hR : PySem.W.EachIs (fun (v : Value) (i : Nat) => ∃ t, v = .int (i : Int) t) acc.toList (List.range n) := each_get (by rw [hal, List.length_range]) fun i a b e1 e2 => by
    have hb : b = i := by
      have hlt := (List.getElem?_eq_some_iff.mp e2).1
      rw [List.length_range] at hlt
      rw [List.getElem?_range hlt] at e2
      exact (Option.some.inj e2).symm
    obtain ⟨t, rfl⟩ := hi.2 i a (by rw [← e1, Array.getElem?_toList])
    exact ⟨t, by rw [hb]; congr 1; omega⟩
  refine wpAny_bind (wpAny_holding (wpAny_call_entry_kw PyProof.Rows.slot_list_sort ⟨_, hD, rfl⟩ PyProof.Rows.entry_list_sort ?body (PyProof.Rows.ksk_l1 _ _)))
  case body =>
    rw [PyProof.Rows.ksk_t1]
    refine keyH_tree (kz := (List.range n).map fun i => PyData.int (k i)) (vs := acc.toList) hD (by rw [List.length_map, List.length_range, hal]) (by rw [hal]; exact hsl) (fun d hd d' hd' => ?_) (.inr fun d hd => ?_) (fun d hd => ?_) (fun i x d e1 e2 h tk kb => ?_) fun h' tk out c kb hout ko => ⟨_, rfl, wpAny_pure ⟨_, rfl, ?_⟩⟩
    · obtain ⟨_, _, rfl⟩ := List.mem_map.mp hd
      obtain ⟨_, _, rfl⟩ := List.mem_map.mp hd'
      rfl
    · obtain ⟨_, _, rfl⟩ := List.mem_map.mp hd
      exact ⟨(by intro z; cases z), (by intro xs z; cases z)⟩
    · obtain ⟨_, _, rfl⟩ := List.mem_map.mp hd
      show _ + 0 < cLine
      have : A.in1.in1.units ≤ A.units + 2 := by simp
      omega
    · have hlt : i < n := by
        have z := (List.getElem?_eq_some_iff.mp e1).1
        omega
      rw [List.getElem?_map, List.getElem?_range hlt] at e2
      obtain ⟨t, rfl⟩ := hi.2 i x (by rw [← e1, Array.getElem?_toList])
      rw [show (0 : Int) + (i : Int) * 1 = (i : Int) by omega]
      rw [← Option.some.inj e2]
      exact turn i t hlt h tk fun b o e => kb b o (fun z => by rw [z, nS] at e; cases e) (up1 b o e)
    · have ko2 := PySem.W.keyedOut_each (fun i => PyData.int (k i)) ko hR
      rw [PySem.W.dataLe_int] at ko2
      exact fin out c h' tk h1.objs.size (fun b o e => kb b o (fun z => by rw [z, nS] at e; cases e) (up1 b o e)) nS hout ko2
end
theorem ObjOk.there {P : Program} {w : World} {H : Hp} {h : Heap} {a : Addr} {o : HO} (x : ObjOk P w H h a o) : ∃ u, h.get? a = some u := by
  cases o with
  | lst xs => obtain ⟨_, _, _, _, e⟩ := x; exact ⟨_, e⟩
  | tup xs => obtain ⟨_, _, _, ob, e, _⟩ := x; exact ⟨_, e⟩
  | dK kvs => obtain ⟨_, _, _, _, ob, _, _, e, _⟩ := x; exact ⟨_, e⟩
  | dT kvs => obtain ⟨_, _, _, _, ob, _, _, e, _⟩ := x; exact ⟨_, e⟩
  | set S n => obtain ⟨ob, _, _, _, e, _⟩ := x; exact ⟨_, e⟩
  | ins C dx fs => obtain ⟨_, _, _, e, _⟩ := x; exact ⟨_, e⟩
  | own y => exact x
  | xd fs => obtain ⟨_, ⟨_, _, _, e, _⟩, _⟩ := x; exact ⟨_, e⟩
  | rng lo hi => obtain ⟨_, _, _, e⟩ := x; exact ⟨_, e⟩
  | frz ob u => exact ⟨_, x.1⟩
  | tbl ps => exact ⟨_, x⟩
  | met f y => exact ⟨_, x⟩
  | ext φ => exact x.2.1
theorem hok_none {P : Program} {w : World} {H : Hp} {h : Heap} {a : Addr} (k : HOk P w H h) (e : h.get? a = none) : H a = none := by
  cases q : H a with
  | none => rfl
  | some o =>
    obtain ⟨u, z⟩ := ObjOk.there (k a o q)
    rw [e] at z
    cases z
/-! ### the expression -/
theorem ExtN.seq {K : PySem.W.Frag} {H H' : Hp} (e : ExtN H H') {a : Addr} {xs : List V} (h : SqL K H a xs ∨ SqT K H a xs) : SqL K H' a xs ∨ SqT K H' a xs := by
  rcases h with ((h | ⟨o, h⟩) | h) | ((h | ⟨o, h⟩) | h)
  · exact .inl (.inl (.inl (e _ _ h fun ps z => by cases z)))
  · exact .inl (.inl (.inr ⟨o, e _ _ h fun ps z => by cases z⟩))
  · exact .inl (.inr h)
  · exact .inr (.inl (.inl (e _ _ h fun ps z => by cases z)))
  · exact .inr (.inl (.inr ⟨o, e _ _ h fun ps z => by cases z⟩))
  · exact .inr (.inr h)
/-- range(n), as a thing of the heap -/
theorem cr_range1 {X : Cx} : CallR X (.type "range") (fun vs H Q => ∃ j, vs = [V.int j] ∧ ∀ p, H p = none → Q (.ref p) (upd H p (.rng 0 j))) := by
  intro pins s σ H vs us Q I r h
  obtain ⟨j, rfl, q⟩ := h
  obtain ⟨u1, rfl, t, rfl⟩ := vals1 r
  refine call_range_1 ⟨.ref _, upd H _ (.rng 0 j), I.laid (t' := _) (fun b o e => Heap.get?_push_of_some _ e) (Nat.le_refl _) ?_, rfl, q _ (I.hok.fresh (Nat.le_refl _))⟩
  exact ⟨_, _, _, Heap.get?_push_size _ rfl⟩
def tSortedLam (K : PySem.W.Frag) (T : List (Addr × Str)) (j : Nat) (ta : TA) : TE := fun σ H Q => ta σ H fun vs H1 => ∃ (p a : Addr) (n : Nat) (ns : List Int), vs = [.ref p] ∧ H1 p = some (.rng 0 (n : Int)) ∧ n ≤ 1000 ∧ σ[j]? = some (some (.ref a)) ∧ (SqL K H1 a (ns.map V.int) ∨ SqT K H1 a (ns.map V.int)) ∧ ns.length = n ∧ Tabs T H1 ∧
  ∀ (H2 : Hp) (D : Addr), ExtN H1 H2 → Tabs T H2 → H2 D = none → Q (.ref D) (upd H2 D (.lst ((byAge n fun i => ns.getD i 0).map fun i : Nat => V.int (i : Int))))
theorem pe_sortedLam {X : Cx} {T : List (Addr × Str)} {c P : Addr} {j : Nat} {x y : Str} {e : Expr} {ta : TA} {params : Arguments} {scope : Scope} {p pos p1 p2 p3 lp kp : Pos} (TB : TabB X.base X.mg c P) (hcode : X.env.code = .ref c)
    (hmT : (P, X.env.qual ++ "<lambda>") ∈ T) (hu : ∀ z ∈ T, z.1 = P → z.2 = X.env.qual ++ "<lambda>") (room : Room 4 X.A) (hc : X.calm = true) (hg : Gl X "sorted") (hm : X.mg "sorted" = none) (ha : PA X [e] ta)
    (S : NScope [y, x] [y] [x] scope) (hj : X.N[j]? = some x) (hcell : X.env.scope.names.lookup x = some .cell ∨ X.env.scope.names.lookup x = some .free) (hfr : (x, NameKind.free) ∈ scope.names)
    (hb : ∀ (cl : List (Str × Addr)) (pm cdv ctv v : Value), bindArgs (PySem.W.kla_fn "<lambda>" (X.env.qual ++ "<lambda>") params (.Subscript (.Name x p1) (.Name y p2) p3) scope cl pm cdv ctv) ⟨[v], []⟩ = pure [(y, v)])
    (hdef : defaultsOf params X.env = ([], []))
    (dx : (x == ("__debug__" : Str)) = false := by decide) (cx : (x == ("__classdict__" : Str)) = false := by decide) (dy : (y == ("__debug__" : Str)) = false := by decide) (cy : (y == ("__classdict__" : Str)) = false := by decide)
    (na : backTo pos (starEach [e] X.env) = (false, eval e X.env) :: backTo pos (starEach [] X.env) := by rfl) (hpl : (backTo pos (starEach [e] X.env)).any (·.1) = false := by rfl) :
    PE X (.Call (.Name "sorted" p) [e] [⟨some "key", .Lambda params (.Subscript (.Name x p1) (.Name y p2) p3) scope lp, kp⟩] pos) (tSortedLam X.K T j ta) := by
  refine ⟨fun pins s σ H Q I h => ?_⟩
  have hfree : ∀ z ∈ scope.names, z.2 = .free → X.env.scope.names.lookup z.1 = some .cell ∨ X.env.scope.names.lookup z.1 = some .free := fun z hz e => by
    have := S.free z hz e
    rw [List.mem_singleton.mp this]
    exact hcell
  have hfree2 : ∀ z ∈ scope.names, z.2 = .free → ∃ c, X.env.cells.lookup z.1 = some c := fun z hz e => (hfree z hz e).elim (fun q => I.ok.has _ (.inl q)) fun q => I.ok.has _ (.inr q)
  refine wpAny_Call_Name_kw (ld_blt I hg hm (show bootBuiltins (Str.ofString "sorted") = some (.builtin "sorted") by decide +kernel) ?_)
  refine PyProof.Rows.callWith_kw (thn (ha.run pos pins s σ H _ I h) fun us s1 ⟨vs, H1, I1, r1, q1⟩ => ?_) na hpl rfl rfl
  obtain ⟨r, a, n, ns, rfl, hr, hn, hs, hq, hl, hT, q⟩ := q1
  obtain rfl := Vals.ref1 r1
  refine wpAny_evalAll_cons (wpAny_bind (lam_make2 I1 TB hcode hmT hu hT hdef hfree2 fun f c' pm ctv H2 s2 I2 ex tb hf hfn hfr2 hco => wpAny_bind (wpAny_standAt (wpAny_pure ?_))))
  refine wpAny_evalAll_nil ?_
  have hr2 : H2 r = some (.rng 0 (n : Int)) := ex _ _ hr fun ps z => by cases z
  obtain ⟨t, u, v, er⟩ := I2.hok r _ hr2
  have hq2 := ExtN.seq ex hq
  obtain ⟨⟨oc, vs2, t2, h1, h2, h3⟩, _, _⟩ := I2.hok c' _ hco
  refine sorted_rng (fun i => ns.getD i 0) (I2.ok.hd hc) er hn room.units (fun i tk0 hi h tk kp => ?_) fun out c0 h' tk D kp hD ho hE => ?_
  · have I3 : Inv X pins σ H2 { s2 with heap := h, toks := tk } := I2.kept kp
    have C := cells_of I3 (Caps.made (fr := [x]) (js := [j]) I3.ok hfree (fun z hz => by rw [List.mem_singleton.mp hz]; exact hfr) (by rw [List.map_cons, hj]; rfl))
    rw [List.map_cons, slotAt_of hs] at C
    have hk : ns[i]? = some (ns.getD i 0) := by
      rw [List.getD_eq_getElem?_getD, List.getElem?_eq_getElem (by omega)]
      rfl
    refine wpAny_mono (key_call (m := 1) I3 I3.env0.in1.in1 room.in1.in1 S C (kp _ _ hf) ⟨c', oc, vs2, t2, rfl, kp _ _ h1, h2, h3⟩ (hb _ _ _ _) hq2 hk dx cx dy cy) (fun v s' z => ?_) fun _ _ z => z
    obtain ⟨h4, tk4, rfl, kp4, t', rfl⟩ := z
    exact ⟨h4, tk4, rfl, kp4, .int _ _⟩
  · have hlen : ((byAge n fun i => ns.getD i 0).map fun i : Nat => V.int (i : Int)).length ≤ sizeLine := by
      unfold byAge
      rw [List.length_map, List.length_mergeSort, List.length_range]
      exact Nat.le_of_lt (small1000 hn)
    have rv : Vals ((byAge n fun i => ns.getD i 0).map fun i : Nat => V.int (i : Int)) out := by
      have z := each_map (S := fun _ _ => True) (g := fun i : Nat => V.int (i : Int)) (f := id) hE fun a b q => q
      rwa [List.map_id] at z
    have nD := hok_none I2.hok hD
    exact ⟨.ref D, _, I2.laidN kp hD nD (show ObjOk X.prog X.w _ _ _ (.lst ((byAge n fun i => ns.getD i 0).map fun i : Nat => V.int (i : Int))) from ⟨hlen, out, c0, rv, ho⟩), rfl, q H2 D ex tb nD⟩

/-! ### tables, where lists are written -/
theorem codeO_lst {c : Addr} {q : Str} (xs : List V) : CodeO c q ≠ .lst xs := fun z => by
  unfold CodeO at z
  cases z
theorem tabs_bar {T : List (Addr × Str)} {H H' : Hp} {b : Addr} {xs : List V} (h : Tabs T H) (e : H b = some (.lst xs)) (k : Bar b H H') : Tabs T H' := fun p hp => by
  obtain ⟨ps, h1, h2, h3⟩ := h p hp
  refine ⟨ps, k _ _ (fun z => ?_) h1, h2, fun pos cv hc => ?_⟩
  · rw [z, e] at h1
    cases h1
  · obtain ⟨c, e1, e2⟩ := h3 pos cv hc
    refine ⟨c, e1, k _ _ (fun z => ?_) e2⟩
    rw [z, e] at e2
    exact codeO_lst xs (Option.some.inj e2).symm
theorem tabs_set {T : List (Addr × Str)} {H : Hp} {b : Addr} {xs ys : List V} (h : Tabs T H) (e : H b = some (.lst xs)) : Tabs T (upd H b (.lst ys)) := tabs_bar h e bar_upd
theorem tabs_same {T : List (Addr × Str)} {H H' : Hp} (h : Tabs T H) (e : Same H H') : Tabs T H' := h.ext e
theorem same_extN {H H' : Hp} (e : Same H H') : ExtN H H' := fun b o h _ => e b o h
theorem extN_lst {H H' : Hp} (e : ExtN H H') {a : Addr} {xs : List V} (h : H a = some (.lst xs)) : H' a = some (.lst xs) := e _ _ h fun _ z => by cases z
theorem extN_tup {H H' : Hp} (e : ExtN H H') {a : Addr} {xs : List V} (h : H a = some (.tup xs)) : H' a = some (.tup xs) := e _ _ h fun _ z => by cases z
theorem extN_plant {H H' : Hp} (e : ExtN H H') {p : Addr} {pl : List Int} (h : PlantAt H p pl) : PlantAt H' p pl := ⟨extN_tup e h.at_, h.ok⟩
theorem extN_new {H H' : Hp} {a : Addr} {o : HO} (e : ExtN H H') (n : H' a = none) : ExtN H (upd H' a o) := fun b u h z => by
  have y := e b u h z
  rw [upd_ne (ne_of_none y n)]
  exact y
theorem extN_set {H H' : Hp} {a : Addr} {o : HO} (e : ExtN H H') (n : H a = none) : ExtN H (upd H' a o) := fun b u h z => by
  rw [upd_ne (ne_of_none h n)]
  exact e b u h z
end PT

set_option maxHeartbeats 4000000
/-! defs that are called where nothing is being shown: they may use repr of data -/
namespace PT
open PySem PySem.Spec PyProof.Rows L2
/-- what such a def promises: as FnOk says, but only where the guards are known to be empty -/
structure FnG (Pg : Program) (wo : World) (K : PySem.W.Frag) (mg : Str → Option Value) (bs : Heap) (lv : Nat) (at_ : Addr) (fn : FuncData) (ps : List Str) (sp : Sp) : Prop where
  len : ∀ vs H Q E, sp vs H Q E → vs.length = ps.length
  run : ∀ (A : Around) (out : List Env) (st : Shared) (H : Hp) (given : Args) (us : List Value) (vs : List V) (Q : VK) (E : XK),
    A.guards = some [] → Room lv A → Env0 Pg wo K mg bs A out st H → BindsTo st fn given (ps.zip us) → Vals vs us → sp vs H Q E →
      codeAny (model Pg wo) A (.call (.ref at_) given) (CR CX0 out Pg wo H st Q E) st
section
variable {Pg : Program} {wo : World} {K : PySem.W.Frag} {mg : Str → Option Value} {bs : Heap} {at_ : Addr} {fn : FuncData} {ps : List Str} {sp : Sp}
theorem FnOk.toG {lv : Nat} (F : FnOk Pg wo K mg bs CX0 lv at_ fn ps sp) : FnG Pg wo K mg bs lv at_ fn ps sp := ⟨F.len, fun A out st H given us vs Q E _ => F.run A out st H given us vs Q E⟩
/-- from the reading of its body -/
theorem Fun.okG {name qual : Str} {st : Stmt} {N : List Str} {lv : Nat} (F : Fun K name qual st at_ fn) (S : FnScope N ps (defScope st)) (ln : ∀ vs H Q E, sp vs H Q E → vs.length = ps.length)
    (rd : ∀ (cdv : Value) (A : Around) (out : List Env) (s : Shared) (H : Hp) (vs : List V) (Q : VK) (E : XK),
      A.guards = some [] → Room lv (A.deeper (envOfC qual (defScope st) s.heap.objs.size at_ cdv)) → sp vs H Q E →
      ∃ t, PSs (cxOf CX0 Pg wo K mg bs N qual (defScope st) at_ cdv A out s H E).nox (defBody st) t ∧ t ⟨fun _ H2 => Q .non H2, Q, fun _ _ => False, fun _ _ => False⟩ (start N vs) H) :
    FnG Pg wo K mg bs (lv + 1) at_ fn ps sp := by
  obtain ⟨_, _, _, _, _, _, cdv, _, _, e, lk, cd⟩ := F.ex
  subst e
  refine ⟨ln, fun A out s H given us vs Q E empty room en bd rv hs => at_body lk cd S room en bd rv (ln _ _ _ _ hs) ?_⟩
  obtain ⟨t, h, q⟩ := rd cdv A out s H vs Q E empty (room.deeper _) hs
  exact ⟨t, h.nox, q⟩
end
section
variable {X : Cx} {lv : Nat} {at_ : Addr} {fn : FuncData} {ps : List Str} {sp : Sp} {more : List V} {ds : List Value}
theorem run_fnG {pins : List (Addr × Obj)} {σ : L2.St} {H : Hp} {st : Shared} {Q : VK} {E : XK} {us : List Value} {vs : List V} (F : FnG X.prog X.w X.K X.mg X.base lv at_ fn ps sp) (empty : X.A.guards = some []) (room : Room lv X.A)
    (bd : Binds X.K fn ps ds) (rm : Vals more ds) (J : Inv X pins σ H st) (rv : Vals vs us) (hs : sp (vs ++ more) H Q E) : wpAny (model X.prog X.w) X.A (call (.ref at_) us) (EP X pins σ Q) X.xe st := by
  have all := rv.append rm
  have count : (us ++ ds).length = ps.length := all.length.symm.trans (F.len _ _ _ _ hs)
  have ran := F.run X.A X.stack st H ⟨us, []⟩ _ _ Q E empty room J.env0 (bd st us J.kIn count) all hs
  refine wpAny_call (codeAny_mono ran ?_)
  rintro (er | fl) st2 z
  · exact z.elim
  · cases fl <;> first | exact J.after z | exact z.elim
/-- f(x, ..) for such a def -/
theorem pe_callG {name : Str} {p1 p2 : Pos} {a1 : Expr} {rest : List Expr} {t : TA} (F : FnG X.prog X.w X.K X.mg X.base lv at_ fn ps sp) (empty : X.A.guards = some []) (room : Room lv X.A) (gl : Gl X name) (is : X.mg name = some (.ref at_))
    (kp : PySem.W.keepIn X.K (.ref at_) = true) (bd : Binds X.K fn ps ds) (rm : Vals more ds) (hargs : PA X (a1 :: rest) t)
    (c1 : (name == ("__debug__" : Str)) = false := by decide) (c2 : starEach (a1 :: rest) X.env = (false, eval a1 X.env) :: starEach rest X.env := by rfl)
    (c3 : (backTo p2 (starEach rest X.env)).any (·.1) = false := by rfl) : PE X (.Call (.Name name p1) (a1 :: rest) [] p2) (tCall sp more E0 t) := by
  constructor
  intro pins st σ H Q J h
  have ran := hargs.run p2 pins st σ H _ J h
  refine wpAny_Call_Name_kw (ld_glob J gl is (PySem.W.callWith_K (h₀ := X.base) J.ok.mod.kin kp (thn ran ?_) c2 c3) c1)
  rintro us st2 ⟨vs, H2, J2, rv, q⟩
  exact ⟨J2.kIn, run_fnG F empty room bd rm J2 rv q⟩
end
end PT

set_option maxHeartbeats 4000000
/-! the law's own call where defs of the program make lambdas: their tables of code objects stand empty, and are tracked -/
namespace PT
open PySem PySem.Spec PyProof.Rows L2 LamX

/-- a def whose code object is known by its place -/
structure FunC (K : PySem.W.Frag) (x qual : Str) (st : Stmt) (f : Addr) (fd : FuncData) (c : Addr) : Prop where
  ex : ∃ (oc : Value) (od : Option Addr) (kV doc pm : Value) (an : Option Addr) (ct : Value) (osl : Array (Option Value)),
    fd = PySem.W.fnOf x qual (defArgs st) (defBody st) (defScope st) .none kV doc pm an (.ref c) ct ∧ K.lookup f = some ⟨oc, od, .func fd, osl⟩ ∧ PySem.W.codeIn K (.ref c) qual = true
  kp : PySem.W.keepIn K (.ref f) = true
section
variable {P : Program} {w : World} {K : PySem.W.Frag} {mg : Str → Option Value} {base : Heap}
theorem FunC.fun {x qual : Str} {st : Stmt} {f c : Addr} {fd : FuncData} (F : FunC K x qual st f fd c) : Fun K x qual st f fd :=
  ⟨let ⟨oc, od, kV, doc, pm, an, ct, osl, h⟩ := F.ex; ⟨oc, od, kV, doc, pm, an, .ref c, ct, osl, h⟩, F.kp⟩
theorem FunC.ok {x qual : Str} {st : Stmt} {f c : Addr} {fd : FuncData} {N ps : List Str} {k : Nat} {sp : Sp} (F : FunC K x qual st f fd c) (S : FnScope N ps (defScope st)) (len : ∀ vs H Q E, sp vs H Q E → vs.length = ps.length)
    (rd : ∀ (A : Around) (outer : List Env) (s : Shared) (H : Hp) (vs : List V) (Q : VK) (E : XK), Room k (A.deeper (envOfC qual (defScope st) s.heap.objs.size f (.ref c))) → sp vs H Q E →
      ∃ t, PSs (cxOf CX0 P w K mg base N qual (defScope st) f (.ref c) A outer s H E).nox (defBody st) t ∧ t { nx := fun _ H' => Q .non H', rt := Q } (start N vs) H) : FnOk P w K mg base CX0 (k + 1) f fd ps sp := by
  obtain ⟨oc, od, kV, doc, pm, an, ct, osl, e, lk, cd⟩ := F.ex
  subst e
  refine fn_of lk cd S len fun A outer s H vs Q E room hs => ?_
  obtain ⟨t, h, q⟩ := rd A outer s H vs Q E room hs
  exact ⟨t, h.nox, q⟩
theorem funC_mk {x qual : Str} {st : Stmt} {f c : Addr} {oc : Value} {od an : Option Addr} {osl : Array (Option Value)} {kV doc pm ct : Value} (l : K.lookup f = some ⟨oc, od, .func (PySem.W.fnOf x qual (defArgs st) (defBody st) (defScope st) .none kV doc pm an (.ref c) ct), osl⟩)
    (d : PySem.W.codeIn K (.ref c) qual = true) (k : PySem.W.keepIn K (.ref f) = true) : FunC K x qual st f (PySem.W.fnOf x qual (defArgs st) (defBody st) (defScope st) .none kV doc pm an (.ref c) ct) c := ⟨⟨oc, od, kV, doc, pm, an, ct, osl, rfl, l, d⟩, k⟩
end
/-- nothing is tracked but the script and these tables, all empty -/
def OnlyT (cs : List (Addr × Addr)) (H : Hp) : Prop := ∀ b, H b = none ∨ b ∈ cs.map (·.2) ∨ ∃ o xs, H b = some (.frz o (.lst xs))
theorem law_atGT {P : Program} {w : World} {K : PySem.W.Frag} {mg mb : Str → Option Value} {fa a : Addr} {s₁ : Shared} {vs : List Value} {ns : List Int} {cs : List (Addr × Addr)}
    (kin : K.In s₁.heap) (gl : s₁.heap.Ns mainGlobals mg) (bl : s₁.heap.Ns builtinsNs mb) (bb : ∀ x : Str, x ≠ "__name__" → mb x = bootBuiltins x) (nl : s₁.heap.NoLimit) (gn : s₁.gens = #[])
    (tb : ∀ p ∈ cs, s₁.heap.get? p.2 = some (PySem.W.tabObj #[])) (tn : ∀ p ∈ cs, K.lookup p.2 = none) (tc : ∀ p ∈ cs, PySem.W.CodeHd s₁.heap p.1 p.2)
    (bm : ∃ (m : Addr) (ob : Obj), mg "__builtins__" = some (.ref m) ∧ m ≠ builtinsNs ∧ s₁.heap.get? m = some ob ∧ ob.cls = .type "module" ∧ ob.dict = some builtinsNs ∧ ob.data = .plain)
    (ha : s₁.heap.get? a = some { cls := .type "list", data := .seq vs.toArray }) (hi : IntsAre vs ns) (hl : ns.length ≤ sizeLine)
    (F : ∀ (base : Heap) (H : Hp), K.In base → base.Ns mainGlobals mg → (∀ p ∈ cs, TabB base mg p.1 p.2) → (∀ p ∈ cs, H p.2 = some (.tbl #[])) → SqL K H a (ns.map V.int) → Env0 P w K mg base callerA [] s₁ H →
      codeAny (model P w) callerA (.call (.ref fa) ⟨[.ref a], []⟩) (CR CX0 [] P w H s₁ (fun v _ => v = .bl true) fun _ _ _ => False) s₁) :
    codeAny (model P w) callerA (.call (.ref fa) ⟨[.ref a], []⟩) (fun r s' => r = .ok (.ret (.bool true)) ∧ OldK s₁.heap s'.heap ∧ s'.os = s₁.os ∧ AllBare s'.gens) s₁ := by
  have rv := vals_ints hi
  have ln := hi.length
  have tabAt : ∀ b, b ∈ cs.map (·.2) → s₁.heap.get? b = some (PySem.W.tabObj #[]) := fun b hb => by
    obtain ⟨p, hp, rfl⟩ := List.mem_map.mp hb
    exact tb p hp
  have aNot : a ∉ cs.map (·.2) := fun z => by
    have y := tabAt a z
    rw [ha] at y
    have y2 := congrArg Obj.data (Option.some.inj y)
    cases y2
  have inT : ∀ p ∈ cs, p.2 ∈ cs.map (·.2) := fun p hp => List.mem_map.mpr ⟨p, hp, rfl⟩
  suffices main : ∃ H : Hp, OnlyT cs H ∧ (∀ p ∈ cs, H p.2 = some (.tbl #[])) ∧ SqL K H a (ns.map V.int) ∧ HOk P w H s₁.heap ∧ (∀ b, H b ≠ none → b ∈ cs.map (·.2) ∨ (b = a ∧ K.lookup a = none)) by
    obtain ⟨H, o1, ot, o2, ok, tr⟩ := main
    have keepH : ∀ {b : Addr} {o : Obj}, s₁.heap.get? b = some o → H b = none → (hidT s₁.heap H).get? b = some o := fun z n => hidT_get z n
    -- what is no list and no empty table is not tracked
    have free : ∀ {b : Addr} {o : Obj}, s₁.heap.get? b = some o → (∀ us n, o.data ≠ .seq us n) → o.data ≠ .fields #[] → H b = none := fun {b o} z1 z2 z3 => by
      by_cases n : H b = none
      · exact n
      · rcases tr b n with y | ⟨y, _⟩
        · rw [tabAt b y] at z1
          cases z1
          exact absurd rfl z3
        · rw [y, ha] at z1
          cases z1
          exact absurd rfl (z2 _ _)
    have seqNot : ∀ {b : Addr} {o : Obj} {es : Array DictEntry} {ep : Nat}, s₁.heap.get? b = some o → o.data = .dict es ep → H b = none := fun {b o es ep} z1 z2 =>
      free z1 (fun us n y => by rw [z2] at y; cases y) fun y => by rw [z2] at y; cases y
    have nss : ∀ {b : Addr} {m : Str → Option Value}, s₁.heap.Ns b m → (hidT s₁.heap H).Ns b m := by
      rintro b m ⟨o, es, ep, z1, z2, r⟩
      exact ⟨o, es, ep, keepH z1 (seqNot z1 z2), z2, r⟩
    have kb : K.In (hidT s₁.heap H) := by
      intro b o z
      refine keepH (kin b o z) ?_
      by_cases n : H b = none
      · exact n
      · rcases tr b n with y | ⟨y, y2⟩
        · obtain ⟨p, hp, e⟩ := List.mem_map.mp y
          rw [← e, tn p hp] at z
          cases z
        · rw [y, y2] at z
          cases z
    have md : Mod K mg (hidT s₁.heap H) := by
      obtain ⟨mc, c1, c2⟩ := nl
      exact ⟨kb, nss gl, ⟨mb, nss bl, bb⟩, ⟨mc, nss c1, c2⟩⟩
    have tabs : ∀ p ∈ cs, TabB (hidT s₁.heap H) mg p.1 p.2 := fun p hp => by
      have tp := tb p hp
      refine ⟨?_, ?_, fun z => ?_⟩
      · obtain ⟨o, us, f1, f2, f3, f4, f5, f6, f7, e1, e2, e3, rest⟩ := tc p hp
        refine ⟨o, us, f1, f2, f3, f4, f5, f6, f7, keepH e1 (free e1 (fun _ _ y => ?_) fun y => ?_), e2, e3, rest⟩
        · rw [e3] at y
          cases y
        · rw [e3] at y
          cases y
          have z := rest.1
          simp at z
      · obtain ⟨m, ob, b1, b2, b3, b4, b5, b6⟩ := bm
        have m1 : m ≠ mainGlobals := fun z => by
          obtain ⟨o, es, ep, y, yd, _⟩ := gl
          rw [z, y] at b3
          cases b3
          rw [yd] at b6
          cases b6
        have m2 : m ≠ p.2 := fun z => by
          rw [z, tp] at b3
          cases b3
          cases b6
        refine ⟨m, ob, b1, b2, m1, m2, keepH b3 (free b3 (fun _ _ y => ?_) fun y => ?_), b4, b5, b6⟩
        · rw [b6] at y
          cases y
        · rw [b6] at y
          cases y
      · obtain ⟨o, es, ep, y, yd, _⟩ := gl
        rw [z, tp] at y
        cases y
        cases yd
    have en : Env0 P w K mg (hidT s₁.heap H) callerA [] s₁ H :=
      ⟨rfl, md, fun _ _ z => of_hidT z, Nat.le_of_eq (hidT_size _ _), trivial, fun b z => absurd (show b ∈ ([] : List Addr) from z) (by simp), ok, .of_eq gn⟩
    refine codeAny_mono (F _ H kb (nss gl) tabs ot o2 en) fun r s2 z => ?_
    match r, z with
    | .error _, z => exact False.elim z
    | .ok .next, z => exact False.elim z
    | .ok .brk, z => exact False.elim z
    | .ok .cont, z => exact False.elim z
    | .ok (.ret u), z =>
      obtain ⟨v, H2, os, bare, un, ok2, rr, q⟩ := z
      have q2 : v = .bl true := q
      subst q2
      obtain rfl : u = Value.bool true := rr
      have same : ∀ b o, b ∉ cs.map (·.2) → s₁.heap.get? b = some o → s2.heap.get? b = some o := fun b o nb z => by
        rcases o1 b with n | y | ⟨ob, xs, y⟩
        · exact un.keep b o z n (fun y => absurd (show b ∈ ([] : List Addr) from y) (by simp)) (by simp)
        · exact absurd y nb
        · obtain ⟨y1, _⟩ := ok b _ y
          obtain ⟨y2, _⟩ := ok2 b _ (un.frzs b ob _ y)
          rw [z] at y1
          cases y1
          exact y2
      have more : ∀ p ∈ cs, ∃ m : Array Value, s2.heap.get? p.2 = some (PySem.W.tabObj m) := fun p hp => by
        obtain ⟨m, y⟩ := un.tbls p.2 #[] (ot p hp)
        exact ⟨_, ok2 p.2 _ y⟩
      refine ⟨rfl, ⟨fun b o z => ?_, fun b o z => ?_⟩, os, bare⟩
      · by_cases hb : b ∈ cs.map (·.2)
        · obtain ⟨p, hp, e⟩ := List.mem_map.mp hb
          obtain ⟨m, hm⟩ := more p hp
          rw [← e] at z ⊢
          rw [tb p hp] at z
          cases z
          exact .inr (.inl ⟨((tc p hp).tab (tb p hp)).isCodeTable, rfl, #[], m, rfl, by rw [Array.empty_append]; exact hm⟩)
        · exact .inl (same b o hb z)
      · by_cases hb : b ∈ cs.map (·.2)
        · obtain ⟨p, hp, e⟩ := List.mem_map.mp hb
          obtain ⟨m, hm⟩ := more p hp
          rw [← e]
          exact ⟨_, hm⟩
        · exact ⟨o, same b o hb z⟩
  let tabH : Hp := fun b => if b ∈ cs.map (·.2) then some (.tbl #[]) else none
  have t1 : ∀ {b}, b ∈ cs.map (·.2) → tabH b = some (.tbl #[]) := fun hb => if_pos hb
  have t0 : ∀ {b}, b ∉ cs.map (·.2) → tabH b = none := fun hb => if_neg hb
  cases hk : K.lookup a with
  | some o =>
    have z := kin a o hk
    rw [ha] at z
    cases z
    refine ⟨tabH, fun b => ?_, fun p hp => t1 (inT p hp), .inr ⟨_, vs.toArray, _, hk, rfl, rfl, rfl, by rw [List.size_toArray, ln]; exact hl, by simpa using rv⟩, fun b u y => ?_, fun b y => ?_⟩
    · by_cases hb : b ∈ cs.map (·.2)
      · exact .inr (.inl hb)
      · exact .inl (t0 hb)
    · by_cases hb : b ∈ cs.map (·.2)
      · have y2 := (t1 hb).symm.trans y
        cases y2
        exact tabAt b hb
      · have y2 := (t0 hb).symm.trans y
        cases y2
    · by_cases hb : b ∈ cs.map (·.2)
      · exact .inl hb
      · exact absurd (t0 hb) y
  | none =>
    let scr : HO := .frz { cls := .type "list", data := .seq vs.toArray } (.lst (ns.map V.int))
    have s0 : upd tabH a scr a = some scr := upd_same
    have s1 : ∀ {b}, b ≠ a → upd tabH a scr b = tabH b := fun hb => upd_ne hb
    refine ⟨upd tabH a scr, fun b => ?_, fun p hp => ?_, .inl (.inr ⟨_, s0⟩), fun b u y => ?_, fun b y => ?_⟩
    · by_cases e : b = a
      · subst e
        exact .inr (.inr ⟨_, _, s0⟩)
      · by_cases hb : b ∈ cs.map (·.2)
        · exact .inr (.inl hb)
        · exact .inl ((s1 e).trans (t0 hb))
    · have e : p.2 ≠ a := fun z => aNot (z ▸ inT p hp)
      exact (s1 e).trans (t1 (inT p hp))
    · by_cases e : b = a
      · subst e
        have y2 := s0.symm.trans y
        cases y2
        exact ⟨ha, by rw [List.length_map]; exact hl, vs, _, rv, ha⟩
      · have y1 := (s1 e).symm.trans y
        by_cases hb : b ∈ cs.map (·.2)
        · have y2 := (t1 hb).symm.trans y1
          cases y2
          exact tabAt b hb
        · have y2 := (t0 hb).symm.trans y1
          cases y2
    · by_cases e : b = a
      · exact .inr ⟨e, rfl⟩
      · by_cases hb : b ∈ cs.map (·.2)
        · exact .inl hb
        · exact absurd ((s1 e).trans (t0 hb)) y
/-- what k_head leaves, from such a call -/
theorem walk_GT {l : PySem.W.OpenLaw} {n : Nat} {q : Program} {loose : List Str} {XP : (Str → Option Value) → Heap → Prop} {YP : World → Heap → Prop} {d : DefRec} {K : Params → PySem.W.Frag} {ts : List Addr}
    (hn : l.most = some n) (hn2 : n ≤ sizeLine) (hdf : d.params.defaults = []) (hY : ∀ (w : World) (h : Heap), YP w h → (K w.params).In h ∧ ∀ P ∈ ts, h.get? P = some (PySem.W.tabObj #[]))
    (F : ∀ (w : World) (mg : Str → Option Value) (fa a : Addr) (st : Shared) (ns : List Int), (K w.params).In st.heap → st.heap.Ns mainGlobals mg → mg d.name = some (.ref fa) → ns.length ≤ n → (∀ P ∈ ts, st.heap.get? P = some (PySem.W.tabObj #[])) →
      ∃ cs : List (Addr × Addr), (∀ p ∈ cs, st.heap.get? p.2 = some (PySem.W.tabObj #[])) ∧ (∀ p ∈ cs, (K w.params).lookup p.2 = none) ∧ (∀ p ∈ cs, PySem.W.CodeHd st.heap p.1 p.2) ∧
        ∀ (base : Heap) (H : Hp), (K w.params).In base → base.Ns mainGlobals mg → (∀ p ∈ cs, TabB base mg p.1 p.2) → (∀ p ∈ cs, H p.2 = some (.tbl #[])) → SqL (K w.params) H a (ns.map V.int) → Env0 l.prog w (K w.params) mg base callerA [] st H →
          codeAny (model l.prog w) callerA (.call (.ref fa) ⟨[.ref a], []⟩) (CR CX0 [] l.prog w H st (fun v _ => v = .bl true) fun _ _ _ => False) st) :
    PySem.W.WalkO q loose XP YP l.row.toRowW d [] (fun f vs => PySem.call f vs) := by
  refine Att.attach_call hn hdf fun w s₀ s₁ mg mb fa o pm cd doc a vs ns G Y ho hd hcd hmg hobj hints hlen hg => ?_
  obtain ⟨kin, ht⟩ := hY w _ Y
  obtain ⟨cs, c1, c2, c3, c4⟩ := F w mg fa a s₁ ns kin G.T.g hmg hlen ht
  exact law_atGT kin G.T.g G.T.b G.T.builtins G.T.nolimit hg c1 c2 c3 G.T.bmain hobj hints (Nat.le_trans hlen hn2) c4
end PT

set_option maxHeartbeats 4000000
/-! the text of the law, by places -/
namespace PT
open PySem PySem.Spec PyProof.Rows L2
def topS (i : Nat) : Stmt := PySem.Challenge.pw_pulltree_k30_days_of_sales.main.body.getD i (.Pass ⟨0, 0, 0, 0⟩)
abbrev sIsInteger : Stmt := topS 9
theorem scIsInteger : FnScope ["value"] ["value"] (defScope sIsInteger) := ⟨rfl, rfl, rfl, by decide +kernel, rfl, by decide +kernel, by decide +kernel⟩
abbrev sIsWithin : Stmt := topS 10
theorem scIsWithin : FnScope ["value", "least", "most"] ["value", "least", "most"] (defScope sIsWithin) := ⟨rfl, rfl, rfl, by decide +kernel, rfl, by decide +kernel, by decide +kernel⟩
abbrev sFitsPlant : Stmt := topS 11
theorem scFitsPlant : FnScope ["value", "greatest", "above"] ["value"] (defScope sFitsPlant) := ⟨rfl, rfl, rfl, by decide +kernel, rfl, by decide +kernel, by decide +kernel⟩
abbrev sFitsStock : Stmt := topS 12
theorem scFitsStock : FnScope ["plant", "value", "box"] ["plant", "value"] (defScope sFitsStock) := ⟨rfl, rfl, rfl, by decide +kernel, rfl, by decide +kernel, by decide +kernel⟩
abbrev sCheckPlant : Stmt := topS 13
theorem scCheckPlant : FnScope ["plant"] ["plant"] (defScope sCheckPlant) := ⟨rfl, rfl, rfl, by decide +kernel, rfl, by decide +kernel, by decide +kernel⟩
abbrev sCheckStock : Stmt := topS 14
theorem scCheckStock : FnScope ["plant", "stock"] ["plant", "stock"] (defScope sCheckStock) := ⟨rfl, rfl, rfl, by decide +kernel, rfl, by decide +kernel, by decide +kernel⟩
abbrev sCheckDays : Stmt := topS 15
theorem scCheckDays : FnScope ["days", "least", "most"] ["days", "least", "most"] (defScope sCheckDays) := ⟨rfl, rfl, rfl, by decide +kernel, rfl, by decide +kernel, by decide +kernel⟩
abbrev sSupplierLists : Stmt := topS 17
theorem scSupplierLists : FnScope ["plant", "lists", "at", "above", "station"] ["plant"] (defScope sSupplierLists) := ⟨rfl, rfl, rfl, by decide +kernel, rfl, by decide +kernel, by decide +kernel⟩
abbrev sOldestGiver : Stmt := topS 19
theorem scOldestGiver : FnScope ["stations", "boxes"] ["stations", "boxes"] (defScope sOldestGiver) := ⟨rfl, rfl, rfl, by decide +kernel, rfl, by decide +kernel, by decide +kernel⟩
abbrev sSoldOn : Stmt := topS 21
theorem scSoldOn : FnScope ["plant", "stock", "day"] ["plant", "stock", "day"] (defScope sSoldOn) := ⟨rfl, rfl, rfl, by decide +kernel, rfl, by decide +kernel, by decide +kernel⟩
abbrev sDaySold : Stmt := topS 22
theorem scDaySold : FnScope ["plant", "stock", "box"] ["plant", "stock", "box"] (defScope sDaySold) := ⟨rfl, rfl, rfl, by decide +kernel, rfl, by decide +kernel, by decide +kernel⟩
abbrev sCheckBox : Stmt := topS 23
theorem scCheckBox : FnScope ["stock", "box"] ["stock", "box"] (defScope sCheckBox) := ⟨rfl, rfl, rfl, by decide +kernel, rfl, by decide +kernel, by decide +kernel⟩
abbrev sSalesOfFirst : Stmt := topS 24
theorem scSalesOfFirst : FnScope ["plant", "stock", "givers", "sales", "waiting", "station", "other"] ["plant", "stock"] (defScope sSalesOfFirst) := ⟨rfl, rfl, rfl, by decide +kernel, rfl, by decide +kernel, by decide +kernel⟩
abbrev sLawPot : Stmt := topS 26
theorem scLawPot : FnScope ["script", "k", "cell"] ["script", "k"] (defScope sLawPot) := ⟨rfl, rfl, rfl, by decide +kernel, rfl, by decide +kernel, by decide +kernel⟩
abbrev sLawDraw : Stmt := topS 27
theorem scLawDraw : FnScope ["pot", "bound", "found", "mixed"] ["pot", "bound"] (defScope sLawDraw) := ⟨rfl, rfl, rfl, by decide +kernel, rfl, by decide +kernel, by decide +kernel⟩
abbrev sLawMixed : Stmt := topS 28
theorem scLawMixed : FnScope ["pot", "things", "left", "k"] ["pot", "things"] (defScope sLawMixed) := ⟨rfl, rfl, rfl, by decide +kernel, rfl, by decide +kernel, by decide +kernel⟩
abbrev sLawPlant : Stmt := topS 29
theorem scLawPlant : FnScope ["pot", "most", "many", "way", "found", "k", "low"] ["pot", "most"] (defScope sLawPlant) := ⟨rfl, rfl, rfl, by decide +kernel, rfl, by decide +kernel, by decide +kernel⟩
abbrev sLawStock : Stmt := topS 30
theorem scLawStock : FnScope ["pot", "plant", "wide", "found", "here", "k"] ["pot", "plant"] (defScope sLawStock) := ⟨rfl, rfl, rfl, by decide +kernel, rfl, by decide +kernel, by decide +kernel⟩
abbrev sLawGivers : Stmt := topS 31
theorem scLawGivers : FnScope ["plant", "here", "k"] ["plant"] (defScope sLawGivers) := ⟨rfl, rfl, rfl, by decide +kernel, rfl, by decide +kernel, by decide +kernel⟩
abbrev sLawDay : Stmt := topS 32
theorem scLawDay : FnScope ["givers", "stock", "here", "chain", "later", "oldest", "other"] ["givers", "stock"] (defScope sLawDay) := ⟨rfl, rfl, rfl, by decide +kernel, rfl, by decide +kernel, by decide +kernel⟩
abbrev sLawRight : Stmt := topS 33
theorem scLawRight : FnScope ["pot", "plant", "stock", "givers", "here", "days", "kept", "day", "made", "last", "item"] ["pot"] (defScope sLawRight) := ⟨rfl, rfl, rfl, by decide +kernel, rfl, by decide +kernel, by decide +kernel⟩
abbrev sLaw : Stmt := topS 34
theorem scLaw : FnScope ["script", "k", "pot", "day"] ["script"] (defScope sLaw) := ⟨rfl, rfl, rfl, by decide +kernel, rfl, by decide +kernel, by decide +kernel⟩
/-- where the defs stand behind the top, and which names are still the built-in ones -/
structure Tx (K : PySem.W.Frag) (mg : Str → Option Value) where
  f_is_integer : Addr
  d_is_integer : FuncData
  f_is_within : Addr
  d_is_within : FuncData
  f_fits_plant : Addr
  d_fits_plant : FuncData
  f_fits_stock : Addr
  d_fits_stock : FuncData
  f_check_plant : Addr
  d_check_plant : FuncData
  f_check_stock : Addr
  d_check_stock : FuncData
  f_check_days : Addr
  d_check_days : FuncData
  f_supplier_lists : Addr
  d_supplier_lists : FuncData
  f_oldest_giver : Addr
  d_oldest_giver : FuncData
  c_oldest_giver : Addr
  P_oldest_giver : Addr
  f_sold_on : Addr
  d_sold_on : FuncData
  f_day_sold : Addr
  d_day_sold : FuncData
  f_check_box : Addr
  d_check_box : FuncData
  f_sales_of_first : Addr
  d_sales_of_first : FuncData
  f__law_pot : Addr
  d__law_pot : FuncData
  f__law_draw : Addr
  d__law_draw : FuncData
  f__law_mixed : Addr
  d__law_mixed : FuncData
  f__law_plant : Addr
  d__law_plant : FuncData
  f__law_stock : Addr
  d__law_stock : FuncData
  f__law_givers : Addr
  d__law_givers : FuncData
  f__law_day : Addr
  d__law_day : FuncData
  f__law_right : Addr
  d__law_right : FuncData
  t_MOST_STATIONS : Tok
  t_FARTHEST_DAY : Tok
  F_is_integer : Fun K "is_integer" "is_integer" sIsInteger f_is_integer d_is_integer
  b_is_integer : Binds K d_is_integer ["value"] []
  g_is_integer : mg "is_integer" = some (.ref f_is_integer)
  F_is_within : Fun K "is_within" "is_within" sIsWithin f_is_within d_is_within
  b_is_within : Binds K d_is_within ["value", "least", "most"] []
  g_is_within : mg "is_within" = some (.ref f_is_within)
  F_fits_plant : Fun K "fits_plant" "fits_plant" sFitsPlant f_fits_plant d_fits_plant
  b_fits_plant : Binds K d_fits_plant ["value"] []
  g_fits_plant : mg "fits_plant" = some (.ref f_fits_plant)
  F_fits_stock : Fun K "fits_stock" "fits_stock" sFitsStock f_fits_stock d_fits_stock
  b_fits_stock : Binds K d_fits_stock ["plant", "value"] []
  g_fits_stock : mg "fits_stock" = some (.ref f_fits_stock)
  F_check_plant : Fun K "check_plant" "check_plant" sCheckPlant f_check_plant d_check_plant
  b_check_plant : Binds K d_check_plant ["plant"] []
  g_check_plant : mg "check_plant" = some (.ref f_check_plant)
  F_check_stock : Fun K "check_stock" "check_stock" sCheckStock f_check_stock d_check_stock
  b_check_stock : Binds K d_check_stock ["plant", "stock"] []
  g_check_stock : mg "check_stock" = some (.ref f_check_stock)
  F_check_days : Fun K "check_days" "check_days" sCheckDays f_check_days d_check_days
  b_check_days : Binds K d_check_days ["days", "least", "most"] []
  g_check_days : mg "check_days" = some (.ref f_check_days)
  F_supplier_lists : Fun K "supplier_lists" "supplier_lists" sSupplierLists f_supplier_lists d_supplier_lists
  b_supplier_lists : Binds K d_supplier_lists ["plant"] []
  g_supplier_lists : mg "supplier_lists" = some (.ref f_supplier_lists)
  F_oldest_giver : Fun K "oldest_giver" "oldest_giver" sOldestGiver f_oldest_giver d_oldest_giver
  C_oldest_giver : FunC K "oldest_giver" "oldest_giver" sOldestGiver f_oldest_giver d_oldest_giver c_oldest_giver
  b_oldest_giver : Binds K d_oldest_giver ["stations", "boxes"] []
  g_oldest_giver : mg "oldest_giver" = some (.ref f_oldest_giver)
  F_sold_on : Fun K "sold_on" "sold_on" sSoldOn f_sold_on d_sold_on
  b_sold_on : Binds K d_sold_on ["plant", "stock", "day"] []
  g_sold_on : mg "sold_on" = some (.ref f_sold_on)
  F_day_sold : Fun K "day_sold" "day_sold" sDaySold f_day_sold d_day_sold
  b_day_sold : Binds K d_day_sold ["plant", "stock", "box"] []
  g_day_sold : mg "day_sold" = some (.ref f_day_sold)
  F_check_box : Fun K "check_box" "check_box" sCheckBox f_check_box d_check_box
  b_check_box : Binds K d_check_box ["stock", "box"] []
  g_check_box : mg "check_box" = some (.ref f_check_box)
  F_sales_of_first : Fun K "sales_of_first" "sales_of_first" sSalesOfFirst f_sales_of_first d_sales_of_first
  b_sales_of_first : Binds K d_sales_of_first ["plant", "stock"] []
  g_sales_of_first : mg "sales_of_first" = some (.ref f_sales_of_first)
  F__law_pot : Fun K "_law_pot" "_law_pot" sLawPot f__law_pot d__law_pot
  b__law_pot : Binds K d__law_pot ["script", "k"] []
  g__law_pot : mg "_law_pot" = some (.ref f__law_pot)
  F__law_draw : Fun K "_law_draw" "_law_draw" sLawDraw f__law_draw d__law_draw
  b__law_draw : Binds K d__law_draw ["pot", "bound"] []
  g__law_draw : mg "_law_draw" = some (.ref f__law_draw)
  F__law_mixed : Fun K "_law_mixed" "_law_mixed" sLawMixed f__law_mixed d__law_mixed
  b__law_mixed : Binds K d__law_mixed ["pot", "things"] []
  g__law_mixed : mg "_law_mixed" = some (.ref f__law_mixed)
  F__law_plant : Fun K "_law_plant" "_law_plant" sLawPlant f__law_plant d__law_plant
  b__law_plant : Binds K d__law_plant ["pot", "most"] []
  g__law_plant : mg "_law_plant" = some (.ref f__law_plant)
  F__law_stock : Fun K "_law_stock" "_law_stock" sLawStock f__law_stock d__law_stock
  b__law_stock : Binds K d__law_stock ["pot", "plant"] []
  g__law_stock : mg "_law_stock" = some (.ref f__law_stock)
  F__law_givers : Fun K "_law_givers" "_law_givers" sLawGivers f__law_givers d__law_givers
  b__law_givers : Binds K d__law_givers ["plant"] []
  g__law_givers : mg "_law_givers" = some (.ref f__law_givers)
  F__law_day : Fun K "_law_day" "_law_day" sLawDay f__law_day d__law_day
  b__law_day : Binds K d__law_day ["givers", "stock"] []
  g__law_day : mg "_law_day" = some (.ref f__law_day)
  F__law_right : Fun K "_law_right" "_law_right" sLawRight f__law_right d__law_right
  b__law_right : Binds K d__law_right ["pot"] []
  g__law_right : mg "_law_right" = some (.ref f__law_right)
  g_MOST_STATIONS : mg "MOST_STATIONS" = some (.int 40 t_MOST_STATIONS)
  g_FARTHEST_DAY : mg "FARTHEST_DAY" = some (.int 1000000000000000000000000000000 t_FARTHEST_DAY)
  n_all : mg "all" = none
  n_bool : mg "bool" = none
  n_enumerate : mg "enumerate" = none
  n_int : mg "int" = none
  n_isinstance : mg "isinstance" = none
  n_len : mg "len" = none
  n_list : mg "list" = none
  n_max : mg "max" = none
  n_min : mg "min" = none
  n_range : mg "range" = none
  n_repr : mg "repr" = none
  n_set : mg "set" = none
  n_tuple : mg "tuple" = none
/-- the tables that grow -/
abbrev Tx.tabW {K : PySem.W.Frag} {mg : Str → Option Value} (T : Tx K mg) : List (Addr × Str) := [(T.P_oldest_giver, ("oldest_giver" : Str) ++ ".<locals>." ++ "<lambda>")]
theorem Tx.memW_oldest_giver {K : PySem.W.Frag} {mg : Str → Option Value} (T : Tx K mg) : (T.P_oldest_giver, ("oldest_giver" : Str) ++ ".<locals>." ++ "<lambda>") ∈ T.tabW := by simp [Tx.tabW]
theorem Tx.uniW_oldest_giver {K : PySem.W.Frag} {mg : Str → Option Value} (T : Tx K mg) : ∀ z ∈ T.tabW, z.1 = T.P_oldest_giver → z.2 = ("oldest_giver" : Str) ++ ".<locals>." ++ "<lambda>" := by
  intro z hz e
  simp only [Tx.tabW, List.mem_cons, List.not_mem_nil, or_false] at hz
  rcases hz with rfl
  · rfl
end PT


set_option maxHeartbeats 4000000
set_option exponentiation.threshold 5000
/-! draws out of a pot: three ints, the third one counts -/
namespace PT
open PySem PySem.Spec PyProof.Rows L2

/-- ** of great ints, to small powers -/
def CPowW (i j : Int) : Prop := 0 ≤ j ∧ j ≤ 10 ∧ i.natAbs < 2 ^ 4000
theorem op_powW {X : Cx} : OpR X (binaryOp .Pow) (rI CPowW fun i j => .int (i ^ j.toNat)) := opI fun i j _ _ _ _ _ hc q => pow_int hc.1 (by
  have h1 : Builtin.Int.intBits i ≤ i.natAbs.log2 + 1 := by
    unfold Builtin.Int.intBits
    split <;> omega
  have h2 := PySem.Flt.log2_lt_of (by decide) hc.2.2
  have h3 := hc.1
  have h4 := hc.2.1
  have h5 : (Builtin.Int.intBits i : Int) ≤ 4000 := by omega
  have h6 : (Builtin.Int.intBits i : Int) * j ≤ 4000 * 10 := Int.mul_le_mul h5 h4 h3 (by decide)
  have h7 : (4000 * 10 : Int) ≤ 2 ^ 27 := by decide
  omega) q
theorem pow_small {i : Int} (h0 : 0 ≤ i) (h1 : i < 10 ^ 60) {j : Int} (j0 : 0 ≤ j) (j1 : j ≤ 10) : CPowW i j := ⟨j0, j1, Nat.lt_trans (show i.natAbs < 10 ^ 60 by omega) (by decide)⟩
/-- a pot: a list of three ints; at most n draws so far -/
def PotAt (H : Hp) (b : Addr) (n : Nat) : Prop := ∃ x y z : Int, H b = some (.lst [.int x, .int y, .int z]) ∧ 0 ≤ y ∧ y < 10 ^ 45 ∧ 0 ≤ z ∧ z ≤ n
theorem PotAt.same {H H' : Hp} {b : Addr} {n : Nat} (e : Same H H') (h : PotAt H b n) : PotAt H' b n := let ⟨x, y, z, q, r⟩ := h; ⟨x, y, z, e _ _ q, r⟩
theorem PotAt.mono {H : Hp} {b : Addr} {n m : Nat} (h : PotAt H b n) (l : n ≤ m) : PotAt H b m := let ⟨x, y, z, q, a, b, c, d⟩ := h; ⟨x, y, z, q, a, b, c, by omega⟩
theorem PotAt.isL {H : Hp} {b : Addr} {n : Nat} (h : PotAt H b n) : ∃ xs, H b = some (.lst xs) := let ⟨x, y, z, q, _⟩ := h; ⟨_, q⟩
theorem PotAt.some {H : Hp} {b c : Addr} {n : Nat} (h : PotAt H b n) (e : H c = none) : c ≠ b := fun z => by
  obtain ⟨x, y, w, q, _⟩ := h
  rw [z, q] at e
  cases e
theorem Bar.freeP {b : Addr} {H H' : Hp} {n : Nat} (e : Bar b H H') (hb2 : PotAt H' b n) {l : Addr} (n : H' l = none) : H l = none := by
  cases q : H l with
  | none => rfl
  | some o =>
    by_cases c : l = b
    · exact absurd c (hb2.some n)
    · rw [e l o c q] at n
      cases n
theorem PlantAt.barP {H H' : Hp} {b p : Addr} {pl : List Int} {n : Nat} (e : Bar b H H') (hb : PotAt H b n) (h : PlantAt H p pl) : PlantAt H' p pl := by
  obtain ⟨x, y, z, q, _⟩ := hb
  exact ⟨e _ _ (ne_of h.at_ q (by intro w; cases w)) h.at_, h.ok⟩
theorem big_lt {m : Int} (h0 : 0 < m) (h1 : m < 10 ^ 40) : m.natAbs < 2 ^ 140 := by
  have z : m.natAbs < 10 ^ 40 := by omega
  exact Nat.lt_trans z (by decide)
theorem pot41 : (0 : Int) < 10 ^ (Int.toNat 41) + 37 := by decide
theorem pot40 : (0 : Int) < 10 ^ (Int.toNat 40) + 121 := by decide
section
variable {P : Program} {w : World} {K : PySem.W.Frag} {mg : Str → Option Value} {base : Heap}
def spDraw : Sp := fun vs H Q _ => ∃ (b : Addr) (m : Int) (n : Nat), vs = [.ref b, .int m] ∧ 0 < m ∧ m < 10 ^ 40 ∧ PotAt H b n ∧ n ≤ 1000000000000 ∧ ∀ (r : Int) (H' : Hp), 0 ≤ r → r < m → PotAt H' b (n + 1) → Bar b H H' → (∀ c, c ≠ b → H' c = H c) → Q (.int r) H'
theorem ok_draw (T : Tx K mg) : FnOk P w K mg base CX0 1 T.f__law_draw T.d__law_draw ["pot", "bound"] spDraw := by
  refine T.F__law_draw.ok scLawDraw (fun vs H Q E h => ?_) (fun cdv A outer s H vs Q E hr h => ?_)
  · obtain ⟨b, m, n, rfl, _⟩ := h
    rfl
  · obtain ⟨b, m, n, rfl, h0, h1, ⟨x, y, z, hb, y0, y1, z0, z1⟩, hn, q⟩ := h
    have nd := scLawDraw.nd
    refine ⟨_, pss_cons (ps_if (pt_cmpR op_gt (pe_ix ix_list (pv 0) pe_int (fun _ _ => rfl)) pe_int (nomark _))
        (pss_cons (ps_set (i := 2) nd rfl (.inl rfl) (pe_op op_mod (pe_ix ix_list (pv 0) pe_int (fun _ _ => rfl)) (pv 1)))
        (pss_cons (ps_asg (pe_op op_fdivW (pe_ix ix_list (pv 0) pe_int (fun _ _ => rfl)) (pv 1)) (pg_sub (pv 0) pe_int set_list))
        (pss_one (ps_ret (pv 2))))) pss_nil)
      (pss_cons (ps_asg (pe_op op_add (pe_ix ix_list (pv 0) pe_int (fun _ _ => rfl)) pe_int) (pg_sub (pv 0) pe_int set_list))
      (pss_cons (ps_set (i := 3) nd rfl (.inl rfl) (pe_op op_mod (pe_op op_powW (pe_op op_add (pe_ix ix_list (pv 0) pe_int (fun _ _ => rfl)) (pe_op op_mul pe_int (pe_ix ix_list (pv 0) pe_int (fun _ _ => rfl)))) pe_int) (pe_op op_add (pe_op op_pow pe_int pe_int) pe_int)))
      (pss_cons (ps_set (i := 3) nd rfl (.inl rfl) (pe_op op_mod (pe_op op_powW (pe_op op_add (pv 3) (pe_op op_mul pe_int (pe_ix ix_list (pv 0) pe_int (fun _ _ => rfl)))) pe_int) (pe_op op_add (pe_op op_pow pe_int pe_int) pe_int)))
      (pss_one (ps_ret (pe_op op_mod (pe_op op_fdiv (pv 3) pe_int) (pv 1))))))), ?_⟩
    have hs : SqL K H b [.int x, .int y, .int z] := .inl (.inl hb)
    refine ⟨.ref b, rfl, b, _, 0, .int x, rfl, rfl, hs, rfl, x, 0, rfl, rfl, _, rfl, ite2 (fun e => ?_) fun e => ?_⟩
    · refine ⟨.ref b, rfl, b, _, 0, .int x, rfl, rfl, hs, rfl, .int m, rfl, x, m, rfl, rfl, h0, ?_⟩
      refine ⟨.ref b, rfl, b, _, 0, .int x, rfl, rfl, hs, rfl, .int m, rfl, x, m, rfl, rfl, wide_div h0 (b := 140) (big_lt h0 h1) (by decide) (by decide), .ref b, rfl, b, _, 0, 0, rfl, rfl, hb, rfl, ?_⟩
      refine ⟨_, rfl, ?_⟩
      exact q _ _ (Int.emod_nonneg _ (by omega)) (Int.emod_lt_of_pos _ h0) ⟨x / m, y, z, upd_same, y0, y1, z0, by omega⟩ bar_upd fun c hc => upd_ne hc
    · refine ⟨.ref b, rfl, b, _, 2, .int z, rfl, rfl, hs, rfl, z, 1, rfl, rfl, .ref b, rfl, b, _, 2, 2, rfl, rfl, hb, rfl, ?_⟩
      have hs1 : SqL K (upd H b (.lst ([V.int x, .int y, .int z].set 2 (.int (z + 1))))) b [.int x, .int y, .int (z + 1)] := .inl (.inl upd_same)
      refine ⟨.ref b, rfl, b, _, 1, .int y, rfl, rfl, hs1, rfl, .ref b, rfl, b, _, 2, .int (z + 1), rfl, rfl, hs1, rfl, 122949829, z + 1, rfl, rfl, .inl ⟨by decide, by decide⟩, _, _, rfl, rfl, _, 3, rfl, rfl, pow_small (by omega) (by omega) (by decide) (by decide), ?_⟩
      refine ⟨10, 41, rfl, rfl, ⟨by decide, by decide, by decide⟩, _, 37, rfl, rfl, _, _, rfl, rfl, pot41, ?_⟩
      have t0 : 0 ≤ (y + 122949829 * (z + 1)) ^ (Int.toNat 3) % (10 ^ (Int.toNat 41) + 37) := Int.emod_nonneg _ (Int.ne_of_gt pot41)
      have t1 : (y + 122949829 * (z + 1)) ^ (Int.toNat 3) % (10 ^ (Int.toNat 41) + 37) < 10 ^ (Int.toNat 41) + 37 := Int.emod_lt_of_pos _ pot41
      have t2 : (y + 122949829 * (z + 1)) ^ (Int.toNat 3) % (10 ^ (Int.toNat 41) + 37) < 10 ^ 42 := Int.lt_of_lt_of_le t1 (by decide)
      refine ⟨_, rfl, .ref b, rfl, b, _, 2, .int (z + 1), rfl, rfl, hs1, rfl, 32452867, z + 1, rfl, rfl, .inl ⟨by decide, by decide⟩, _, _, rfl, rfl, _, 3, rfl, rfl, pow_small (by omega) (by omega) (by decide) (by decide), ?_⟩
      refine ⟨10, 40, rfl, rfl, ⟨by decide, by decide, by decide⟩, _, 121, rfl, rfl, _, _, rfl, rfl, pot40, ?_⟩
      refine ⟨_, rfl, _, 786431, rfl, rfl, ⟨by decide, by decide⟩, .int m, rfl, _, m, rfl, rfl, h0, ?_⟩
      exact q _ _ (Int.emod_nonneg _ (by omega)) (Int.emod_lt_of_pos _ h0) ⟨x, y, z + 1, upd_same, y0, y1, by omega, by omega⟩ bar_upd fun c hc => upd_ne hc
end
end PT


set_option maxHeartbeats 4000000
/-! pots, rows in another order, plants and stocks out of a pot -/
namespace PT
open PySem PySem.Spec PyProof.Rows L2
section
variable {P : Program} {w : World} {K : PySem.W.Frag} {mg : Str → Option Value} {base : Heap}
theorem pot38 : (0 : Int) < 10 ^ (Int.toNat 38) + 133 := by decide
def spPot (K : PySem.W.Frag) : Sp := fun vs H Q _ => ∃ (a : Addr) (ns : List Int) (k : Nat), vs = [.ref a, .int (k : Int)] ∧ SqL K H a (ns.map V.int) ∧ k ≤ 1000 ∧ ∀ (b : Addr) (o : HO), H b = none → PotAt (upd H b o) b 0 → Q (.ref b) (upd H b o)
theorem ok_pot (T : Tx K mg) : FnOk P w K mg base CX0 1 T.f__law_pot T.d__law_pot ["script", "k"] (spPot K) := by
  refine T.F__law_pot.ok scLawPot (fun vs H Q E h => ?_) (fun cdv A outer s H vs Q E hr h => ?_)
  · obtain ⟨a, ns, k, rfl, _⟩ := h
    rfl
  · obtain ⟨a, ns, k, rfl, hS, hk, q⟩ := h
    have nd := scLawPot.nd
    refine ⟨_, pss_cons (ps_set (i := 2) nd rfl (.inl rfl) pe_int)
      (pss_cons (ps_if (pt_cmpR op_lt (pv 1) (pe_callB call_len_seq (by rfl) T.n_len PySem.boot_len (pa_cons (pv 0) pa_nil)) (nomark _)) (pss_one (ps_set (i := 2) nd rfl (.inl rfl) (pe_ix ix_list (pv 0) (pv 1) (fun _ _ => rfl)))) pss_nil)
      (pss_one (ps_ret (pe_lst (pa_cons (pe_callB (call_max2 rfl) (by rfl) T.n_max (by decide +kernel) (pa_cons pe_int (pa_cons (pe_op op_sub (pv 2) (pe_op op_pow pe_int pe_int)) pa_nil)))
        (pa_cons (pe_op op_add (pe_op op_add (pe_op op_mod (pv 2) (pe_op op_add (pe_op op_pow pe_int pe_int) pe_int)) (pe_op op_mul pe_int (pv 1))) pe_int) (pa_cons pe_int pa_nil))))))), ?_⟩
    refine ⟨.int (k : Int), rfl, .ref a, rfl, a, _, rfl, .inl hS, (k : Int), _, rfl, rfl, _, rfl, ite2 (fun e => ?_) fun e => ?_⟩
    · have hk2 : k < ns.length := by
        have z := of_decide_eq_true e
        rw [List.length_map] at z
        omega
      refine ⟨.ref a, rfl, .int (k : Int), rfl, a, _, (k : Int), .int ns[k], rfl, rfl, hS, atI_nat (by rw [List.getElem?_map, List.getElem?_eq_getElem hk2]; rfl), ?_⟩
      generalize ns[k] = c
      refine ⟨.int c, rfl, 10, 18, rfl, rfl, ⟨by decide, by decide, by decide⟩, _, _, rfl, rfl, _, _, rfl, .int c, rfl, 10, 38, rfl, rfl, ⟨by decide, by decide, by decide⟩, _, 133, rfl, rfl, _, _, rfl, rfl, pot38, .int (k : Int), rfl, 50021, (k : Int), rfl, rfl, .inl ⟨by decide, by decide⟩, _, _, rfl, rfl, _, 17, rfl, rfl, (by show 3 ≤ sizeLine; decide), fun b nb => ?_⟩
      have t0 : 0 ≤ c % (10 ^ (Int.toNat 38) + 133) := Int.emod_nonneg _ (Int.ne_of_gt pot38)
      have t1 : c % (10 ^ (Int.toNat 38) + 133) < 10 ^ (Int.toNat 38) + 133 := Int.emod_lt_of_pos _ pot38
      have t2 : (10 : Int) ^ (Int.toNat 38) + 133 ≤ 10 ^ 39 := by decide
      exact q b _ nb ⟨_, _, _, upd_same, by omega, by omega, by decide, by decide⟩
    · refine ⟨.int 0, rfl, 10, 18, rfl, rfl, ⟨by decide, by decide, by decide⟩, _, _, rfl, rfl, _, _, rfl, .int 0, rfl, 10, 38, rfl, rfl, ⟨by decide, by decide, by decide⟩, _, 133, rfl, rfl, _, _, rfl, rfl, pot38, .int (k : Int), rfl, 50021, (k : Int), rfl, rfl, .inl ⟨by decide, by decide⟩, _, _, rfl, rfl, _, 17, rfl, rfl, (by show 3 ≤ sizeLine; decide), fun b nb => ?_⟩
      have t0 : 0 ≤ (0 : Int) % (10 ^ (Int.toNat 38) + 133) := Int.emod_nonneg _ (Int.ne_of_gt pot38)
      have t1 : (0 : Int) % (10 ^ (Int.toNat 38) + 133) < 10 ^ (Int.toNat 38) + 133 := Int.emod_lt_of_pos _ pot38
      have t2 : (10 : Int) ^ (Int.toNat 38) + 133 ≤ 10 ^ 39 := by decide
      exact q b _ nb ⟨_, _, _, upd_same, by omega, by omega, by decide, by decide⟩
/-! ### a row in another order -/
def spMixed : Sp := fun vs H Q _ => ∃ (b q : Addr) (xs : List V) (n : Nat), vs = [.ref b, .ref q] ∧ PotAt H b n ∧ n ≤ 100000000000 ∧ (H q = some (.lst xs) ∨ H q = some (.tup xs)) ∧ xs.length ≤ 300 ∧ ∀ (H' : Hp) (l : Addr) (ys : List V), PotAt H' b (n + xs.length) → Bar b H H' → H l = none → H' l = some (.lst ys) → ys.Perm xs → Q (.ref l) H'
theorem ok_mixed (T : Tx K mg) : FnOk P w K mg base CX0 2 T.f__law_mixed T.d__law_mixed ["pot", "things"] spMixed := by
  refine T.F__law_mixed.ok scLawMixed (fun vs H Q E h => ?_) (fun cdv A outer s H vs Q E hr h => ?_)
  · obtain ⟨b, q, xs, n, rfl, _⟩ := h
    rfl
  · obtain ⟨b, q, xs, n, rfl, hb, hn, hq, hl, qq⟩ := h
    have nd := scLawMixed.nd
    refine ⟨_, pss_cons (ps_set (i := 2) nd rfl (.inr rfl) (pe_callTy call_list_of (by rfl) T.n_list (by decide +kernel) (pa_cons (pv 1) pa_nil)))
      (pss_one (ps_ret (pe_lc (own := [("k", 3)]) (g := gName 3) (tt := tYes) (te := tBM K "list" rPopAt (tVar 2) (tCons (tCall spDraw [] E0 (tCons (tVar 0) (tCons (tCB (fun xs H Q => ∃ p ys, xs = [.ref p] ∧ (SqL K H p ys ∨ SqT K H p ys) ∧ Q (.int (ys.length : Int)) H) (tCons (tVar 2) tNil)) tNil))) tNil)) rfl nd (pi_range1 rfl T.n_range (pa_cons (pe_callB call_len_seq (by rfl) T.n_len PySem.boot_len (pa_cons (pv 1) pa_nil)) pa_nil))
        (blkOk_by (N := ["pot", "things", "left", "k"]) (sc := defScope sLawMixed) (by decide +kernel)) (fun _ _ _ _ _ => pg_name (i := 3) nd rfl (Or.inl rfl)) (fun _ _ _ _ _ => pts_nil)
        (fun _ _ _ _ _ => pe_bm PySem.F.plainAttrs_list PySem.F.slot_list_pop PySem.F.type_list_pop mt_popAt (pv 2) (pa_cons (pe_call (ok_draw T) hr (by rfl) T.g__law_draw T.F__law_draw.kp T.b__law_draw .nil pass0
          (pa_cons (pv 0) (pa_cons (pe_callB call_len_seq (by rfl) T.n_len PySem.boot_len (pa_cons (pv 2) pa_nil)) pa_nil))) pa_nil))))), ?_⟩
    have hq0 : SqL K H q xs ∨ SqT K H q xs := hq.imp (fun z => .inl (.inl z)) fun z => .inl (.inl z)
    refine ⟨.ref q, rfl, q, _, rfl, hq0, fun lf nlf => ?_⟩
    have s1 : Same H (upd H lf (.lst xs)) := same_new nlf
    have hq1 : SqL K (upd H lf (.lst xs)) q xs ∨ SqT K (upd H lf (.lst xs)) q xs := hq.imp (fun z => .inl (.inl (s1 _ _ z))) fun z => .inl (.inl (s1 _ _ z))
    have hb1 := hb.same s1
    have hlfb : lf ≠ b := hb.some nlf
    refine ⟨.ref q, rfl, q, xs, rfl, hq1, (xs.length : Int), rfl, by omega, by omega, ?_⟩
    rw [Int.toNat_natCast]
    intro D nD
    have hDb : D ≠ b := hb1.some nD
    have nHD : H D = none := s1.free nD
    have hDl : D ≠ lf := fun e => by
      rw [e, upd_same] at nD
      cases nD
    refine lc_range (lo := 0) (n := xs.length) (fun i H' => ∃ rest out : List V, PotAt H' b (n + i) ∧ Bar b H H' ∧ H' lf = some (.lst rest) ∧ H' D = some (.lst out) ∧ (out ++ rest).Perm xs ∧ rest.length + i = xs.length)
      ⟨xs, [], hb1.same (same_new nD), (Same.bar (s1.trans (same_new nD))), upd_at upd_same nD, upd_same, .refl _, rfl⟩ (fun i H1 hi p1 => ?_) (fun H1 p1 => ?_)
    · obtain ⟨rest, out, kb, br, el, eD, pm, ln⟩ := p1
      have hr0 : 0 < rest.length := by omega
      refine ⟨rfl, tyes_if ⟨.ref lf, rfl, .inl ⟨rfl, _, .inl (.inl el)⟩, .ref b, rfl, .ref lf, rfl, lf, _, rfl, .inl (.inl (.inl el)), b, (rest.length : Int), n + i, rfl, by omega, by omega, kb, by omega, fun r H2 h0 h1 k2 b2 o2 => ?_⟩⟩
      have hk : r.toNat < rest.length := by omega
      have ek : rest[r.toNat]? = some rest[r.toNat] := List.getElem?_eq_getElem hk
      have el2 : H2 lf = some (.lst rest) := b2 _ _ hlfb el
      have eD2 : (upd H2 lf (.lst (rest.eraseIdx r.toNat))) D = some (.lst out) := by
        rw [upd_ne hDl]
        exact b2 _ _ hDb eD
      refine ⟨lf, _, r, r.toNat, rest[r.toNat], rfl, rfl, el2, by omega, by omega, seqIndex_of h0 h1, ek, _, eD2, ?_, rest.eraseIdx r.toNat, out ++ [rest[r.toNat]], ?_, ?_, ?_, ?_, ?_, ?_⟩
      · have := pm.length_eq
        rw [List.length_append] at this
        exact small300 (by omega)
      · obtain ⟨x, y, z, k3, k4⟩ := k2
        refine ⟨x, y, z, ?_, k4⟩
        rw [upd_ne (Ne.symm hDb), upd_ne (Ne.symm hlfb)]
        exact k3
      · intro c o nc hc
        rw [upd_ne (ne_of_none hc nHD), upd_ne (ne_of_none hc nlf)]
        exact b2 _ _ nc (br c o nc hc)
      · rw [upd_ne (Ne.symm hDl), upd_same]
      · rw [upd_same]
      · rw [List.append_assoc]
        exact ((perm_pick ek).append_left out).trans pm
      · rw [List.length_eraseIdx, if_pos hk]
        omega
    · obtain ⟨rest, out, kb, br, el, eD, pm, ln⟩ := p1
      have e0 : rest = [] := List.eq_nil_of_length_eq_zero (by omega)
      rw [e0, List.append_nil] at pm
      exact qq H1 D out kb br nHD eD pm
end
end PT


set_option maxHeartbeats 4000000
/-! a plant out of a pot -/
namespace PT
open PySem PySem.Spec PyProof.Rows L2
theorem low_at {k way : Int} (hk : 0 ≤ k) (h0 : 0 ≤ way) (h6 : way < 6) : ∃ lo : Int, atI [V.int 0, .int k, .int 0, .int (if k - 2 > 0 then k - 2 else 0), .int 0, .int (k / 2)] way = some (.int lo) ∧ 0 ≤ lo ∧ lo ≤ k ∧ (way = 0 ∨ way = 2 ∨ way = 4 → lo = 0) := by
  have c : way = 0 ∨ way = 1 ∨ way = 2 ∨ way = 3 ∨ way = 4 ∨ way = 5 := by omega
  rcases c with rfl | rfl | rfl | rfl | rfl | rfl
  · exact ⟨_, rfl, by omega, by omega, fun _ => rfl⟩
  · exact ⟨_, rfl, by omega, by omega, fun z => by omega⟩
  · exact ⟨_, rfl, by omega, by omega, fun _ => rfl⟩
  · refine ⟨_, rfl, ?_, ?_, fun z => by omega⟩ <;> (split <;> omega)
  · exact ⟨_, rfl, by omega, by omega, fun _ => rfl⟩
  · exact ⟨_, rfl, by omega, by omega, fun z => by omega⟩
theorem bound_at {k way lo : Int} (hk : 0 ≤ k) (h0 : 0 ≤ way) (h6 : way < 6) (l0 : 0 ≤ lo) (l1 : lo ≤ k) (l2 : way = 0 ∨ way = 2 ∨ way = 4 → lo = 0) : ∃ bd : Int, atI [V.int (k + 1), .int 1, .int 1, .int (k + 1 - lo), .int (k + 1), .int (k + 1 - lo)] way = some (.int bd) ∧ 1 ≤ bd ∧ lo + bd ≤ k + 1 := by
  have c : way = 0 ∨ way = 1 ∨ way = 2 ∨ way = 3 ∨ way = 4 ∨ way = 5 := by omega
  rcases c with rfl | rfl | rfl | rfl | rfl | rfl
  · exact ⟨_, rfl, by omega, by have := l2 (.inl rfl); omega⟩
  · exact ⟨_, rfl, by omega, by omega⟩
  · exact ⟨_, rfl, by omega, by have := l2 (.inr (.inl rfl)); omega⟩
  · exact ⟨_, rfl, by omega, by omega⟩
  · exact ⟨_, rfl, by omega, by have := l2 (.inr (.inr rfl)); omega⟩
  · exact ⟨_, rfl, by omega, by omega⟩
section
variable {P : Program} {w : World} {K : PySem.W.Frag} {mg : Str → Option Value} {base : Heap}
def spPlant : Sp := fun vs H Q _ => ∃ (b : Addr) (m : Int) (n : Nat), vs = [.ref b, .int m] ∧ 1 ≤ m ∧ m ≤ 40 ∧ PotAt H b n ∧ n ≤ 100000000000 ∧ ∀ (H' : Hp) (p : Addr) (pl : List Int), PotAt H' b (n + 50) → Bar b H H' → H p = none → PlantAt H' p pl → pl.length + 1 ≤ m → Q (.ref p) H'
theorem ok_plant (T : Tx K mg) : FnOk P w K mg base CX0 2 T.f__law_plant T.d__law_plant ["pot", "most"] spPlant := by
  refine T.F__law_plant.ok scLawPlant (fun vs H Q E h => ?_) (fun cdv A outer s H vs Q E hr h => ?_)
  · obtain ⟨b, m, n, rfl, _⟩ := h
    rfl
  · obtain ⟨b, m, n, rfl, hm1, hm2, hb, hn, q⟩ := h
    have nd := scLawPlant.nd
    refine ⟨_, pss_cons (ps_set (i := 2) nd rfl (.inl rfl) (pe_callB (call_min2 rfl) (by rfl) T.n_min (by decide +kernel) (pa_cons (pv 1) (pa_cons (pe_op op_add pe_int (pe_call (ok_draw T) hr (by rfl) T.g__law_draw T.F__law_draw.kp T.b__law_draw .nil pass0 (pa_cons (pv 0) (pa_cons
        (pe_ix ix_list (pe_lst (pa_cons pe_int (pa_cons (pv 1) (pa_cons (pv 1) pa_nil)))) (pe_call (ok_draw T) hr (by rfl) T.g__law_draw T.F__law_draw.kp T.b__law_draw .nil pass0 (pa_cons (pv 0) (pa_cons pe_int pa_nil))) (fun _ _ => rfl)) pa_nil)))) pa_nil))))
      (pss_cons (ps_par (i := 3) (j := 4) rfl nd rfl rfl (by decide) rfl rfl (pa_cons (pe_call (ok_draw T) hr (by rfl) T.g__law_draw T.F__law_draw.kp T.b__law_draw .nil pass0 (pa_cons (pv 0) (pa_cons pe_int pa_nil))) (pa_cons (pe_lst pa_nil) pa_nil)) (by rfl))
      (pss_cons (ps_for PassesOwn.never rfl (pi_range1 rfl T.n_range (pa_cons (pe_op op_sub (pv 2) pe_int) pa_nil)) (pg_name (i := 5) nd rfl (.inl rfl))
        (pss_cons (ps_set (i := 6) nd rfl (.inl rfl) (pe_ix ix_list (pe_lst (pa_cons pe_int (pa_cons (pv 5) (pa_cons pe_int (pa_cons (pe_callB (call_max2 rfl) (by rfl) T.n_max (by decide +kernel) (pa_cons pe_int (pa_cons (pe_op op_sub (pv 5) pe_int) pa_nil))) (pa_cons pe_int (pa_cons (pe_op op_fdiv (pv 5) pe_int) pa_nil))))))) (pv 3) (fun _ _ => rfl)))
        (pss_one (ps_expr (pe_bm PySem.F.plainAttrs_list PySem.F.slot_list_append PySem.F.type_list_append mt_append (pv 4) (pa_cons
          (pe_op op_add (pv 6) (pe_call (ok_draw T) hr (by rfl) T.g__law_draw T.F__law_draw.kp T.b__law_draw .nil pass0 (pa_cons (pv 0) (pa_cons
            (pe_ix ix_list (pe_lst (pa_cons (pe_op op_add (pv 5) pe_int) (pa_cons pe_int (pa_cons pe_int (pa_cons (pe_op op_sub (pe_op op_add (pv 5) pe_int) (pv 6)) (pa_cons (pe_op op_add (pv 5) pe_int) (pa_cons (pe_op op_sub (pe_op op_add (pv 5) pe_int) (pv 6)) pa_nil))))))) (pv 3) (fun _ _ => rfl)) pa_nil)))) pa_nil))))))
      (pss_one (ps_ret (pe_callTy call_tuple_of (by rfl) T.n_tuple (by decide +kernel) (pa_cons (pv 4) pa_nil)))))), ?_⟩
    -- many
    refine ⟨.int m, rfl, .ref b, rfl, .int m, rfl, .int m, rfl, (by show 3 ≤ sizeLine; decide), fun t1 n1 => ⟨.ref b, rfl, b, 3, n, rfl, by decide, by decide, hb.same (same_new n1), by omega, fun r1 H1 a0 a1 k1 B1 O1 => ?_⟩⟩
    have t1b : t1 ≠ b := hb.some n1
    obtain ⟨v, ev, cv⟩ := three_at (u0 := .int 5) (u1 := .int m) (u2 := .int m) a0 a1
    obtain ⟨W, rfl, W1, W2⟩ : ∃ W : Int, v = .int W ∧ 1 ≤ W ∧ W ≤ 40 := by
      rcases cv with rfl | rfl | rfl
      · exact ⟨_, rfl, by decide, by decide⟩
      · exact ⟨_, rfl, hm1, hm2⟩
      · exact ⟨_, rfl, hm1, hm2⟩
    refine ⟨t1, _, r1, .int W, rfl, rfl, .inl (.inl (B1 _ _ t1b upd_same)), ev, b, W, n + 1, rfl, by omega, by omega, k1, by omega, fun r2 H2 c0 c1 k2 B2 O2 => ⟨_, _, rfl, rfl, _, _, rfl, ?_⟩⟩
    have BB : Bar b H H2 := (Same.bar (same_new n1)).trans (B1.trans B2)
    obtain ⟨M, eM, M1, M2⟩ : ∃ M : Int, (if (1 : Int) + r2 < m then (1 : Int) + r2 else m) = M ∧ 1 ≤ M ∧ M ≤ m := ⟨_, rfl, by split <;> omega, by split <;> omega⟩
    rw [eM]
    -- way, found
    refine ⟨.ref b, rfl, b, 6, n + 2, rfl, by decide, by decide, k2, by omega, fun way H3 d0 d1 k3 B3 O3 => ⟨Nat.zero_le _, fun l nl => ⟨_, _, rfl, ?_⟩⟩⟩
    have B4 : Bar b H H3 := BB.trans B3
    have lb : l ≠ b := k3.some nl
    refine ⟨.int M, rfl, M, 1, rfl, rfl, M - 1, rfl, by omega, by omega, ?_⟩
    refine for_range (lo := 0) (n := (M - 1).toNat) (fun i σ H' => ∃ (y5 y6 : Option V) (pl : List Int), σ = [some (.ref b), some (.int m), some (.int M), some (.int way), some (.ref l), y5, y6] ∧ PotAt H' b (n + 3 + i) ∧ Bar b H H' ∧ H' l = some (.lst (pl.map V.int)) ∧ pl.length = i ∧ Plant pl)
      ⟨none, none, [], rfl, k3.same (same_new nl), B4.trans (Same.bar (same_new nl)), upd_same, rfl, ⟨Nat.zero_le _, fun i x e => by simp at e⟩⟩ (fun i σ H' hi p1 => ?_) (fun σ H' p1 => ?_)
    · obtain ⟨y5, y6, pl, rfl, hB, sb, el, ln, hP⟩ := p1
      have hi2 : i ≤ 38 := by omega
      obtain ⟨lo, elo, l0, l1, l2⟩ := low_at (k := 0 + ((i : Nat) : Int)) (by omega) d0 d1
      refine ⟨.int (0 + ((i : Nat) : Int)), rfl, .int (0 + ((i : Nat) : Int)), rfl, _, 2, rfl, rfl, _, _, rfl, .int (0 + ((i : Nat) : Int)), rfl, _, 2, rfl, rfl, ⟨by decide, by decide⟩, (by show 6 ≤ sizeLine; decide), fun t nt => ⟨.int way, rfl, t, _, way, .int lo, rfl, rfl, .inl (.inl upd_same), elo, ?_⟩⟩
      obtain ⟨bd, ebd, b1, b2⟩ := bound_at (k := 0 + ((i : Nat) : Int)) (by omega) d0 d1 l0 l1 l2
      have elt := upd_at (o := .lst [V.int 0, .int (0 + ((i : Nat) : Int)), .int 0, .int (if 0 + ((i : Nat) : Int) - 2 > 0 then 0 + ((i : Nat) : Int) - 2 else 0), .int 0, .int ((0 + ((i : Nat) : Int)) / 2)]) el nt
      have tb : t ≠ b := hB.some nt
      refine ⟨.ref l, rfl, .inl ⟨rfl, _, .inl (.inl elt)⟩, .int lo, rfl, .ref b, rfl, .int (0 + ((i : Nat) : Int)), rfl, _, 1, rfl, rfl, .int (0 + ((i : Nat) : Int)), rfl, _, 1, rfl, rfl, .int lo, rfl, _, lo, rfl, rfl, .int (0 + ((i : Nat) : Int)), rfl, _, 1, rfl, rfl, .int (0 + ((i : Nat) : Int)), rfl, _, 1, rfl, rfl, .int lo, rfl, _, lo, rfl, rfl, (by show 6 ≤ sizeLine; decide), fun t2 nt2 => ⟨.int way, rfl, t2, _, way, .int bd, rfl, rfl, .inl (.inl upd_same), ebd, b, bd, n + 3 + i, rfl, by omega, by omega, (hB.same (same_new nt)).same (same_new nt2), by omega, fun r H5 e0 e1 k5 B5 O5 => ⟨lo, r, rfl, rfl, l, _, _, rfl, rfl, B5 _ _ lb (upd_at elt nt2), ?_, ?_⟩⟩⟩
      · rw [List.length_map, ln]
        exact small300 (by omega)
      · refine ⟨_, _, pl ++ [lo + r], rfl, ?_, ?_, ?_, ?_, hP.snoc (by omega) (by omega) (by omega)⟩
        · obtain ⟨x, y, z, k6, k7⟩ := k5
          exact ⟨x, y, z, by rw [upd_ne (Ne.symm lb)]; exact k6, k7⟩
        · intro c o nc hc
          rw [upd_ne (ne_of_none hc (B4.freeP k3 nl))]
          exact B5 _ _ nc (same_new nt2 _ _ (same_new nt _ _ (sb c o nc hc)))
        · rw [upd_same, List.map_append]
          rfl
        · rw [List.length_append, ln]
          rfl
    · obtain ⟨y5, y6, pl, rfl, hB, sb, el, ln, hP⟩ := p1
      refine ⟨.ref l, rfl, l, _, rfl, .inl ⟨.inl (.inl el), fun p np => ?_⟩⟩
      exact q _ p pl ((hB.same (same_new np)).mono (by omega)) (sb.trans (Same.bar (same_new np))) (sb.freeP hB np) ⟨upd_same, hP⟩ (by omega)
end
end PT

set_option maxHeartbeats 4000000
/-! t.index(n) of a tuple of ints -/
namespace PT
open PySem PySem.Spec PyProof.Rows L2
theorem flat_ints (ns : List Int) : (ns.map V.int).all flatV = true := List.all_eq_true.mpr fun v hv => by
  obtain ⟨n, _, e⟩ := List.mem_map.mp hv
  rw [← e]
  rfl
/-- the values of ints, place by place -/
theorem ints_at {ns : List Int} {its : List Value} (r : Vals (ns.map V.int) its) (k : Nat) (hk : k < its.toArray.size) : ∃ n u, ns[k]? = some n ∧ its.toArray[k] = .int n u := by
  have same := r.length
  rw [List.length_map] at same
  have hk2 : k < its.length := by rwa [List.size_toArray] at hk
  have hk3 : k < ns.length := by omega
  obtain ⟨v, hv, u, e⟩ := r.get (i := k) (x := .int ns[k]) (by rw [List.getElem?_map, List.getElem?_eq_getElem hk3]; rfl)
  rw [List.getElem?_eq_getElem hk2] at hv
  refine ⟨ns[k], u, List.getElem?_eq_getElem hk3, ?_⟩
  rw [← e, ← Option.some.inj hv]
  rfl
/-- t.index(n): the first place where n stands -/
theorem mt_tup_indexI {X : Cx} : MtR X "tuple.index" (fun x vs H Q => ∃ (a : Addr) (ns : List Int) (n : Int) (k : Nat), x = .ref a ∧ vs = [.int n] ∧ SqT X.K H a (ns.map V.int) ∧ ns[k]? = some n ∧ (∀ i, i < k → ns[i]? ≠ some n) ∧ Q (.int (k : Nat)) H) := by
  rintro pins st σ H x vs v us Q J rx rv ⟨a, ns, n, k, ex, ev, at1, here, before, done⟩
  subst ex ev
  cases rx
  obtain ⟨w, ew, u, eu⟩ := vals1 rv
  subst ew eu
  obtain ⟨its, rel, ⟨ob, got, isT, m, dat⟩, _⟩ := J.tuple at1
  cases ob
  dsimp only at isT dat
  subst isT dat
  have inside : k < its.toArray.size := by
    have := rel.length
    rw [List.length_map] at this
    rw [List.size_toArray, ← this]
    exact (List.getElem?_eq_some_iff.mp here).1
  have hit : eqU (.int n) its.toArray[k] = true := by
    obtain ⟨n2, u2, e1, e2⟩ := ints_at rel k inside
    rw [e2, Option.some.inj (e1.symm.trans here)]
    exact beq_self_eq_true n
  have miss : ∀ i (hi : i < its.toArray.size), i < k → eqU (.int n) its.toArray[i] = false := fun i hi lt => by
    obtain ⟨n2, u2, e1, e2⟩ := ints_at rel i hi
    rw [e2]
    exact beq_eq_false_iff_ne.mpr fun e => before i lt (e ▸ e1)
  have eqs : ∀ y, y ∈ its.toArray → SeqAt.EqAt X.A.in1 st y (.int n u) (eqU (.int n) y) := fun y hy =>
    mem_eqAt (x := .int n) ⟨u, rfl⟩ rfl rel (flat_ints ns) y (List.mem_toArray.mp hy)
  exact call_meets PySem.F.slot_tuple_index ⟨_, got, rfl⟩ PySem.F.entry_tuple_index (PySem.F.args_tuple_index_2 _ _) (TI.tuple_indexAt a its.toArray m _ _ (.int n u) (eqU (.int n)) k inside hit miss) ⟨got, eqs, .int (k : Nat), H, J.tok _, ⟨_, rfl⟩, done⟩
end PT

set_option maxHeartbeats 4000000
/-! tuples that are known to have no dict of their own: methods of them -/
namespace PT
open PySem PySem.Spec PyProof.Rows L2
/-- a tuple that is known to the object -/
def TupF (H : Hp) (a : Addr) (xs : List V) : Prop := ∃ o : Obj, H a = some (.frz o (.tup xs)) ∧ o.cls = .type "tuple" ∧ o.dict = none
theorem TupF.same {H H' : Hp} (e : Same H H') {a : Addr} {xs : List V} (h : TupF H a xs) : TupF H' a xs := let ⟨o, q, r⟩ := h; ⟨o, e _ _ q, r⟩
theorem TupF.seq {K : PySem.W.Frag} {H : Hp} {a : Addr} {xs : List V} (h : TupF H a xs) : SqT K H a xs := let ⟨o, q, _⟩ := h; .inl (.inr ⟨o, q⟩)
theorem TupF.kept {H H' : Hp} {a : Addr} {xs : List V} (h : TupF H a xs) (e : ∀ o, H a = some o → H' a = some o) : TupF H' a xs := let ⟨o, q, r⟩ := h; ⟨o, e _ q, r⟩
theorem TupF.ne_none {H : Hp} {a b : Addr} {xs : List V} (h : TupF H a xs) (n : H b = none) : a ≠ b := let ⟨_, q, _⟩ := h; ne_of_none q n
theorem TupF.ne_lst {H : Hp} {a b : Addr} {xs ys : List V} (h : TupF H a xs) (n : H b = some (.lst ys)) : a ≠ b := let ⟨_, q, _⟩ := h; ne_of q n (by intro z; cases z)
theorem TupF.tyx {K : PySem.W.Frag} {H : Hp} {a : Addr} {xs : List V} (h : TupF H a xs) : TyX K H (.ref a) (.type "tuple") := let ⟨_, q, _⟩ := h; .fTuple q
section
variable {X : Cx}
/-- tuple(xs) of a list: its object is known, and has no dict -/
theorem call_tuple_ofF : CallR X (.type "tuple") (fun vs H Q => ∃ l ys, vs = [.ref l] ∧ SqL X.K H l ys ∧ ∀ a ob, H a = none → ob.cls = .type "tuple" → ob.dict = none → Q (.ref a) (upd H a (.frz ob (.tup ys)))) := by
  intro pins st σ H vs us Q J rv ⟨l, ys, ev, hl, done⟩
  subst ev
  obtain ⟨u, eu, ru⟩ := vals1 rv
  subst eu
  cases ru
  obtain ⟨its, rel, isl, short⟩ := J.list hl
  have same_len := rel.length
  refine call_tuple_list isl.isList (fun h2 keeps => ?_) (by rw [List.size_toArray]; omega)
  have J2 : Inv X pins σ H { st with heap := h2 } := J.kept (t' := st.toks) keeps
  let ob : Obj := { cls := .type "tuple", data := .seq its.toArray }
  refine ⟨.ref h2.objs.size, upd H h2.objs.size (.frz ob (.tup ys)), ?_, rfl, done _ ob (J2.hok.fresh (Nat.le_refl _)) rfl rfl⟩
  refine J2.laid (t' := st.toks) (fun c d e => Heap.get?_push_of_some _ e) (Nat.le_refl _) ?_
  exact ⟨Heap.get?_push_size _ rfl, short, its, rel, IsTup.new _ _⟩
/-- what a method call of such a tuple asks: the tuple, then the method's own rule -/
def tBMF (r : V → List V → Hp → VK → Prop) (to : TE) (t : TA) : TE := fun σ H Q =>
  to σ H fun x H1 => (∃ a ys, x = .ref a ∧ TupF H1 a ys) ∧ t σ H1 fun vs H2 => r x vs H2 Q
theorem pe_bmF {ob a1 : Expr} {rest : List Expr} {to : TE} {t : TA} {m : Str} {p1 p2 : Pos} {id : String} {r : V → List V → Hp → VK → Prop}
    (sl : Slot "tuple" m id) (kind : typeOf (.builtin id) = pure (.type "method_descriptor")) (rule : MtR X id r) (hob : PE X ob to) (hargs : PA X (a1 :: rest) t)
    (c1 : attributeBase ob m X.env (eval ob X.env) = eval ob X.env := by rfl)
    (c2 : ((backTo p2 (starEach (a1 :: rest) X.env)).all (fun z => !z.1) && (backToKw p2 (keywordEach [] X.env)).all (fun z => z.1.isSome) && decide ((a1 :: rest).length + ([] : List Keyword).length + (if ([] : List Keyword).isEmpty then 0 else 1) < 30)) = true := by rfl)
    (c3 : (p1.endLine == p2.line) = true := by rfl) (c4 : starEach (a1 :: rest) X.env = (false, eval a1 X.env) :: starEach rest X.env := by rfl)
    (c5 : (backTo p2 (starEach rest X.env)).any (·.1) = false := by rfl) : PE X (.Call (.Attribute ob m p1) (a1 :: rest) [] p2) (tBMF r to t) := by
  constructor
  intro pins st σ H Q J h
  refine wpAny_Call_method_late c1 c2 c3 rfl (thn (hob.run pins st σ H _ J h) ?_)
  rintro v st1 ⟨x, H1, J1, rx, ⟨a, ys, ex, obj, at1, isT, noD⟩, q⟩
  subst ex
  cases rx
  have there := (J1.hok a _ at1).1
  refine ⟨"tuple", id, PySem.F.plainAttrs_tuple, sl, kind, ⟨obj, there, isT⟩, fun c e => ⟨obj, by cases e; exact there, noD⟩, ?_⟩
  have ran := hargs.run p2 pins st1 σ H1 _ J1 q
  rw [c4] at ran ⊢
  have none_starred : ((false, eval a1 X.env) :: backTo p2 (starEach rest X.env)).any (·.1) = false := by rw [List.any_cons, c5]; rfl
  exact Calls.callWith_builtin none_starred (Calls.evalArgs_plain (thn ran fun us st2 ⟨vs, H2, J2, rvs, q2⟩ => rule pins st2 σ H2 (.ref a) vs (.ref a) us Q J2 rfl rvs q2))
end
end PT


set_option maxHeartbeats 4000000
/-! a stock out of a pot; the givers of all stations -/
namespace PT
open PySem PySem.Spec PyProof.Rows L2
theorem map_perm_int {ys : List V} {xs : List Int} (h : ys.Perm (xs.map V.int)) : ∃ zs : List Int, ys = zs.map V.int ∧ zs.Perm xs := by
  have hm : ∀ y ∈ ys, ∃ n, y = V.int n := fun y hy => by
    obtain ⟨n, _, e⟩ := List.mem_map.mp (h.mem_iff.mp hy)
    exact ⟨n, e.symm⟩
  let f : V → Int := fun v => match v with | .int i => i | _ => 0
  have e1 : (ys.map f).map V.int = ys := by
    rw [List.map_map]
    conv => rhs; rw [← List.map_id ys]
    refine List.map_congr_left fun y hy => ?_
    obtain ⟨n, rfl⟩ := hm y hy
    rfl
  refine ⟨ys.map f, e1.symm, ?_⟩
  have e2 := h.map f
  rw [List.map_map] at e2
  have e3 : xs.map (f ∘ V.int) = xs := by
    conv => rhs; rw [← List.map_id xs]
    rfl
  rw [e3] at e2
  exact e2
section
variable {P : Program} {w : World} {K : PySem.W.Frag} {mg : Str → Option Value} {base : Heap}
def spStock : Sp := fun vs H Q _ => ∃ (b p : Addr) (pl : List Int) (n : Nat), vs = [.ref b, .ref p] ∧ PotAt H b n ∧ n ≤ 10000000000 ∧ PlantAt H p pl ∧ ∀ (H' : Hp) (q : Addr) (ss : List Int), PotAt H' b (n + 100) → Bar b H H' → H q = none → TupF H' q (ss.map V.int) → StockOk pl ss → Q (.ref q) H'
theorem ok_stock (T : Tx K mg) : FnOk P w K mg base CX0 3 T.f__law_stock T.d__law_stock ["pot", "plant"] spStock := by
  refine T.F__law_stock.ok scLawStock (fun vs H Q E h => ?_) (fun cdv A outer s H vs Q E hr h => ?_)
  · obtain ⟨b, p, pl, n, rfl, _⟩ := h
    rfl
  · obtain ⟨b, p, pl, n, rfl, hb, hn, hP, qq⟩ := h
    have nd := scLawStock.nd
    have hlen := hP.ok.len
    refine ⟨_, pss_cons (ps_par (i := 2) (j := 3) rfl nd rfl rfl (by decide) rfl rfl (pa_cons (pe_ix ix_list (pe_lst (pa_cons pe_int (pa_cons pe_int (pa_cons (pe_op op_pow pe_int pe_int) pa_nil)))) (pe_call (ok_draw T) (hr.mono (by decide)) (by rfl) T.g__law_draw T.F__law_draw.kp T.b__law_draw .nil pass0 (pa_cons (pv 0) (pa_cons pe_int pa_nil))) (fun _ _ => rfl)) (pa_cons (pe_lst pa_nil) pa_nil)) (by rfl))
      (pss_cons (ps_set (i := 4) nd rfl (.inl rfl) (pe_ix ix_list (pe_lst (pa_cons pe_int (pa_cons pe_int (pa_cons (pe_un un_neg pe_int) (pa_cons (pe_un un_neg (pe_op op_pow pe_int pe_int)) pa_nil))))) (pe_call (ok_draw T) (hr.mono (by decide)) (by rfl) T.g__law_draw T.F__law_draw.kp T.b__law_draw .nil pass0 (pa_cons (pv 0) (pa_cons pe_int pa_nil))) (fun _ _ => rfl)))
      (pss_cons (ps_for PassesOwn.never rfl (pi_range1 rfl T.n_range (pa_cons (pe_op op_add (pe_callB call_len_seq (by rfl) T.n_len PySem.boot_len (pa_cons (pv 1) pa_nil)) pe_int) pa_nil)) (pg_name (i := 5) nd rfl (.inl rfl))
        (pss_cons (ps_expr (pe_bm PySem.F.plainAttrs_list PySem.F.slot_list_append PySem.F.type_list_append mt_append (pv 3) (pa_cons (pv 4) pa_nil)))
        (pss_one (ps_set (i := 4) nd rfl (.inl rfl) (pe_op op_add (pe_op op_add (pv 4) pe_int) (pe_call (ok_draw T) (hr.mono (by decide)) (by rfl) T.g__law_draw T.F__law_draw.kp T.b__law_draw .nil pass0 (pa_cons (pv 0) (pa_cons (pv 2) pa_nil))))))))
      (pss_one (ps_ret (pe_callTy call_tuple_ofF (by rfl) T.n_tuple (by decide +kernel) (pa_cons (pe_ifExp (pt_cmpR op_eq (pe_call (ok_draw T) (hr.mono (by decide)) (by rfl) T.g__law_draw T.F__law_draw.kp T.b__law_draw .nil pass0 (pa_cons (pv 0) (pa_cons pe_int pa_nil))) pe_int (nomark _)) (pv 3)
        (pe_call (ok_mixed T) hr (by rfl) T.g__law_mixed T.F__law_mixed.kp T.b__law_mixed .nil pass0 (pa_cons (pv 0) (pa_cons (pv 3) pa_nil)))) pa_nil)))))), ?_⟩
    -- wide, found
    refine ⟨10, 34, rfl, rfl, ⟨by decide, by decide, by decide⟩, (by show 3 ≤ sizeLine; decide), fun t1 n1 => ⟨.ref b, rfl, b, 3, n, rfl, by decide, by decide, hb.same (same_new n1), by omega, fun r1 H1 a0 a1 k1 B1 O1 => ?_⟩⟩
    have t1b : t1 ≠ b := hb.some n1
    obtain ⟨v, ev, cv⟩ := three_at (u0 := .int 1) (u1 := .int 4) (u2 := .int (10 ^ (Int.toNat 34))) a0 a1
    obtain ⟨W, rfl, W1, W2⟩ : ∃ W : Int, v = .int W ∧ 1 ≤ W ∧ W ≤ 10 ^ 34 := by
      rcases cv with rfl | rfl | rfl
      · exact ⟨_, rfl, by decide, by decide⟩
      · exact ⟨_, rfl, by decide, by decide⟩
      · exact ⟨_, rfl, by decide, by decide⟩
    refine ⟨t1, _, r1, .int W, rfl, rfl, .inl (.inl (B1 _ _ t1b upd_same)), ev, Nat.zero_le _, fun l nl => ⟨_, _, rfl, ?_⟩⟩
    have lb : l ≠ b := k1.some nl
    have C1 : Bar b H H1 := (Same.bar (same_new n1)).trans B1
    have nHl : H l = none := C1.freeP k1 nl
    -- here
    refine ⟨20, rfl, 10, 36, rfl, rfl, ⟨by decide, by decide, by decide⟩, _, rfl, (by show 4 ≤ sizeLine; decide), fun t2 n2 => ⟨.ref b, rfl, b, 4, n + 1, rfl, by decide, by decide, (k1.same (same_new nl)).same (same_new n2), by omega, fun r2 H2 c0 c1 k2 B2 O2 => ?_⟩⟩
    have t2b : t2 ≠ b := (k1.same (same_new nl)).some n2
    obtain ⟨v, ev2, cv2⟩ := four_at (u0 := .int 1) (u1 := .int 0) (u2 := .int (-20)) (u3 := .int (-(10 ^ (Int.toNat 36)))) c0 c1
    obtain ⟨L0, rfl, L1, L2⟩ : ∃ W : Int, v = .int W ∧ -(10 ^ 36) ≤ W ∧ W ≤ 1 := by
      rcases cv2 with rfl | rfl | rfl | rfl
      · exact ⟨_, rfl, by decide, by decide⟩
      · exact ⟨_, rfl, by decide, by decide⟩
      · exact ⟨_, rfl, by decide, by decide⟩
      · exact ⟨_, rfl, by decide, by decide⟩
    refine ⟨t2, _, r2, .int L0, rfl, rfl, .inl (.inl (B2 _ _ t2b upd_same)), ev2, ?_⟩
    have C2 : Bar b (upd H1 l (.lst [])) H2 := (Same.bar (same_new n2)).trans B2
    have el2 : H2 l = some (.lst []) := C2 _ _ lb upd_same
    have C3 : Bar b H H2 := C1.trans ((Same.bar (same_new nl)).trans C2)
    have hP2 := hP.barP C3 hb
    -- the numbers
    refine ⟨.ref p, rfl, p, _, rfl, .inr hP2.seq, _, 1, rfl, rfl, ((pl.map V.int).length : Int) + 1, rfl, by omega, by rw [List.length_map]; omega, ?_⟩
    have ez : (((pl.map V.int).length : Int) + 1).toNat = pl.length + 1 := by
      rw [List.length_map]
      omega
    rw [ez]
    refine for_range (lo := 0) (n := pl.length + 1) (fun i σ H' => ∃ (y5 : Option V) (ns : List Int) (he : Int), σ = [some (.ref b), some (.ref p), some (.int W), some (.ref l), some (.int he), y5] ∧ PotAt H' b (n + 2 + i) ∧ Bar b H H' ∧ H' l = some (.lst (ns.map V.int)) ∧ ns.length = i ∧ ns.Pairwise (· < ·) ∧ (∀ x ∈ ns, -(10 ^ 36) ≤ x ∧ x < he) ∧ -(10 ^ 36) ≤ he ∧ he ≤ 1 + i * (1 + 10 ^ 34))
      ⟨none, [], L0, rfl, k2, C3, el2, rfl, .nil, (fun x hx => by cases hx), L1, by omega⟩ (fun i σ H' hi p1 => ?_) (fun σ H' p1 => ?_)
    · obtain ⟨y5, ns, he, rfl, kb, sb, el, ln, pw, bd, h1, h2⟩ := p1
      refine ⟨.ref l, rfl, .inl ⟨rfl, _, .inl (.inl el)⟩, .int he, rfl, l, _, _, rfl, rfl, el, ?_, ?_⟩
      · rw [List.length_map, ln]
        exact small300 (by omega)
      have kb2 : PotAt (upd H' l (.lst (ns.map V.int ++ [V.int he]))) b (n + 2 + i) := by
        obtain ⟨x, y, z, k6, k7⟩ := kb
        exact ⟨x, y, z, by rw [upd_ne (Ne.symm lb)]; exact k6, k7⟩
      refine ⟨.int he, rfl, he, 1, rfl, rfl, .ref b, rfl, .int W, rfl, b, W, n + 2 + i, rfl, by omega, by omega, kb2, by omega, fun r H5 e0 e1 k5 B5 O5 => ⟨he + 1, r, rfl, rfl, _, ns ++ [he], he + 1 + r, rfl, k5, ?_, ?_, ?_, ?_, ?_, by omega, ?_⟩⟩
      · intro c o nc hc
        refine B5 _ _ nc ?_
        rw [upd_ne (ne_of_none hc nHl)]
        exact sb c o nc hc
      · rw [List.map_append]
        exact B5 _ _ lb upd_same
      · rw [List.length_append, ln]
        rfl
      · refine List.pairwise_append.mpr ⟨pw, List.pairwise_singleton .., fun x hx y hy => ?_⟩
        rw [List.mem_singleton.mp hy]
        exact (bd x hx).2
      · intro x hx
        rcases List.mem_append.mp hx with z | z
        · have := bd x z
          omega
        · rw [List.mem_singleton.mp z]
          omega
      · rw [Int.natCast_add]
        omega
    · obtain ⟨y5, ns, he, rfl, kb, sb, el, ln, pw, bd, h1, h2⟩ := p1
      have so : StockOk pl ns := ⟨ln, nodup_lt pw, fun x hx => by
        have := bd x hx
        have : ((pl.length + 1 : Nat) : Int) * (1 + 10 ^ 34) ≤ 40 * (1 + 10 ^ 34) := Int.mul_le_mul_of_nonneg_right (by omega) (by decide)
        omega⟩
      refine ⟨.ref b, rfl, b, 4, n + 2 + (pl.length + 1), rfl, by decide, by decide, kb, by omega, fun r H5 e0 e1 k5 B5 O5 => ⟨rfl, _, rfl, ite2 (fun e => ?_) fun e => ?_⟩⟩
      · have el5 : H5 l = some (.lst (ns.map V.int)) := B5 _ _ lb el
        refine ⟨.ref l, rfl, l, _, rfl, .inl (.inl el5), fun q o nq oc od => ?_⟩
        exact qq _ q ns ((k5.same (same_new nq)).mono (by omega)) ((sb.trans B5).trans (Same.bar (same_new nq))) ((sb.trans B5).freeP k5 nq) ⟨o, upd_same, oc, od⟩ so
      · have el5 : H5 l = some (.lst (ns.map V.int)) := B5 _ _ lb el
        refine ⟨.ref b, rfl, .ref l, rfl, b, l, _, _, rfl, k5, by omega, .inl el5, by rw [List.length_map]; omega, fun H6 l2 ys k6 B6 n6 e6 pm => ?_⟩
        obtain ⟨zs, rfl, pz⟩ := map_perm_int pm
        refine ⟨l2, _, rfl, .inl (.inl e6), fun q o nq oc od => ?_⟩
        have BB := (sb.trans B5).trans B6
        rw [List.length_map] at k6
        exact qq _ q zs ((k6.same (same_new nq)).mono (by omega)) (BB.trans (Same.bar (same_new nq))) (BB.freeP k6 nq) ⟨o, upd_same, oc, od⟩ (so.perm pz)
end
end PT


set_option maxHeartbeats 4000000
/-! the givers of all stations -/
namespace PT
open PySem PySem.Spec PyProof.Rows L2
section
variable {P : Program} {w : World} {K : PySem.W.Frag} {mg : Str → Option Value} {base : Heap}
def spGivers : Sp := fun vs H Q _ => ∃ (p : Addr) (pl : List Int), vs = [.ref p] ∧ PlantAt H p pl ∧ ∀ H' l as, ListsAt H H' l as pl pl.length → Q (.ref l) H'
theorem ok_givers (T : Tx K mg) : FnOk P w K mg base CX0 1 T.f__law_givers T.d__law_givers ["plant"] spGivers := by
  refine T.F__law_givers.ok scLawGivers (fun vs H Q E h => ?_) (fun cdv A outer s H vs Q E hr h => ?_)
  · obtain ⟨p, pl, rfl, _⟩ := h
    rfl
  · obtain ⟨p, pl, rfl, hP, q⟩ := h
    have nd := scLawGivers.nd
    have hlen := hP.ok.len
    refine ⟨_, pss_one (ps_ret (pe_lc (own := [("here", 1)]) (g := gName 1) (tt := tYes) (te := tLc (iRng1 (tCons (tCB (fun xs H Q => ∃ p ys, xs = [V.ref p] ∧ (SqL K H p ys ∨ SqT K H p ys) ∧ Q (.int (ys.length : Int)) H) (tCons (tVar 0) tNil)) tNil)) (gName 2) (tTest (tOp rEq (tOp (rIxT K) (tVar 0) (tVar 2)) (tVar 1))) (tOp (rI0 fun i j => V.int (i + j)) (tVar 2) (tC (.int 1))) [2]) rfl nd
        (pi_range1 rfl T.n_range (pa_cons (pe_op op_add (pe_callB call_len_seq (by rfl) T.n_len PySem.boot_len (pa_cons (pv 0) pa_nil)) pe_int) pa_nil))
        (blkOk_by (N := ["plant", "here", "k"]) (sc := defScope sLawGivers) (by decide +kernel)) (fun _ _ _ _ _ => pg_name (i := 1) nd rfl (Or.inr rfl)) (fun _ _ _ _ _ => pts_nil)
        (fun _ _ _ _ _ => pe_lc (own := [("k", 2)]) (wi := (iRng1 (tCons (tCB (fun xs H Q => ∃ p ys, xs = [V.ref p] ∧ (SqL K H p ys ∨ SqT K H p ys) ∧ Q (.int (ys.length : Int)) H) (tCons (tVar 0) tNil)) tNil))) (g := gName 2) (tt := tTest (tOp rEq (tOp (rIxT K) (tVar 0) (tVar 2)) (tVar 1))) (te := tOp (rI0 fun i j => V.int (i + j)) (tVar 2) (tC (.int 1))) rfl nd
          (pi_range1 rfl T.n_range (pa_cons (pe_callB call_len_seq (by rfl) T.n_len PySem.boot_len (pa_cons (pv 0) pa_nil)) pa_nil))
          (blkOk_by (N := ["plant", "here", "k"]) (by rfl)) (fun _ _ _ _ _ => pg_name (i := 2) nd rfl (Or.inl rfl)) (fun _ _ _ _ _ => pts_one (pt_cmpR op_eq (pe_ix ix_tup (pv 0) (pv 2) (fun _ _ => rfl)) (pv 1) (nomark _))) (fun _ _ _ _ _ => pe_op op_add (pv 2) pe_int)))), ?_⟩
    have hT : SqT K H p (pl.map V.int) := hP.seq
    refine ⟨.ref p, rfl, p, pl.map V.int, rfl, .inr hT, _, 1, rfl, rfl, ((pl.length + 1 : Nat) : Int), ?_, by omega, by omega, ?_⟩
    · rw [List.length_map]
      rfl
    rw [Int.toNat_natCast]
    intro D nD
    refine lc_range (lo := 0) (n := pl.length + 1) (fun i H' => ∃ as : List Addr, Same H H' ∧ H' D = some (.lst (as.map V.ref)) ∧ as.length = i ∧ (∀ a ∈ as, H a = none) ∧ D ∉ as ∧ as.Nodup ∧ ∀ (j : Nat) (a : Addr), as[j]? = some a → H' a = some (.lst ((sup pl pl.length j).map V.int)))
      ⟨[], same_new nD, upd_same, rfl, fun _ z => absurd z (by simp), by simp, List.nodup_nil, fun _ _ z => by simp at z⟩ (fun i H1 hi p1 => ?_) (fun H1 p1 => ?_)
    · obtain ⟨as, sm, eD, la, na, oa, nda, ha⟩ := p1
      have hT1 : SqT K H1 p (pl.map V.int) := seqT sm hT
      refine ⟨rfl, tyes_if ⟨.ref p, rfl, p, pl.map V.int, rfl, .inr hT1, ((pl.map V.int).length : Int), rfl, by omega, by rw [List.length_map]; omega, ?_⟩⟩
      rw [Int.toNat_natCast, List.length_map]
      intro C nC
      refine lc_range (lo := 0) (n := pl.length) (fun k H' => Same H1 H' ∧ H' C = some (.lst ((sup pl k i).map V.int))) ⟨same_new nC, upd_same⟩ (fun k H2 hk p2 => ?_) (fun H2 p2 => ?_)
      · obtain ⟨s2, eC⟩ := p2
        have ek : pl[k]? = some pl[k] := List.getElem?_eq_getElem hk
        refine ⟨rfl, .ref p, rfl, .int (0 + ((k : Nat) : Int)), rfl, p, _, _, .int pl[k], rfl, rfl, seqT s2 hT1, ?_, .int (0 + ((i : Nat) : Int)), rfl, rfl, _, rfl, ite2 (fun e => ?_) fun e => ?_⟩
        · rw [Int.zero_add]
          exact atI_nat (by rw [List.getElem?_map, ek]; rfl)
        · have e1 : pl[k] = ((i : Nat) : Int) := by
            have z := V.int.inj (of_decide_eq_true e)
            omega
          refine ⟨.int (0 + ((k : Nat) : Int)), rfl, _, 1, rfl, rfl, _, eC, ?_, ?_, ?_⟩
          · rw [List.length_map]
            exact small300 (by have := sup_len pl k i; omega)
          · intro b o hb
            rw [upd_ne (ne_of_none hb nC)]
            exact s2 _ _ hb
          · rw [upd_same, sup_step i ek, if_pos e1, List.map_append, Int.zero_add]
            rfl
        · have e1 : pl[k] ≠ ((i : Nat) : Int) := fun z => e (decide_eq_true (congrArg V.int (by omega)))
          refine ⟨s2, ?_⟩
          rw [sup_step i ek, if_neg e1]
          exact eC
      · obtain ⟨s2, eC⟩ := p2
        have nHC : H C = none := sm.free nC
        have CD : C ≠ D := fun e => by
          rw [e, eD] at nC
          cases nC
        have Cas : C ∉ as := fun hm => by
          obtain ⟨j, hj, e⟩ := List.getElem_of_mem hm
          have z := ha j C (by rw [List.getElem?_eq_getElem hj, e])
          rw [z] at nC
          cases nC
        refine ⟨_, s2 _ _ eD, ?_, as ++ [C], ?_, ?_, ?_, ?_, ?_, ?_, ?_⟩
        · rw [List.length_map, la]
          exact small300 (by omega)
        · intro b o hb
          rw [upd_ne (ne_of_none hb nD)]
          exact s2 _ _ (sm _ _ hb)
        · rw [upd_same, List.map_append]
          rfl
        · rw [List.length_append, la]
          rfl
        · intro a hm
          rcases List.mem_append.mp hm with z | z
          · exact na a z
          · rw [List.mem_singleton.mp z]
            exact nHC
        · intro hm
          rcases List.mem_append.mp hm with z | z
          · exact oa z
          · exact CD (List.mem_singleton.mp z).symm
        · refine List.nodup_append.mpr ⟨nda, List.nodup_cons.mpr ⟨by simp, List.nodup_nil⟩, fun a h1 b h2 e => ?_⟩
          rw [List.mem_singleton.mp h2] at e
          exact Cas (e ▸ h1)
        · intro j a hj
          by_cases hl : j < as.length
          · rw [List.getElem?_append_left hl] at hj
            have z := ha j a hj
            rw [upd_ne (fun e => by
              have := List.mem_of_getElem? hj
              rw [e] at this
              exact oa this)]
            exact s2 _ _ z
          · have hj2 : j = as.length := by
              have z := (List.getElem?_eq_some_iff.mp hj).1
              rw [List.length_append] at z
              have z2 : j < as.length + 1 := z
              omega
            subst hj2
            rw [List.getElem?_append_right (Nat.le_refl _), Nat.sub_self] at hj
            have e : C = a := Option.some.inj hj
            rw [← e, upd_ne CD, la]
            exact eC
    · obtain ⟨as, sm, eD, la, na, oa, nda, ha⟩ := p1
      exact q H1 D as ⟨sm, nD, eD, la, na, oa, nda, ha⟩
end
end PT

set_option maxHeartbeats 4000000
/-! max of a tuple of ints -/
namespace PT
open PySem PySem.Spec PyProof.Rows L2
theorem alike_int (ns : List Int) : PySem.W.AlikeAll (ns.map PyData.int) := by
  refine ⟨fun x hx y hy => ?_, fun x hx => ?_⟩
  · obtain ⟨n, _, rfl⟩ := List.mem_map.mp hx
    obtain ⟨m, _, rfl⟩ := List.mem_map.mp hy
    rfl
  · obtain ⟨n, _, rfl⟩ := List.mem_map.mp hx
    intro e
    cases e
theorem depth_ints : ∀ ns : List Int, PyData.depthAll (ns.map PyData.int) = 0
  | [] => rfl
  | n :: ns => by
    rw [List.map_cons]
    simp only [PyData.depthAll, PyData.depth, depth_ints ns]
    rfl
theorem lay_ints : ∀ ns : List Int, PyData.canLayAll0 (ns.map PyData.int) = true
  | [] => by simp [PyData.canLayAll0]
  | n :: ns => by simp [PyData.canLayAll0, PyData.canLay0, lay_ints ns]
theorem shaped_ints (ns : List Int) : SeqAt.shaped (.list (ns.map PyData.int)) = true := by
  unfold SeqAt.shaped
  simp only [PyData.canLay0, PyData.depth, depth_ints, lay_ints, Bool.true_and]
  decide
section
variable {X : Cx}
/-- max(t), t a tuple of ints -/
theorem call_maxT (hc : X.calm = true) (hu : X.A.units + 64 < cLine) : CallR X (.builtin "max") (fun vs H Q => ∃ a ns, vs = [V.ref a] ∧ SqT X.K H a (ns.map V.int) ∧ ns ≠ [] ∧ Q (.int (mxv ns)) H) := by
  intro pins st σ H vs us Q I r h
  obtain ⟨a, ns, rfl, hT, hne, q⟩ := h
  obtain ⟨its, rv, p, hz⟩ := I.tuple hT
  rw [Vals.ref1 r]
  cases ns with
  | nil => exact absurd rfl hne
  | cons x xs =>
    obtain ⟨as, hr⟩ := Dp.readsAll I ((x :: xs).map PyData.int) _ its (dp_ints (x :: xs)) rv
    have hd : PyData.depthAll (.int x :: xs.map PyData.int) = 0 := depth_ints (x :: xs)
    refine PySem.W.max_tuple_data (I.ok.hd hc) p hr (alike_int (x :: xs)) (by rw [hd]; omega) fun i v h' tk bs hv hR hk => ?_
    rw [PySem.W.maxD_ints] at hR
    cases hR with
    | int m t => exact ⟨.int _, H, I.kept hk, ⟨t, rfl⟩, q⟩
end
def natV (c : List Nat) : List V := c.map fun k : Nat => V.int (k : Int)
end PT


set_option maxHeartbeats 4000000
/-! a day, told by the givers -/
namespace PT
open PySem PySem.Spec PyProof.Rows L2
/-- the lists of givers stand in the heap -/
structure GivAt (H : Hp) (l : Addr) (as : List Addr) (pl : List Int) : Prop where
  hl : H l = some (.lst (as.map V.ref))
  len : as.length = pl.length + 1
  at_ : ∀ (j : Nat) (a : Addr), as[j]? = some a → H a = some (.lst ((sup pl pl.length j).map V.int))
theorem GivAt.same {H H' : Hp} (e : Same H H') {l : Addr} {as : List Addr} {pl : List Int} (g : GivAt H l as pl) : GivAt H' l as pl := ⟨e _ _ g.hl, g.len, fun j a h => e _ _ (g.at_ j a h)⟩
theorem ListsAt.giv {H H' : Hp} {l : Addr} {as : List Addr} {pl : List Int} (g : ListsAt H H' l as pl pl.length) : GivAt H' l as pl := ⟨g.hl, g.len, g.at_⟩
/-- the least number of the givers is that of the first of the oldest -/
theorem min_is_bst {pl ss : List Int} (hP : Plant pl) {c : Nat} {h : Int} {r : List Int} (e : sup pl pl.length c = h :: r) {m : Int} (hm : m ∈ (sup pl pl.length c).map (bx ss)) (hl : ∀ y ∈ (sup pl pl.length c).map (bx ss), m ≤ y) : m = bx ss (bst pl ss c) := by
  obtain ⟨b1, b2, b3, b4⟩ := bst_cons (ss := ss) hP e
  have h1 := hl _ (List.mem_map_of_mem (f := bx ss) b2)
  obtain ⟨x, hx, rfl⟩ := List.mem_map.mp hm
  rw [e] at hx
  have h2 := pickB_le ss (h :: r) h x (List.mem_cons_of_mem _ hx)
  rw [b1] at h1 h2
  omega
section
variable {P : Program} {w : World} {K : PySem.W.Frag} {mg : Str → Option Value} {base : Heap}
def spDay : Sp := fun vs H Q _ => ∃ (g q : Addr) (as : List Addr) (pl ss : List Int), vs = [.ref g, .ref q] ∧ GivAt H g as pl ∧ Plant pl ∧ TupF H q (ss.map V.int) ∧ ss.length = pl.length + 1 ∧ ss.Nodup ∧
  ∀ (H' : Hp) (t c r : Addr), Same H H' → H t = none → H c = none → H' c = some (.lst (natV (day pl ss 0).1)) → TupF H' r ((day pl ss 0).2.map V.int) → H' t = some (.tup [.ref c, .ref r]) → Q (.ref t) H'
theorem ok_day (T : Tx K mg) : FnOk P w K mg base CX0 1 T.f__law_day T.d__law_day ["givers", "stock"] spDay := by
  refine T.F__law_day.ok scLawDay (fun vs H Q E h => ?_) (fun cdv A outer s H vs Q E hr h => ?_)
  · obtain ⟨g, q, as, pl, ss, rfl, _⟩ := h
    rfl
  · obtain ⟨g, q, as, pl, ss, rfl, hG, hP, hq, hs, hnd, qq⟩ := h
    have nd := scLawDay.nd
    have hlen := hP.len
    refine ⟨_, pss_cons (ps_par3 (i := 2) (j := 3) (l := 4) rfl nd rfl rfl rfl (by decide) (by decide) (by decide) rfl rfl rfl (pa_cons pe_int (pa_cons (pe_lst (pa_cons pe_int pa_nil)) (pa_cons (pe_callTy call_list_of (by rfl) T.n_list (by decide +kernel) (pa_cons (pv 1) pa_nil)) pa_nil))) (by rfl))
      (pss_cons (ps_while PassesOwn.never (pt_cmpR (op_neD hr.units) (pe_ix ix_list (pv 0) (pv 2) (fun _ _ => rfl)) (pe_lst pa_nil) (nomark _))
        (pss_cons (ps_set (i := 5) nd rfl (.inl rfl) (pe_callB (cr_min rfl) (by rfl) T.n_min (by decide +kernel) (pa_cons (pe_lc (own := [("other", 6)]) (g := gName 6) (tt := tYes) (te := tOp (rIxT K) (tVar 1) (tVar 6)) rfl nd
          (pi_list (pe_ix ix_list (pv 0) (pv 2) (fun _ _ => rfl))) (blkOk_by (N := ["givers", "stock", "here", "chain", "later", "oldest", "other"]) (sc := defScope sLawDay) (by decide +kernel)) (fun _ _ _ _ _ => pg_name (i := 6) nd rfl (Or.inl rfl)) (fun _ _ _ _ _ => pts_nil) (fun _ _ _ _ _ => pe_ix ix_tup (pv 1) (pv 6) (fun _ _ => rfl))) pa_nil)))
        (pss_cons (ps_asg (pv 5) (pg_sub (pv 4) (pv 2) set_list))
        (pss_cons (ps_set (i := 2) nd rfl (.inl rfl) (pe_bmF PySem.F.slot_tuple_index PySem.F.type_tuple_index mt_tup_indexI (pv 1) (pa_cons (pv 5) pa_nil)))
        (pss_one (ps_expr (pe_bm PySem.F.plainAttrs_list PySem.F.slot_list_append PySem.F.type_list_append mt_append (pv 3) (pa_cons (pv 2) pa_nil))))))))
      (pss_cons (ps_asg (pe_op op_add (pe_callB (call_maxT rfl hr.units) (by rfl) T.n_max (by decide +kernel) (pa_cons (pv 1) pa_nil)) pe_int) (pg_sub (pv 4) (pv 2) set_list))
      (pss_one (ps_ret (pe_tup (pa_cons (pv 3) (pa_cons (pe_callTy call_tuple_ofF (by rfl) T.n_tuple (by decide +kernel) (pa_cons (pv 4) pa_nil)) pa_nil))))))), ?_⟩
    refine ⟨(by show 1 ≤ sizeLine; decide), fun ch nch => ⟨.ref q, rfl, q, _, rfl, .inr (hq.same (same_new nch)).seq, fun rw nrw => ⟨_, _, _, rfl, ?_⟩⟩⟩
    have s1 : Same H (upd H ch (.lst [.int 0])) := same_new nch
    have s2 : Same (upd H ch (.lst [.int 0])) (upd (upd H ch (.lst [.int 0])) rw (.lst (ss.map V.int))) := same_new nrw
    have nHr : H rw = none := s1.free nrw
    have hne : ch ≠ rw := fun e => by
      rw [← e, upd_same] at nrw
      cases nrw
    have hss : ss ≠ [] := fun z => by
      rw [z] at hs
      simp at hs
    refine ⟨fun m σ H' => ∃ (c : Nat) (pre : List Nat) (row : List Int) (y5 y6 : Option V), σ = [some (.ref g), some (.ref q), some (.int (c : Int)), some (.ref ch), some (.ref rw), y5, y6] ∧ Same H H' ∧ c ≤ pl.length ∧ m = pl.length - c ∧ H' rw = some (.lst (row.map V.int)) ∧ row.length = ss.length ∧
        H' ch = some (.lst (natV (pre ++ [c]))) ∧ pre.length + (pl.length - c) ≤ pl.length ∧ go pl ss row pre c = day pl ss 0,
      ⟨_, 0, [], ss, none, none, rfl, s1.trans s2, Nat.zero_le _, rfl, upd_same, rfl, s2 _ _ upd_same, by show 0 + _ ≤ _; omega, rfl⟩, ?_⟩
    rintro m σ H3 ⟨c, pre, row, y5, y6, rfl, sm, hc, rfl, er, lr, ec, lp, eg⟩
    have hG3 := hG.same sm
    obtain ⟨ac, eac⟩ : ∃ ac, as[c]? = some ac := ⟨as[c]'(by rw [hG.len]; omega), List.getElem?_eq_getElem _⟩
    have eac2 : atI (as.map V.ref) (c : Int) = some (.ref ac) := atI_nat (by rw [List.getElem?_map, eac]; rfl)
    refine ⟨.ref g, rfl, .int (c : Int), rfl, g, _, _, .ref ac, rfl, rfl, .inl (.inl hG3.hl), eac2, Nat.zero_le _, fun e0 ne0 => ?_⟩
    have se : Same H3 (upd H3 e0 (.lst [])) := same_new ne0
    have hac := hG3.at_ c ac eac
    refine ⟨.list ((sup pl pl.length c).map PyData.int), .list [], .lst (.inl (.inl (se _ _ hac))) (dp_ints _), .lst (.inl (.inl upd_same)) .nil, shaped_ints _, by decide, _, rfl, ite2 (fun e => ?_) fun e => ?_⟩
    · -- a station gives
      obtain ⟨h0, rs, es⟩ : ∃ h r, sup pl pl.length c = h :: r := by
        cases q2 : sup pl pl.length c with
        | nil =>
          rw [q2] at e
          exact absurd e (by decide)
        | cons h r => exact ⟨h, r, rfl⟩
      obtain ⟨b1, b2, b3, b4⟩ := bst_cons (ss := ss) hP es
      refine ⟨fun σ H' => ∃ (c2 : Nat) (pre2 : List Nat) (row2 : List Int) (y5 y6 : Option V), c < c2 ∧ σ = [some (.ref g), some (.ref q), some (.int (c2 : Int)), some (.ref ch), some (.ref rw), y5, y6] ∧ Same H H' ∧ c2 ≤ pl.length ∧ H' rw = some (.lst (row2.map V.int)) ∧ row2.length = ss.length ∧
        H' ch = some (.lst (natV (pre2 ++ [c2]))) ∧ pre2.length + (pl.length - c2) ≤ pl.length ∧ go pl ss row2 pre2 c2 = day pl ss 0, fun σ' H' z => ?_, ?_⟩
      · obtain ⟨c2, pre2, row2, y5, y6, k1, k2, k3, k4, k5, k6, k7, k8, k12⟩ := z
        exact ⟨pl.length - c2, by omega, c2, pre2, row2, y5, y6, k2, k3, k4, rfl, k5, k6, k7, k8, k12⟩
      refine heap_cut (P := fun G => Same H G ∧ G rw = some (.lst (row.map V.int)) ∧ G ch = some (.lst (natV (pre ++ [c]))) ∧ G ac = some (.lst ((sup pl pl.length c).map V.int))) ⟨sm.trans se, se _ _ er, se _ _ ec, se _ _ hac⟩ ?_
      clear e se ne0 er ec hac hG3
      rintro H4 ⟨s4, er, ec, hac⟩
      have hG4 := hG.same s4
      -- oldest
      refine ⟨.ref g, rfl, .int (c : Int), rfl, g, _, _, .ref ac, rfl, rfl, .inl (.inl hG4.hl), eac2, ac, rfl, ⟨_, .inl (.inl hac)⟩, fun D nD => ?_⟩
      have inS : ∀ x ∈ sup pl pl.length c, ∃ k : Nat, x = (k : Int) ∧ k ≤ pl.length := fun x hx => by
        obtain ⟨k, k1, _, k3⟩ := sup_gt hP hx
        exact ⟨k, k1, k3⟩
      have atS : ∀ k : Nat, k ≤ pl.length → atI (ss.map V.int) (k : Int) = some (.int (bx ss k)) := fun k hk => atI_nat (by rw [List.getElem?_map, bx_at (by omega)]; rfl)
      have hq4 := hq.same s4
      refine lc_list (xs := (sup pl pl.length c).map V.int) (fun i H' => Same H4 H' ∧ H' D = some (.lst ((((sup pl pl.length c).take i).map (bx ss)).map V.int))) ⟨same_new nD, upd_same⟩ (fun i H' _ p1 => .inl (.inl (p1.1 _ _ hac))) (fun i x H5 hx p1 => ?_) (fun H5 p1 => ?_)
      · obtain ⟨s5, eD⟩ := p1
        obtain ⟨u, eu, rfl⟩ : ∃ u, (sup pl pl.length c)[i]? = some u ∧ V.int u = x := by
          rw [List.getElem?_map] at hx
          cases q2 : (sup pl pl.length c)[i]? with
          | none => rw [q2] at hx; cases hx
          | some u => rw [q2] at hx; cases hx; exact ⟨u, rfl, rfl⟩
        obtain ⟨ku, eku, hku⟩ := inS u (List.mem_of_getElem? eu)
        refine ⟨rfl, tyes_if ⟨.ref q, rfl, .int u, rfl, q, _, u, .int (bx ss u), rfl, rfl, (hq4.same s5).seq, by rw [eku]; exact atS ku hku, _, eD, ?_, ?_, ?_⟩⟩
        · rw [List.length_map, List.length_map, List.length_take]
          exact small300 (by have := sup_len pl pl.length c; omega)
        · intro b o hb
          rw [upd_ne (ne_of_none hb nD)]
          exact s5 _ _ hb
        · rw [upd_same, take_next eu, List.map_append, List.map_append]
          rfl
      · obtain ⟨s5, eD⟩ := p1
        rw [List.length_map, List.take_length] at eD
        refine ⟨D, _, rfl, .inl (.inl eD), by rw [List.length_map, es]; exact Nat.succ_pos _, fun mn hm hl => ?_⟩
        have emn := min_is_bst hP es hm hl
        subst emn
        have er5 := s5 _ _ er
        have ec5 := s5 _ _ ec
        -- later[here] = oldest
        refine ⟨_, rfl, .ref rw, rfl, .int (c : Int), rfl, rw, _, (c : Int), c, rfl, rfl, er5, by rw [List.length_map, lr, hs]; exact ixN_at (by omega), ?_⟩
        have hq6 : TupF (upd H5 rw (.lst ((row.map V.int).set c (.int (bx ss (bst pl ss c)))))) q (ss.map V.int) := (hq4.same s5).kept fun o ho => by
          rw [upd_ne (hq.ne_none nHr)]
          exact ho
        -- here = stock.index(oldest)
        refine ⟨.ref q, rfl, ⟨q, _, rfl, hq6⟩, _, rfl, q, ss, _, bst pl ss c, rfl, rfl, hq6.seq, bx_at (by omega), fun m hm e => ?_, ?_⟩
        · have hm2 : m < ss.length := by omega
          rw [bx_at hm2] at e
          have := bx_inj hnd hm2 (by omega) (Option.some.inj e)
          omega
        -- chain.append(here)
        have ec6 : (upd H5 rw (.lst ((row.map V.int).set c (.int (bx ss (bst pl ss c)))))) ch = some (.lst (natV (pre ++ [c]))) := by
          rw [upd_ne hne]
          exact ec5
        refine ⟨.ref ch, rfl, .inl ⟨rfl, _, .inl (.inl ec6)⟩, _, rfl, ch, _, _, rfl, rfl, ec6, ?_, ?_⟩
        · unfold natV
          rw [List.length_map, List.length_append]
          exact small300 (by show pre.length + 1 ≤ 300; omega)
        · refine ⟨bst pl ss c, pre ++ [c], row.set c (bx ss (bst pl ss c)), _, _, b3, rfl, ?_, b4, ?_, by rw [List.length_set]; exact lr, ?_, ?_, ?_⟩
          · intro b2 o hb
            rw [upd_ne (ne_of_none hb nch), upd_ne (ne_of_none hb nHr)]
            exact s5 _ _ (s4 _ _ hb)
          · rw [upd_ne (Ne.symm hne), upd_same, List.map_set]
          · rw [upd_same]
            unfold natV
            exact congrArg (fun z => some (HO.lst z)) (by simp)
          · rw [List.length_append]
            show pre.length + 1 + _ ≤ _
            omega
          · rw [← go_on (pl := pl) (ss := ss) (row := row) (pre := pre) ⟨b3, b4⟩]
            exact eg
    · -- the maker
      have es : sup pl pl.length c = [] := by
        cases q2 : sup pl pl.length c with
        | nil => rfl
        | cons h r =>
          rw [q2] at e
          exact absurd rfl e
      have hb0 := bst_nil (ss := ss) es
      have eg2 := go_end (pl := pl) (ss := ss) (row := row) (pre := pre) (c := c) (by rw [hb0]; omega)
      rw [eg2] at eg
      have er' := se _ _ er
      have ec' := se _ _ ec
      refine ⟨.ref q, rfl, q, ss, rfl, ((hq.same sm).same se).seq, hss, _, 1, rfl, rfl, .ref rw, rfl, .int (c : Int), rfl, rw, _, (c : Int), c, rfl, rfl, er', by rw [List.length_map, lr, hs]; exact ixN_at (by omega), ?_⟩
      have s7 : Same H (upd (upd H3 e0 (.lst [])) rw (.lst ((row.map V.int).set c (.int (mxv ss + 1))))) := fun b2 o hb => by
        rw [upd_ne (ne_of_none hb nHr)]
        exact se _ _ (sm _ _ hb)
      refine ⟨.ref ch, rfl, .ref rw, rfl, rw, _, rfl, .inl (.inl upd_same), fun r o nr oc od => ⟨(by show 2 ≤ sizeLine; decide), fun t nt => ?_⟩⟩
      have s8 := same_new (o := .frz o (.tup ((row.map V.int).set c (.int (mxv ss + 1))))) nr
      have s9 := same_new (o := .tup [V.ref ch, .ref r]) nt
      refine qq _ t ch r (s7.trans (s8.trans s9)) ((s7.trans s8).free nt) nch (s9 _ _ (s8 _ _ ?_)) (TupF.same s9 ⟨o, ?_, oc, od⟩) upd_same
      · rw [upd_ne hne, ← eg]
        exact ec'
      · rw [upd_same, ← eg, List.map_set]
end
end PT

set_option maxHeartbeats 4000000
/-! lists of pairs of ints: data, the least pair -/
namespace PT
open PySem PySem.Spec PyProof.Rows L2
def pD (p : Int × Int) : PyData := .tuple [.int p.1, .int p.2]
theorem pD_toD : ∀ ps : List (Int × Int), ps.map pD = ps.map PySem.W.Datum.toD
  | [] => rfl
  | p :: ps => by
    rw [List.map_cons, List.map_cons, pD_toD ps]
    rfl
/-- a list of pairs of ints -/
structure PairsAt (H : Hp) (l : Addr) (as : List Addr) (ps : List (Int × Int)) : Prop where
  hl : H l = some (.lst (as.map V.ref))
  len : as.length = ps.length
  at_ : ∀ (i : Nat) (a : Addr) (p : Int × Int), as[i]? = some a → ps[i]? = some p → H a = some (.tup [.int p.1, .int p.2])
theorem PairsAt.same {H H' : Hp} {l : Addr} {as : List Addr} {ps : List (Int × Int)} (h : PairsAt H l as ps) (e : Same H H') : PairsAt H' l as ps := ⟨e _ _ h.hl, h.len, fun i a p x y => e _ _ (h.at_ i a p x y)⟩
theorem dpAll_pairs {K : PySem.W.Frag} {H : Hp} : ∀ (as : List Addr) (ps : List (Int × Int)), as.length = ps.length → (∀ (i : Nat) (a : Addr) (p : Int × Int), as[i]? = some a → ps[i]? = some p → H a = some (.tup [.int p.1, .int p.2])) → DpAll K H (as.map V.ref) (ps.map pD)
  | [], [], _, _ => .nil
  | [], _ :: _, h, _ => by simp at h
  | _ :: _, [], h, _ => by simp at h
  | a :: as, p :: ps, h, q => .cons (.tup (.inl (.inl (q 0 a p rfl rfl))) (dp_ints [p.1, p.2])) (dpAll_pairs as ps (by simpa using h) fun i b r e1 e2 => q (i + 1) b r (by simpa using e1) (by simpa using e2))
theorem PairsAt.dp {K : PySem.W.Frag} {H : Hp} {l : Addr} {as : List Addr} {ps : List (Int × Int)} (h : PairsAt H l as ps) : Dp K H (.ref l) (.list (ps.map pD)) := .lst (.inl (.inl h.hl)) (dpAll_pairs as ps h.len h.at_)
theorem depth_pairs : ∀ ps : List (Int × Int), PyData.depthAll (ps.map pD) ≤ 1
  | [] => Nat.zero_le _
  | p :: ps => by
    have ih := depth_pairs ps
    rw [List.map_cons]
    simp only [PyData.depthAll, pD, PyData.depth]
    omega
theorem lay_pairs : ∀ ps : List (Int × Int), PyData.canLayAll0 (ps.map pD) = true
  | [] => by simp [PyData.canLayAll0]
  | p :: ps => by simp [PyData.canLayAll0, PyData.canLay0, pD, lay_pairs ps]
theorem shaped_pairs (ps : List (Int × Int)) : SeqAt.shaped (.list (ps.map pD)) = true := by
  unfold SeqAt.shaped
  have h := depth_pairs ps
  simp only [PyData.canLay0, PyData.depth, lay_pairs, Bool.true_and, decide_eq_true_eq]
  exact decide_eq_true (by omega)
section
variable {X : Cx}
/-- min(xs), xs a list of pairs of ints that is not empty -/
theorem call_minP (hc : X.calm = true) (hu : X.A.units + 64 < cLine) : CallR X (.builtin "min") (fun vs H Q => ∃ (l : Addr) (as : List Addr) (p0 : Int × Int) (pr : List (Int × Int)), vs = [V.ref l] ∧ PairsAt H l as (p0 :: pr) ∧
    ∀ (i : Nat) (a : Addr), as[i]? = some a → (p0 :: pr)[i]? = some (PySem.W.minOf p0 pr) → Q (.ref a) H) := by
  intro pins st σ H vs us Q I r h
  obtain ⟨l, as, p0, pr, rfl, hP, q⟩ := h
  obtain ⟨its, rv, p, hz⟩ := I.list (.inl (.inl hP.hl))
  rw [Vals.ref1 r]
  obtain ⟨bs, hr⟩ := Dp.readsAll I ((p0 :: pr).map pD) _ its (dpAll_pairs as _ hP.len hP.at_) rv
  have hd : PyData.depthAll (pD p0 :: pr.map pD) ≤ 1 := depth_pairs (p0 :: pr)
  refine PySem.W.min_list_data (I.ok.hd hc) p.isList (x := pD p0) (xs := pr.map pD) (by simpa using hr) (by have z := PySem.W.alikeAll_datum (p0 :: pr); rw [← pD_toD] at z; exact z) (by omega) fun i v h' tk cs hv hR hk => ?_
  have hv2 : its[i]? = some v := by simpa using hv
  obtain ⟨b2, r2, lt2, _, _⟩ := PySem.W.readsAll_at hr i v hv2
  have e1 : PySem.W.minD (pD p0) (pr.map pD) = pD (PySem.W.minOf p0 pr) := by
    have z := PySem.W.minD_map p0 pr
    rw [← pD_toD] at z
    exact z
  rw [e1] at hR
  have hi : i < (p0 :: pr).length := by rw [List.length_map] at lt2; exact lt2
  have e2 := (PyProof.Rows.reads_det (fun b o e _ => hk b o e) r2 hR).1
  have hps : (p0 :: pr)[i]? = some ((p0 :: pr)[i]) := List.getElem?_eq_getElem hi
  have e3 : pD (PySem.W.minOf p0 pr) = pD ((p0 :: pr)[i]) := by
    rw [e2, List.getD_eq_getElem?_getD, List.getElem?_map, hps]
    rfl
  have e4 : (p0 :: pr)[i] = PySem.W.minOf p0 pr := by
    unfold pD at e3
    simp only [PyData.tuple.injEq, List.cons.injEq, PyData.int.injEq, and_true] at e3
    exact Prod.ext e3.1.symm e3.2.symm
  have ea : as[i]? = some (as[i]'(by rw [hP.len]; exact hi)) := List.getElem?_eq_getElem _
  obtain ⟨u, hu2, ru⟩ := rv.get (i := i) (x := .ref (as[i]'(by rw [hP.len]; exact hi))) (by rw [List.getElem?_map, ea]; rfl)
  have ev : u = v := Option.some.inj (hu2.symm.trans hv2)
  subst ev
  exact ⟨.ref _, H, I.kept hk, ru, q i _ ea (by rw [hps, e4])⟩
end
/-! ### the least pair is that of the oldest box -/
theorem minOf_mem : ∀ (pr : List (Int × Int)) (p0 : Int × Int), PySem.W.minOf p0 pr ∈ p0 :: pr
  | [], _ => List.mem_cons_self
  | y :: pr, p0 => by
    have ih := minOf_mem pr (if PySem.W.DatumOrd.lt y p0 = true then y else p0)
    show PySem.W.minOf (if PySem.W.DatumOrd.lt y p0 = true then y else p0) pr ∈ _
    rcases List.mem_cons.mp ih with e | e
    · rw [e]
      split
      · simp
      · simp
    · exact List.mem_cons_of_mem _ (List.mem_cons_of_mem _ e)
theorem ltP_fst {p q : Int × Int} (h : ¬ PySem.W.DatumOrd.lt p q = true) : q.1 ≤ p.1 := by
  have e : PySem.W.DatumOrd.lt p q = if p.1 = q.1 then decide (p.2 < q.2) else decide (p.1 < q.1) := rfl
  rw [e] at h
  by_cases c : p.1 = q.1
  · omega
  · rw [if_neg c] at h
    have := of_decide_eq_false (eq_false_of_ne_true h)
    omega
theorem ltP_fst2 {p q : Int × Int} (h : PySem.W.DatumOrd.lt p q = true) : p.1 ≤ q.1 := by
  have e : PySem.W.DatumOrd.lt p q = if p.1 = q.1 then decide (p.2 < q.2) else decide (p.1 < q.1) := rfl
  rw [e] at h
  by_cases c : p.1 = q.1
  · omega
  · rw [if_neg c] at h
    have := of_decide_eq_true h
    omega
theorem minOf_le : ∀ (pr : List (Int × Int)) (p0 : Int × Int), ∀ q ∈ p0 :: pr, (PySem.W.minOf p0 pr).1 ≤ q.1
  | [], p0, q, h => by
    rw [List.mem_singleton.mp h]
    exact Int.le_refl _
  | y :: pr, p0, q, h => by
    have ih := minOf_le pr (if PySem.W.DatumOrd.lt y p0 = true then y else p0)
    show (PySem.W.minOf (if PySem.W.DatumOrd.lt y p0 = true then y else p0) pr).1 ≤ _
    have h0 := ih _ List.mem_cons_self
    rcases List.mem_cons.mp h with e | e
    · rw [e]
      refine Int.le_trans h0 ?_
      split
      · rename_i c
        exact ltP_fst2 c
      · exact Int.le_refl _
    · rcases List.mem_cons.mp e with e | e
      · rw [e]
        refine Int.le_trans h0 ?_
        split
        · exact Int.le_refl _
        · rename_i c
          exact ltP_fst c
      · exact ih q (List.mem_cons_of_mem _ e)
/-- the suppliers with their boxes -/
def supP (pl ss : List Int) (i v : Nat) : List (Int × Int) := (sup pl i v).map fun k => (bx ss k, k)
theorem supP_min {pl ss : List Int} (hP : Plant pl) (hs : ss.length = pl.length + 1) (hn : ss.Nodup) {v : Nat} {p0 : Int × Int} {pr : List (Int × Int)} (e : supP pl ss pl.length v = p0 :: pr) :
    gives pl ss v ∧ PySem.W.minOf p0 pr = (bx ss (bst pl ss v), ((bst pl ss v : Nat) : Int)) := by
  have hm := minOf_mem pr p0
  have hle := minOf_le pr p0
  rw [← e] at hm hle
  unfold supP at hm hle
  obtain ⟨k, hk, ek⟩ := List.mem_map.mp hm
  obtain ⟨kn, rfl, k1, k2⟩ := sup_gt hP hk
  obtain ⟨k0, _, kc⟩ := (sup_cu hP).mp hk
  obtain ⟨g1, g2⟩ := gives_of (ss := ss) hP k0 k2
  rw [kc] at g1 g2
  have g3 := g1
  unfold gives at g3
  have hb : ((bst pl ss v : Nat) : Int) ∈ sup pl pl.length v := (sup_cu hP).mpr ⟨by omega, g3.2, gives_cu hP g1⟩
  have l := hle _ (List.mem_map.mpr ⟨_, hb, rfl⟩)
  rw [← ek] at l
  have l2 : bx ss (kn : Int) ≤ bx ss (bst pl ss v) := l
  have same := bx_inj hn (i := bst pl ss v) (j := kn) (by omega) (by omega) (by omega)
  refine ⟨g1, ?_⟩
  rw [← ek, same]
theorem supP_nil {pl ss : List Int} {v : Nat} (hP : Plant pl) (e : supP pl ss pl.length v = []) : ¬ gives pl ss v := by
  have z : sup pl pl.length v = [] := List.map_eq_nil_iff.mp e
  intro h
  have := bst_nil (ss := ss) z
  unfold gives at h
  omega
theorem supP_step {pl ss : List Int} {i : Nat} {x : Int} (v : Nat) (h : pl[i]? = some x) : supP pl ss (i + 1) v = if x = (v : Int) then supP pl ss i v ++ [(bx ss ((i : Int) + 1), (i : Int) + 1)] else supP pl ss i v := by
  unfold supP
  rw [sup_step v h]
  split
  · rw [List.map_append]
    rfl
  · rfl
theorem supP_len (pl ss : List Int) (i v : Nat) : (supP pl ss i v).length ≤ i := by
  unfold supP
  rw [List.length_map]
  exact sup_len pl i v

theorem PairsAt.snoc {G : Hp} {D t : Addr} {as : List Addr} {ps : List (Int × Int)} {p : Int × Int} (h : PairsAt G D as ps) (n : G t = none) :
    PairsAt (upd (upd G t (.tup [.int p.1, .int p.2])) D (.lst (as.map V.ref ++ [.ref t]))) D (as ++ [t]) (ps ++ [p]) := by
  have tD : t ≠ D := fun z => by
    rw [z, h.hl] at n
    cases n
  refine ⟨by rw [upd_same, List.map_append]; rfl, by rw [List.length_append, List.length_append, h.len]; rfl, fun i a r ea er => ?_⟩
  by_cases hi : i < as.length
  · rw [List.getElem?_append_left hi] at ea
    rw [List.getElem?_append_left (by rw [← h.len]; exact hi)] at er
    have z := h.at_ i a r ea er
    rw [upd_ne (ne_of z h.hl (by intro w; cases w)), upd_ne (ne_of_none z n)]
    exact z
  · have hl := h.len
    have hi2 : i = as.length := by
      have z := (List.getElem?_eq_some_iff.mp ea).1
      rw [List.length_append] at z
      have z2 : i < as.length + 1 := z
      omega
    subst hi2
    rw [List.getElem?_append_right (Nat.le_refl _), Nat.sub_self] at ea
    rw [hl, List.getElem?_append_right (Nat.le_refl _), Nat.sub_self] at er
    cases ea
    cases er
    rw [upd_ne tD, upd_same]
end PT


set_option maxHeartbeats 4000000
/-! the checks of the program -/
namespace PT
open PySem PySem.Spec PyProof.Rows L2

theorem FitsIs.kd {H : Hp} {v : V} {r : Bool} (h : FitsIs H v r) : ∃ n, Kd H v n := by
  cases h with
  | no k _ => exact ⟨_, k⟩
  | tup a _ _ => exact ⟨_, .tup a⟩
theorem fitsV_no {xs : List V} {i : Nat} {x : V} (h : xs[i]? = some x) (c : okV 0 (i : Nat) x = false) : fitsV xs = false := by
  unfold fitsV
  have e := okVs_at h
  rw [c] at e
  have z : (okVs xs).all id = false := by
    rw [List.all_eq_false]
    exact ⟨false, List.mem_of_getElem? e, by decide⟩
  rw [z, Bool.and_false]
theorem okVs_next {xs : List V} {i : Nat} {x : V} (h : xs[i]? = some x) (a : ((okVs xs).take i).all id = true) (c : okV 0 (i : Nat) x = true) : ((okVs xs).take (i + 1)).all id = true := by
  rw [take_next (okVs_at h), List.all_append, a, c]
  rfl
section
variable {P : Program} {w : World} {K : PySem.W.Frag} {mg : Str → Option Value} {base : Heap}
def spIsInteger : Sp := fun vs H Q _ => ∃ v n, vs = [v] ∧ Kd H v n ∧ Q (.bl (isI v)) H
theorem Tx.isInteger (T : Tx K mg) {k : Nat} : FnOk P w K mg base CX0 (k + 1) T.f_is_integer T.d_is_integer ["value"] spIsInteger := by
  refine T.F_is_integer.ok scIsInteger (fun vs H Q E h => ?_) (fun cdv A outer s H vs Q E hr h => ?_)
  · obtain ⟨v, n, rfl, _⟩ := h
    rfl
  · obtain ⟨v, n, rfl, hk, q⟩ := h
    refine ⟨_, pss_one (ps_ret (pe_and (pe_callB call_isi (by rfl) T.n_isinstance (by decide +kernel) (pa_cons (pv 0) (pa_cons (pe_bltn (v := .ty "int") (by rfl) T.n_int (by decide +kernel) rfl) pa_nil)))
      (pe_one (pe_not (pe_callB call_isi (by rfl) T.n_isinstance (by decide +kernel) (pa_cons (pv 0) (pa_cons (pe_bltn (v := .ty "bool") (by rfl) T.n_bool (by decide +kernel) rfl) pa_nil))))))), ?_⟩
    refine ⟨v, rfl, v, .ty "int", _, _, _, rfl, .ty _, hk.tyx, kd_int hk, _, rfl, ?_⟩
    refine ite2 (fun e => ⟨v, rfl, v, .ty "bool", _, _, _, rfl, .ty _, hk.tyx, kd_bool hk, _, rfl, ?_⟩) fun e => ?_
    · cases v <;> first | exact q | (simp [isI, isB] at e)
    · cases v <;> first | exact q | (simp [isI, isB] at e)
def spIsWithin : Sp := fun vs H Q _ => ∃ v n lo hi, vs = [v, .int lo, .int hi] ∧ Kd H v n ∧ Q (.bl (okV lo hi v)) H
theorem Tx.isWithin (T : Tx K mg) {k : Nat} : FnOk P w K mg base CX0 (k + 2) T.f_is_within T.d_is_within ["value", "least", "most"] spIsWithin := by
  refine T.F_is_within.ok scIsWithin (fun vs H Q E h => ?_) (fun cdv A outer s H vs Q E hr h => ?_)
  · obtain ⟨v, n, lo, hi, rfl, _⟩ := h
    rfl
  · obtain ⟨v, n, lo, hi, rfl, hk, q⟩ := h
    refine ⟨_, pss_one (ps_ret (pe_and (pe_call T.isInteger hr (by rfl) T.g_is_integer T.F_is_integer.kp T.b_is_integer .nil pass0 (pa_cons (pv 0) pa_nil)) (pe_one (pe_chain op_le op_le (pv 1) (pv 0) (pv 2))))), ?_⟩
    refine ⟨v, rfl, v, n, rfl, hk, _, rfl, ?_⟩
    refine ite2 (fun e => ?_) fun e => ?_
    · cases v with
      | int j =>
        refine ⟨_, rfl, _, rfl, lo, j, rfl, rfl, _, rfl, ite2 (fun e1 => ⟨_, rfl, j, hi, rfl, rfl, ?_⟩) fun e1 => ?_⟩
        · show Q (.bl (decide (j ≤ hi))) H
          have e2 : okV lo hi (.int j) = decide (j ≤ hi) := by
            show (decide (lo ≤ j) && decide (j ≤ hi)) = _
            rw [e1, Bool.true_and]
          rw [← e2]
          exact q
        · show Q (.bl false) H
          have e2 : okV lo hi (.int j) = false := by
            show (decide (lo ≤ j) && decide (j ≤ hi)) = _
            rw [eq_false_of_ne_true e1, Bool.false_and]
          rw [← e2]
          exact q
      | _ => simp [isI] at e
    · cases v with
      | int j => exact absurd rfl e
      | _ => exact q
/-! ### fits_plant -/
def spFits : Sp := fun vs H Q _ => ∃ v r, vs = [v] ∧ FitsIs H v r ∧ ∀ H', Same H H' → Q (.bl r) H'
theorem Tx.fits (T : Tx K mg) {k : Nat} : FnOk P w K mg base CX0 (k + 1) T.f_fits_plant T.d_fits_plant ["value"] spFits := by
  refine T.F_fits_plant.ok scFitsPlant (fun vs H Q E h => ?_) (fun cdv A outer s H vs Q E hr h => ?_)
  · obtain ⟨v, r, rfl, _⟩ := h
    rfl
  · obtain ⟨v, r, rfl, hf, q⟩ := h
    have nd := scFitsPlant.nd
    refine ⟨_, pss_cons (ps_if (PW.pt (pw_or (pt_not (pt_val (pe_callB call_isi (by rfl) T.n_isinstance (by decide +kernel) (pa_cons (pv 0) (pa_cons (pe_bltn (v := .ty "tuple") (by rfl) T.n_tuple (by decide +kernel) rfl) pa_nil)))))
        (pw_or1 (pt_cmpR op_ge (pe_callB call_len_seq (by rfl) T.n_len PySem.boot_len (pa_cons (pv 0) pa_nil)) (pe_glob (v := .int 40) rfl T.g_MOST_STATIONS ⟨_, rfl⟩) (nomark _)))))
        (pss_one (ps_ret pe_bl)) pss_nil)
      (pss_cons (ps_set (i := 1) nd rfl (.inl rfl) pe_int)
      (pss_cons (ps_for PassesOwn.never rfl (pi_tup (pv 0)) (pg_name (i := 2) nd rfl (.inl rfl))
        (pss_cons (ps_if (PW.pt (pw_or (pt_not (pt_val (pe_callB call_isi (by rfl) T.n_isinstance (by decide +kernel) (pa_cons (pv 2) (pa_cons (pe_bltn (v := .ty "int") (by rfl) T.n_int (by decide +kernel) rfl) pa_nil)))))
            (pw_or (pt_cmpR op_isK (pv 2) pe_bl (nomark _)) (pw_or (pt_cmpR op_isK (pv 2) pe_bl (nomark _)) (pw_or (pt_cmpR op_lt (pv 2) pe_int (nomark _)) (pw_or1 (pt_cmpR op_gt (pv 2) (pv 1) (nomark _))))))))
          (pss_one (ps_ret pe_bl)) pss_nil)
        (pss_one (ps_aug (i := 1) nd rfl (.inl rfl) pe_int ip_add))))
      (pss_one (ps_ret pe_bl)))), ?_⟩
    cases hf with
    | no hk hn =>
      refine ⟨_, rfl, _, .ty "tuple", _, _, _, rfl, .ty _, hk.tyx, kd_tuple hk, _, rfl, ?_⟩
      rw [show (_ == "tuple") = false from beq_eq_false_iff_ne.mpr hn]
      exact iteT (iteT (q _ (Same.refl H)))
    | @tup a xs ha hl hx =>
      refine ⟨_, rfl, _, .ty "tuple", _, _, _, rfl, .ty _, (Kd.tup ha).tyx, kd_tuple (.tup ha), _, rfl, ?_⟩
      have hT : SqT K H a xs := .inl (.inl ha)
      refine iteF ⟨_, rfl, a, xs, rfl, .inr hT, (xs.length : Int), 40, rfl, rfl, _, rfl, ite2 (fun e => ?_) fun e => ?_⟩
      · have z : fitsV xs = false := by
          unfold fitsV
          rw [decide_eq_false (by have := of_decide_eq_true e; omega), Bool.false_and]
        rw [z] at q
        exact q _ (Same.refl H)
      · have lt : xs.length < 40 := by
          have := of_decide_eq_false (eq_false_of_ne_true e)
          omega
        have z : fitsV xs = (okVs xs).all id := by
          unfold fitsV
          rw [decide_eq_true lt, Bool.true_and]
        refine ⟨_, rfl, a, rfl, ⟨_, hT⟩, ?_⟩
        refine for_tup (xs := xs) (fun i σ H' => H' = H ∧ ((okVs xs).take i).all id = true ∧ ∃ o, σ = [some (.ref a), some (.int (i : Nat)), o]) ⟨rfl, rfl, none, rfl⟩ (fun i σ H' _ p => by rw [p.1]; exact hT) (fun i x σ H' ex p => ?_) (fun σ H' p => ?_)
        · obtain ⟨rfl, al, o, rfl⟩ := p
          obtain ⟨m, km⟩ := hx x (List.mem_of_getElem? ex)
          have bad : okV 0 (i : Nat) x = false → Q (.bl false) H' := fun c => by
            have y := q H' (Same.refl H')
            rw [fitsV_no ex c] at y
            exact y
          refine ⟨x, rfl, x, .ty "int", _, _, _, rfl, .ty _, km.tyx, kd_int km, _, rfl, ?_⟩
          by_cases c1 : (isI x || isB x) = true
          · rw [c1]
            have kb : (∃ a, x = V.bl a) ∨ ∃ i, x = V.int i := by
              cases x <;> first | exact .inl ⟨_, rfl⟩ | exact .inr ⟨_, rfl⟩ | exact nomatch (show false = true from c1)
            refine iteF ⟨x, rfl, true, rfl, kb, _, rfl, ?_⟩
            rcases kb with ⟨b, rfl⟩ | ⟨j, rfl⟩
            · cases b with
              | true => exact iteT (iteT (bad rfl))
              | false => exact iteF ⟨_, rfl, false, rfl, .inl ⟨_, rfl⟩, _, rfl, iteT (iteT (bad rfl))⟩
            · refine iteF ⟨_, rfl, false, rfl, .inr ⟨_, rfl⟩, _, rfl, iteF ⟨_, rfl, j, 0, rfl, rfl, _, rfl, ite2 (fun e1 => iteT ?ca) fun e1 => ⟨_, rfl, _, rfl, j, (i : Nat), rfl, rfl, _, rfl, ite2 (fun e2 => ?cb) fun e2 => ?cc⟩⟩⟩
              case ca =>
                refine bad ?_
                show (decide (0 ≤ j) && decide (j ≤ ((i : Nat) : Int))) = false
                rw [decide_eq_false (by have := of_decide_eq_true e1; omega), Bool.false_and]
              case cb =>
                refine bad ?_
                show (decide (0 ≤ j) && decide (j ≤ ((i : Nat) : Int))) = false
                rw [decide_eq_false (show ¬ j ≤ ((i : Nat) : Int) by have := of_decide_eq_true e2; omega), Bool.and_false]
              case cc =>
                have g1 := of_decide_eq_false (eq_false_of_ne_true e1)
                have g2 := of_decide_eq_false (eq_false_of_ne_true e2)
                have ok1 : okV 0 (i : Nat) (.int j) = true := by
                  show (decide (0 ≤ j) && decide (j ≤ ((i : Nat) : Int))) = true
                  rw [decide_eq_true (by omega), decide_eq_true (by omega)]
                  rfl
                refine ⟨_, rfl, _, _, rfl, rfl, rfl, okVs_next ex al ok1, _, rfl⟩
          · have c2 := eq_false_of_ne_true c1
            rw [c2]
            refine iteT (iteT (bad ?_))
            cases x <;> first | rfl | exact nomatch (show true = false from c2)
        · obtain ⟨rfl, al, o, rfl⟩ := p
          rw [List.take_of_length_le (by rw [okVs_len]; omega)] at al
          rw [z, al] at q
          exact q _ (Same.refl _)
/-! ### check_plant, check_station, is_plant -/
def spIsPlant : Sp := spFits
def spCheckPlant : Sp := fun vs H Q _ => ∃ v, vs = [v] ∧ FitsIs H v true ∧ ∀ H', Same H H' → Q .non H'
theorem Tx.checkPlant (T : Tx K mg) {k : Nat} : FnOk P w K mg base CX0 (k + 2) T.f_check_plant T.d_check_plant ["plant"] spCheckPlant := by
  refine T.F_check_plant.ok scCheckPlant (fun vs H Q E h => ?_) (fun cdv A outer s H vs Q E hr h => ?_)
  · obtain ⟨v, rfl, _⟩ := h
    rfl
  · obtain ⟨v, rfl, hf, q⟩ := h
    refine ⟨_, pss_one (ps_if (pt_not (pt_val (pe_call T.fits hr (by rfl) T.g_fits_plant T.F_fits_plant.kp T.b_fits_plant .nil pass0 (pa_cons (pv 0) pa_nil)))) (pss_one ps_never) pss_nil), ?_⟩
    exact ⟨v, rfl, v, true, rfl, hf, fun H' sm => ⟨true, rfl, iteF (q H' sm)⟩⟩
def spFitsStation : Sp := fun vs H Q _ => ∃ (p : Addr) (xs : List V) (v : V) (n : String), vs = [.ref p, v] ∧ SqT K H p xs ∧ Kd H v n ∧ Q (.bl (okV 0 (xs.length : Nat) v)) H
def spCheckStation : Sp := fun vs H Q _ => ∃ (p : Addr) (xs : List V) (j : Int), vs = [.ref p, .int j] ∧ SqT K H p xs ∧ 0 ≤ j ∧ j ≤ xs.length ∧ Q .non H
/-! ### fits_stock, check_stock, check_supplier, check_days -/
def spFitsStock : Sp := fun vs H Q _ => ∃ (p q : Addr) (xs : List V) (ss : List Int), vs = [.ref p, .ref q] ∧ SqT K H p xs ∧ H q = some (.tup (ss.map V.int)) ∧ ss.length = xs.length + 1 ∧ ss.length ≤ 100 ∧ ss.Nodup ∧ ∀ H', Same H H' → Q (.bl true) H'
theorem Tx.fitsStock (T : Tx K mg) {k : Nat} : FnOk P w K mg base CX0 (k + 2) T.f_fits_stock T.d_fits_stock ["plant", "value"] (spFitsStock (K := K)) := by
  refine T.F_fits_stock.ok scFitsStock (fun vs H Q E h => ?_) (fun cdv A outer s H vs Q E hr h => ?_)
  · obtain ⟨p, q, xs, ss, rfl, _⟩ := h
    rfl
  · obtain ⟨p, q, xs, ss, rfl, hT, hq, hl, hs, nd, qq⟩ := h
    refine ⟨_, pss_cons (ps_if (PW.pt (pw_or (pt_not (pt_val (pe_callB call_isi (by rfl) T.n_isinstance (by decide +kernel) (pa_cons (pv 1) (pa_cons (pe_bltn (v := .ty "tuple") (by rfl) T.n_tuple (by decide +kernel) rfl) pa_nil)))))
        (pw_or1 (pt_cmpR op_ne (pe_callB call_len_seq (by rfl) T.n_len PySem.boot_len (pa_cons (pv 1) pa_nil)) (pe_op op_add (pe_callB call_len_seq (by rfl) T.n_len PySem.boot_len (pa_cons (pv 0) pa_nil)) pe_int) (nomark _)))))
        (pss_one (ps_ret pe_bl)) pss_nil)
      (pss_cons (ps_if (pt_not (pt_val (pe_callB (cr_all rfl) (by rfl) T.n_all (by decide +kernel) (pa_cons
          (pe_lc (own := [("box", 2)]) (g := gName 2) (tt := tYes) (te := tCall spIsInteger [] E0 (tCons (tVar 2) tNil)) rfl scFitsStock.nd (pi_tup (pv 1)) (blkOk_by (N := ["plant", "value", "box"]) (sc := defScope sFitsStock) (by decide +kernel))
            (fun _ _ _ _ _ => pg_name (i := 2) scFitsStock.nd rfl (.inl rfl)) (fun _ _ _ _ _ => pts_nil)
            (fun _ _ _ _ _ => pe_call T.isInteger hr (by rfl) T.g_is_integer T.F_is_integer.kp T.b_is_integer .nil pass0 (pa_cons (pv 2) pa_nil))) pa_nil)))) (pss_one (ps_ret pe_bl)) pss_nil)
      (pss_one (ps_ret (pe_cmpR op_eq (pe_lenSetT (by rfl) T.n_len (by rfl) T.n_set (pv 1)) (pe_callB call_len_seq (by rfl) T.n_len PySem.boot_len (pa_cons (pv 1) pa_nil)) (nomark _))))), ?_⟩
    have hv : SqT K H q (ss.map V.int) := .inl (.inl hq)
    refine ⟨_, rfl, _, .ty "tuple", _, _, _, rfl, .ty _, (Kd.tup hq).tyx, kd_tuple (.tup hq), _, rfl, ?_⟩
    refine iteF ⟨_, rfl, q, _, rfl, .inr hv, .ref p, rfl, p, xs, rfl, .inr hT, _, 1, rfl, rfl, rfl, _, rfl, ?_⟩
    rw [show ((ss.map V.int).length : Int) = (xs.length : Int) + 1 by rw [List.length_map, hl]; rfl]
    rw [show (!decide (V.int ((xs.length : Int) + 1) = V.int ((xs.length : Int) + 1))) = false by rw [decide_eq_true rfl]; rfl]
    refine iteF ⟨.ref q, rfl, q, rfl, ⟨_, hv⟩, fun D nD => ?_⟩
    refine lc_tup (xs := ss.map V.int) (fun i H' => Same H H' ∧ H' D = some (.lst ((List.replicate i true).map V.bl))) ⟨same_new nD, upd_same⟩ (fun i H' _ p1 => seqT p1.1 hv) (fun i x H1 ex p1 => ?_) (fun H' p1 => ?_)
    · obtain ⟨sm, eD⟩ := p1
      obtain ⟨n, en, rfl⟩ : ∃ n, ss[i]? = some n ∧ V.int n = x := by
        rw [List.getElem?_map] at ex
        cases z : ss[i]? with
        | none => rw [z] at ex; cases ex
        | some n => rw [z] at ex; cases ex; exact ⟨n, rfl, rfl⟩
      have hi := (List.getElem?_eq_some_iff.mp en).1
      refine ⟨rfl, tyes_if ⟨.int n, rfl, .int n, "int", rfl, .int n, _, eD, ?_, fun b o hb => ?_, ?_⟩⟩
      · rw [List.length_map, List.length_replicate]
        exact small300 (by omega)
      · rw [upd_ne (ne_of_none hb nD)]
        exact sm _ _ hb
      · rw [upd_same, List.replicate_succ', List.map_append]
        rfl
    · obtain ⟨sm, eD⟩ := p1
      have ea : (List.replicate (ss.map V.int).length true).all id = true := by
        rw [List.all_replicate]
        simp
      refine ⟨D, _, rfl, .inl (.inl eD), _, rfl, ?_⟩
      rw [ea]
      refine iteF ⟨.ref q, rfl, q, ss, rfl, seqT sm hv, nd, by omega, .ref q, rfl, q, _, rfl, .inr (seqT sm hv), rfl, ?_⟩
      rw [show ((ss.map V.int).length : Int) = ((ss.length : Nat) : Int) by rw [List.length_map], decide_eq_true rfl]
      exact qq H' sm
def spCheckStock : Sp := spFitsStock (K := K)
theorem Tx.checkStock (T : Tx K mg) {k : Nat} : FnOk P w K mg base CX0 (k + 3) T.f_check_stock T.d_check_stock ["plant", "stock"] (fun vs H Q E => spFitsStock (K := K) vs H (fun _ H' => Q .non H') E) := by
  refine T.F_check_stock.ok scCheckStock (fun vs H Q E h => ?_) (fun cdv A outer s H vs Q E hr h => ?_)
  · obtain ⟨p, q, xs, ss, rfl, _⟩ := h
    rfl
  · obtain ⟨p, q, xs, ss, rfl, hT, hq, hl, hs, nd, qq⟩ := h
    refine ⟨_, pss_one (ps_if (pt_not (pt_val (pe_call T.fitsStock hr (by rfl) T.g_fits_stock T.F_fits_stock.kp T.b_fits_stock .nil pass0 (pa_cons (pv 0) (pa_cons (pv 1) pa_nil))))) (pss_one ps_never) pss_nil), ?_⟩
    exact ⟨.ref p, rfl, .ref q, rfl, p, q, xs, ss, rfl, hT, hq, hl, hs, nd, fun H' sm => ⟨true, rfl, iteF (qq H' sm)⟩⟩
def spCheckSupplier : Sp := fun vs H Q _ => ∃ (p : Addr) (pl : List Int) (v u : Nat), vs = [.ref p, .int (v : Int), .int (u : Int)] ∧ PlantAt H p pl ∧ 0 < u ∧ u ≤ pl.length ∧ cu pl u = v ∧ Q .non H
def spCheckDays : Sp := fun vs H Q _ => ∃ d lo hi : Int, vs = [.int d, .int lo, .int hi] ∧ lo ≤ d ∧ d ≤ hi ∧ Q .non H
theorem Tx.checkDays (T : Tx K mg) {k : Nat} : FnOk P w K mg base CX0 (k + 3) T.f_check_days T.d_check_days ["days", "least", "most"] spCheckDays := by
  refine T.F_check_days.ok scCheckDays (fun vs H Q E h => ?_) (fun cdv A outer s H vs Q E hr h => ?_)
  · obtain ⟨d, lo, hi, rfl, _⟩ := h
    rfl
  · obtain ⟨d, lo, hi, rfl, h0, h1, q⟩ := h
    refine ⟨_, pss_one (ps_if (pt_not (pt_val (pe_call T.isWithin hr (by rfl) T.g_is_within T.F_is_within.kp T.b_is_within .nil pass0 (pa_cons (pv 0) (pa_cons (pv 1) (pa_cons (pv 2) pa_nil)))))) (pss_one ps_never) pss_nil), ?_⟩
    refine ⟨.int d, rfl, .int lo, rfl, .int hi, rfl, .int d, "int", lo, hi, rfl, .int d, true, ?_, iteF q⟩
    show V.bl (decide (lo ≤ d) && decide (d ≤ hi)) = _
    rw [decide_eq_true h0, decide_eq_true h1]
    rfl
end
end PT

/-! the words of an ordered stock: what a day does to them -/
namespace PT

/-- the supplier of v at or above s; none where s is not below v -/
def br (pl : List Int) (v s : Nat) : Option Nat := if h : 0 < s then (if cu pl s = v then some s else br pl v (cu pl s)) else none
termination_by s
decreasing_by exact cu_lt pl h
theorem br_zero (pl : List Int) (v : Nat) : br pl v 0 = none := by
  rw [br]
  rfl
theorem br_pos (pl : List Int) (v : Nat) {s : Nat} (h : 0 < s) : br pl v s = if cu pl s = v then some s else br pl v (cu pl s) := by
  rw [br, dif_pos h]
theorem br_some {pl : List Int} {v t : Nat} : ∀ s, br pl v s = some t → 0 < t ∧ t ≤ s ∧ cu pl t = v ∧ v < s := by
  intro s
  induction s using Nat.strongRecOn with
  | ind s ih =>
    intro h
    by_cases h0 : 0 < s
    · have hc := cu_lt pl h0
      rw [br_pos pl v h0] at h
      by_cases e : cu pl s = v
      · rw [if_pos e] at h
        cases h
        exact ⟨h0, Nat.le_refl _, e, by omega⟩
      · rw [if_neg e] at h
        have := ih _ hc h
        omega
    · have e : s = 0 := by omega
      rw [e, br_zero] at h
      cases h
theorem br_ord {pl ss : List Int} (ho : Ord pl ss) {v t : Nat} : ∀ s, s ≤ pl.length → br pl v s = some t → bx ss t ≤ bx ss s := by
  intro s
  induction s using Nat.strongRecOn with
  | ind s ih =>
    intro hs h
    by_cases h0 : 0 < s
    · have hc := cu_lt pl h0
      rw [br_pos pl v h0] at h
      by_cases e : cu pl s = v
      · rw [if_pos e] at h
        cases h
        exact Int.le_refl _
      · rw [if_neg e] at h
        have h1 := ih _ hc (by omega) h
        have h2 := ho s h0 hs
        omega
    · have e : s = 0 := by omega
      rw [e, br_zero] at h
      cases h
/-- all stations, from the oldest box on -/
structure IsOrd (ss : List Int) (L : List Nat) : Prop where
  mem : ∀ k, k ∈ L ↔ k < ss.length
  inc : L.Pairwise fun a b : Nat => bx ss a < bx ss b
theorem inc_unique {ss : List Int} : ∀ {L M : List Nat}, L.Pairwise (fun a b : Nat => bx ss a < bx ss b) → M.Pairwise (fun a b : Nat => bx ss a < bx ss b) → (∀ k, k ∈ L ↔ k ∈ M) → L = M
  | [], [], _, _, _ => rfl
  | [], m :: M, _, _, h => absurd ((h m).mpr List.mem_cons_self) (by simp)
  | l :: L, [], _, _, h => absurd ((h l).mp List.mem_cons_self) (by simp)
  | l :: L, m :: M, h1, h2, h => by
    obtain ⟨a1, a2⟩ := List.pairwise_cons.mp h1
    obtain ⟨b1, b2⟩ := List.pairwise_cons.mp h2
    have e : l = m := by
      rcases List.mem_cons.mp ((h l).mp List.mem_cons_self) with z | z
      · exact z
      · rcases List.mem_cons.mp ((h m).mpr List.mem_cons_self) with y | y
        · exact y.symm
        · have := b1 l z
          have := a1 m y
          omega
    subst e
    have hl : l ∉ L := fun z => by have := a1 l z; omega
    have hm : l ∉ M := fun z => by have := b1 l z; omega
    refine congrArg (l :: ·) (inc_unique a2 b2 fun k => ?_)
    constructor
    · intro z
      rcases List.mem_cons.mp ((h k).mp (List.mem_cons_of_mem _ z)) with y | y
      · rw [y] at z
        exact absurd z hl
      · exact y
    · intro z
      rcases List.mem_cons.mp ((h k).mpr (List.mem_cons_of_mem _ z)) with y | y
      · rw [y] at z
        exact absurd z hm
      · exact y
theorem IsOrd.unique {ss : List Int} {L M : List Nat} (h : IsOrd ss L) (g : IsOrd ss M) : L = M := inc_unique h.inc g.inc fun k => (h.mem k).trans (g.mem k).symm
/-- the word of v -/
def wd (pl : List Int) (L : List Nat) (v : Nat) : List Nat := L.filterMap (br pl v)
theorem wd_maker {pl : List Int} (hP : Plant pl) {v : Nat} (h : sup pl pl.length v = []) : ∀ {L : List Nat}, (∀ k ∈ L, k ≤ pl.length) → wd pl L v = [] := by
  intro L hL
  unfold wd
  rw [List.filterMap_eq_nil_iff]
  intro k hk
  cases e : br pl v k with
  | none => rfl
  | some t =>
    obtain ⟨t0, t1, t2, _⟩ := br_some k e
    have := (sup_cu hP (j := v) (k := t)).mpr ⟨t0, by have := hL k hk; omega, t2⟩
    rw [h] at this
    cases this
theorem wd_mem {pl : List Int} {L : List Nat} {v t : Nat} (hL : ∀ k ∈ L, k ≤ pl.length) (h : t ∈ wd pl L v) : 0 < t ∧ t ≤ pl.length ∧ cu pl t = v := by
  obtain ⟨k, hk, e⟩ := List.mem_filterMap.mp h
  obtain ⟨a, b, c, _⟩ := br_some k e
  exact ⟨a, by have := hL k hk; omega, c⟩
/-! ### the chain -/
theorem chn_br {pl ss : List Int} (hP : Plant pl) : ∀ (n c : Nat), pl.length - c = n → gives pl ss c → ∀ s ∈ chn pl ss (bst pl ss c), br pl c s = some (bst pl ss c) := by
  intro n c hn hg s
  have hd : c < bst pl ss c ∧ bst pl ss c ≤ pl.length := hg
  have hcu := gives_cu hP hg
  induction s using Nat.strongRecOn with
  | ind s ih =>
    intro hs
    have hr := chn_le _ (bst pl ss c) rfl hd.2 s hs
    have h0 : 0 < s := by omega
    rw [br_pos pl c h0]
    rcases chn_up _ (bst pl ss c) rfl s hs with z | ⟨p, hp, gp, ep⟩
    · rw [if_pos (by rw [z]; exact hcu), z]
    · have e2 := gives_cu hP gp
      rw [ep] at e2
      have hp2 := chn_le _ (bst pl ss c) rfl hd.2 p hp
      rw [e2, if_neg (by omega)]
      exact ih p (by unfold gives at gp; omega) hp
/-- the last station of the chain from c on -/
def lst (pl ss : List Int) (c : Nat) : Nat := if h : c < bst pl ss c ∧ bst pl ss c ≤ pl.length then lst pl ss (bst pl ss c) else c
termination_by pl.length - c
decreasing_by omega
theorem lst_on {pl ss : List Int} {c : Nat} (h : gives pl ss c) : lst pl ss c = lst pl ss (bst pl ss c) := by
  rw [lst, dif_pos (show c < bst pl ss c ∧ bst pl ss c ≤ pl.length from h)]
theorem lst_end {pl ss : List Int} {c : Nat} (h : ¬ gives pl ss c) : lst pl ss c = c := by
  rw [lst, dif_neg (show ¬ (c < bst pl ss c ∧ bst pl ss c ≤ pl.length) from h)]
theorem lst_chn {pl ss : List Int} : ∀ (n c : Nat), pl.length - c = n → lst pl ss c ∈ chn pl ss c ∧ ¬ gives pl ss (lst pl ss c) ∧ ∀ k ∈ chn pl ss c, ¬ gives pl ss k → k = lst pl ss c := by
  intro n
  induction n using Nat.strongRecOn with
  | ind n ih =>
    intro c hn
    by_cases h : gives pl ss c
    · have h' : c < bst pl ss c ∧ bst pl ss c ≤ pl.length := h
      obtain ⟨a, b, d⟩ := ih (pl.length - bst pl ss c) (by omega) (bst pl ss c) rfl
      rw [lst_on h, chn_on h]
      refine ⟨List.mem_cons_of_mem _ a, b, fun k hk nk => ?_⟩
      rcases List.mem_cons.mp hk with z | z
      · rw [z] at nk
        exact absurd h nk
      · exact d k z nk
    · rw [lst_end h, chn_end h]
      exact ⟨List.mem_cons_self, h, fun k hk _ => List.mem_singleton.mp hk⟩
theorem lst_br {pl ss : List Int} (hP : Plant pl) : ∀ (n c : Nat), pl.length - c = n → ∀ v ∈ chn pl ss c, gives pl ss v → br pl v (lst pl ss c) = some (bst pl ss v) := by
  intro n
  induction n using Nat.strongRecOn with
  | ind n ih =>
    intro c hn v hv hg
    by_cases h : gives pl ss c
    · have h' : c < bst pl ss c ∧ bst pl ss c ≤ pl.length := h
      rw [chn_on h] at hv
      rw [lst_on h]
      rcases List.mem_cons.mp hv with z | z
      · rw [z]
        exact chn_br hP _ c rfl h _ (lst_chn _ _ rfl).1
      · exact ih (pl.length - bst pl ss c) (by omega) (bst pl ss c) rfl v z hg
    · rw [chn_end h] at hv
      rw [List.mem_singleton.mp hv] at hg
      exact absurd hg h
theorem chn_cu {pl ss : List Int} (hP : Plant pl) {s : Nat} (hs : s ∈ chn pl ss 0) (h0 : 0 < s) : cu pl s ∈ chn pl ss 0 ∧ gives pl ss (cu pl s) ∧ bst pl ss (cu pl s) = s := by
  rcases chn_up _ 0 rfl s hs with z | ⟨p, hp, gp, ep⟩
  · omega
  · have e2 := gives_cu hP gp
    rw [ep] at e2
    rw [e2]
    exact ⟨hp, gp, ep⟩
theorem chn_out {pl ss : List Int} (hP : Plant pl) {v : Nat} (hv : v ∉ chn pl ss 0) : ∀ s, s ∈ chn pl ss 0 → br pl v s = none := by
  intro s
  induction s using Nat.strongRecOn with
  | ind s ih =>
    intro hs
    by_cases h0 : 0 < s
    · obtain ⟨a, _, _⟩ := chn_cu hP hs h0
      rw [br_pos pl v h0, if_neg (fun z : cu pl s = v => hv (z ▸ a))]
      exact ih _ (cu_lt pl h0) a
    · have e : s = 0 := by omega
      rw [e, br_zero]
/-! ### a day -/
/-- where the box of s stands behind the day -/
def mv (pl ss : List Int) (s : Nat) : Nat := if s ∈ chn pl ss 0 then cu pl s else s
theorem mv_bx {pl ss : List Int} (hP : Plant pl) (hs : ss.length = pl.length + 1) {s : Nat} (h0 : 0 < s) (h1 : s ≤ pl.length) : bx (day pl ss 0).2 (mv pl ss s) = bx ss s := by
  have hc := cu_lt pl h0
  unfold mv
  by_cases h : s ∈ chn pl ss 0
  · obtain ⟨a, b, c⟩ := chn_cu hP h h0
    rw [if_pos h, day_at hs (j := cu pl s) (by omega), if_pos a]
    unfold nxt
    rw [if_pos b, c]
  · rw [if_neg h, day_at hs h1, if_neg h]
/-- the order behind the day -/
def dayL (pl ss : List Int) (L : List Nat) : List Nat := L.tail.map (mv pl ss) ++ [lst pl ss 0]
theorem ord_head {pl ss : List Int} (hs : ss.length = pl.length + 1) (ho : Ord pl ss) {L : List Nat} (hL : IsOrd ss L) : ∃ R, L = 0 :: R ∧ ∀ k ∈ R, 0 < k ∧ k ≤ pl.length := by
  have low : ∀ k, k ≤ pl.length → bx ss ((0 : Nat) : Int) ≤ bx ss k := by
    intro k
    induction k using Nat.strongRecOn with
    | ind k ih =>
      intro hk
      by_cases h : 0 < k
      · have hc := cu_lt pl h
        have h1 := ih _ hc (by omega)
        have h2 := ho k h hk
        omega
      · have e : k = 0 := by omega
        rw [e]
        exact Int.le_refl _
  cases L with
  | nil => exact absurd ((hL.mem 0).mpr (by omega)) (by simp)
  | cons x R =>
    obtain ⟨a1, a2⟩ := List.pairwise_cons.mp hL.inc
    have hx : x = 0 := by
      rcases List.mem_cons.mp ((hL.mem 0).mpr (by omega)) with z | z
      · exact z.symm
      · have := a1 0 z
        have := low x (by have := (hL.mem x).mp List.mem_cons_self; omega)
        omega
    refine ⟨R, by rw [hx], fun k hk => ?_⟩
    have := (hL.mem k).mp (List.mem_cons_of_mem _ hk)
    have := a1 k hk
    rw [hx] at this
    refine ⟨?_, by omega⟩
    by_cases z : k = 0
    · rw [z] at this
      omega
    · omega
theorem dayL_ord {pl ss : List Int} (hP : Plant pl) (hs : ss.length = pl.length + 1) (ho : Ord pl ss) {L : List Nat} (hL : IsOrd ss L) : IsOrd (day pl ss 0).2 (dayL pl ss L) := by
  obtain ⟨R, rfl, hR⟩ := ord_head hs ho hL
  obtain ⟨l1, l2, l3⟩ := lst_chn (ss := ss) _ 0 rfl
  have lle := chn_le _ 0 rfl (Nat.zero_le _) _ l1
  have hln : (day pl ss 0).2.length = pl.length + 1 := by
    have z := (go_ok hs _ ss [] 0 (bx ss ((0 : Nat) : Int)) rfl (Nat.zero_le _) (Row.start (pl := pl) (ss := ss) (c := 0) (by omega))).1
    show (go pl ss ss [] 0).2.length = _
    rw [z, hs]
  have enew : bx (day pl ss 0).2 (lst pl ss 0) = mxv ss + 1 := by
    rw [day_at hs lle.2, if_pos l1]
    unfold nxt
    rw [if_neg l2]
  refine ⟨fun k => ?_, ?_⟩
  · rw [hln]
    unfold dayL
    rw [List.tail_cons, List.mem_append, List.mem_singleton, List.mem_map]
    constructor
    · rintro (⟨s, hsR, rfl⟩ | rfl)
      · obtain ⟨a, b⟩ := hR s hsR
        unfold mv
        have := cu_lt pl a
        split <;> omega
      · omega
    · intro hk
      by_cases hc : k ∈ chn pl ss 0
      · by_cases hg : gives pl ss k
        · left
          have hd : k < bst pl ss k ∧ bst pl ss k ≤ pl.length := hg
          refine ⟨bst pl ss k, ?_, ?_⟩
          · rcases List.mem_cons.mp ((hL.mem (bst pl ss k)).mpr (by omega)) with z | z
            · omega
            · exact z
          · unfold mv
            rw [if_pos (chn_down _ 0 rfl k hc hg), gives_cu hP hg]
        · exact .inr (l3 k hc hg)
      · left
        refine ⟨k, ?_, ?_⟩
        · rcases List.mem_cons.mp ((hL.mem k).mpr (by omega)) with z | z
          · rw [z] at hc
            exact absurd (chn_self 0) hc
          · exact z
        · unfold mv
          rw [if_neg hc]
  · unfold dayL
    rw [List.tail_cons]
    obtain ⟨a1, a2⟩ := List.pairwise_cons.mp hL.inc
    refine List.pairwise_append.mpr ⟨?_, List.pairwise_singleton .., fun x hx y hy => ?_⟩
    · rw [List.pairwise_map]
      refine a2.imp_of_mem fun {a b} ha hb h => ?_
      obtain ⟨a3, a4⟩ := hR a ha
      obtain ⟨b3, b4⟩ := hR b hb
      rw [mv_bx hP hs a3 a4, mv_bx hP hs b3 b4]
      exact h
    · rw [List.mem_singleton.mp hy, enew]
      obtain ⟨s, hsR, rfl⟩ := List.mem_map.mp hx
      obtain ⟨a3, a4⟩ := hR s hsR
      rw [mv_bx hP hs a3 a4]
      exact mxv_lt (by omega)
theorem fmap_none {α β : Type} {f : α → Option β} : ∀ {l : List α}, (∀ x ∈ l, f x = none) → l.filterMap f = []
  | [], _ => rfl
  | x :: l, h => by rw [List.filterMap_cons_none (h x List.mem_cons_self), fmap_none fun y hy => h y (List.mem_cons_of_mem _ hy)]
theorem fmap_congr {α β : Type} {f g : α → Option β} : ∀ {l : List α}, (∀ x ∈ l, f x = g x) → l.filterMap f = l.filterMap g
  | [], _ => rfl
  | x :: l, h => by
    have e := h x List.mem_cons_self
    have ih := fmap_congr (l := l) fun y hy => h y (List.mem_cons_of_mem _ hy)
    cases q : g x with
    | none => rw [List.filterMap_cons_none (e.trans q), List.filterMap_cons_none q, ih]
    | some b => rw [List.filterMap_cons_some (e.trans q), List.filterMap_cons_some q, ih]
theorem br_mv {pl ss : List Int} (hP : Plant pl) {v s : Nat} (h0 : 0 < s) (hne : ¬ (s ∈ chn pl ss 0 ∧ cu pl s = v)) : br pl v (mv pl ss s) = br pl v s := by
  unfold mv
  by_cases h : s ∈ chn pl ss 0
  · rw [if_pos h, br_pos pl v h0, if_neg fun z => hne ⟨h, z⟩]
  · rw [if_neg h]
theorem dayL_out {pl ss : List Int} (hP : Plant pl) (hs : ss.length = pl.length + 1) (ho : Ord pl ss) {L : List Nat} (hL : IsOrd ss L) {v : Nat} (hv : v ∉ chn pl ss 0) : wd pl (dayL pl ss L) v = wd pl L v := by
  obtain ⟨R, rfl, hR⟩ := ord_head hs ho hL
  unfold wd dayL
  rw [List.tail_cons, List.filterMap_append, List.filterMap_map, List.filterMap_cons_none (br_zero pl v)]
  have e : [lst pl ss 0].filterMap (br pl v) = [] := fmap_none fun x hx => by
    rw [List.mem_singleton.mp hx]
    exact chn_out hP hv _ (lst_chn _ 0 rfl).1
  rw [e, List.append_nil]
  refine fmap_congr fun s hsR => ?_
  obtain ⟨a, b⟩ := hR s hsR
  refine br_mv hP a fun ⟨z, y⟩ => hv ?_
  rw [← y]
  exact (chn_cu hP z a).1
theorem dayL_in {pl ss : List Int} (hP : Plant pl) (hs : ss.length = pl.length + 1) (ho : Ord pl ss) {L : List Nat} (hL : IsOrd ss L) {v : Nat} (hv : v ∈ chn pl ss 0) (hg : gives pl ss v) :
    ∃ W, wd pl L v = bst pl ss v :: W ∧ wd pl (dayL pl ss L) v = W ++ [bst pl ss v] := by
  obtain ⟨R, rfl, hR⟩ := ord_head hs ho hL
  have hd : v < bst pl ss v ∧ bst pl ss v ≤ pl.length := hg
  have hcu := gives_cu hP hg
  have hbc := chn_down _ 0 rfl v hv hg
  have hmR : bst pl ss v ∈ R := by
    rcases List.mem_cons.mp ((hL.mem (bst pl ss v)).mpr (by omega)) with z | z
    · omega
    · exact z
  obtain ⟨A, B, rfl⟩ := List.append_of_mem hmR
  obtain ⟨_, a2⟩ := List.pairwise_cons.mp hL.inc
  obtain ⟨p1, p2, p3⟩ := List.pairwise_append.mp a2
  have hA : ∀ s ∈ A, br pl v s = none := fun s hsA => by
    cases e : br pl v s with
    | none => rfl
    | some t =>
      obtain ⟨s0, s1⟩ := hR s (List.mem_append_left _ hsA)
      obtain ⟨t0, t1, t2, _⟩ := br_some s e
      have h1 := br_ord ho s s1 e
      have h2 := (gives_of (ss := ss) hP t0 (by omega)).2
      rw [t2] at h2
      have h3 := p3 s hsA _ List.mem_cons_self
      omega
  have hu : br pl v (bst pl ss v) = some (bst pl ss v) := by
    rw [br_pos pl v (by omega), if_pos hcu]
  obtain ⟨q1, q2⟩ := List.pairwise_cons.mp p2
  refine ⟨B.filterMap (br pl v), ?_, ?_⟩
  · unfold wd
    rw [List.filterMap_cons_none (br_zero pl v), List.filterMap_append, fmap_none hA, List.filterMap_cons_some hu]
    rfl
  · unfold wd dayL
    rw [List.tail_cons, List.filterMap_append, List.filterMap_map, List.filterMap_append]
    have e1 : A.filterMap (br pl v ∘ mv pl ss) = [] := fmap_none fun s hsA => by
      obtain ⟨s0, s1⟩ := hR s (List.mem_append_left _ hsA)
      show br pl v (mv pl ss s) = none
      have hne : ¬ (s ∈ chn pl ss 0 ∧ cu pl s = v) := fun ⟨_, y⟩ => by
        have z2 := hA s hsA
        rw [br_pos pl v s0, if_pos y] at z2
        cases z2
      rw [br_mv hP s0 hne]
      exact hA s hsA
    have e2 : (br pl v ∘ mv pl ss) (bst pl ss v) = none := by
      show br pl v (mv pl ss (bst pl ss v)) = none
      unfold mv
      rw [if_pos hbc, hcu]
      cases e : br pl v v with
      | none => rfl
      | some t =>
        have := br_some v e
        omega
    have e3 : B.filterMap (br pl v ∘ mv pl ss) = B.filterMap (br pl v) := fmap_congr fun s hsB => by
      obtain ⟨s0, s1⟩ := hR s (List.mem_append_right _ (List.mem_cons_of_mem _ hsB))
      refine br_mv hP s0 fun ⟨z, y⟩ => ?_
      obtain ⟨_, _, c⟩ := chn_cu hP z s0
      rw [y] at c
      have := q1 s hsB
      rw [c] at this
      omega
    have e4 : [lst pl ss 0].filterMap (br pl v) = [bst pl ss v] := by
      rw [List.filterMap_cons_some (lst_br hP _ 0 rfl v hv hg)]
      rfl
    rw [e1, List.filterMap_cons_none e2, e3, e4]
    rfl

/-! ### the greatest station whose box is older than its customer's -/
def ldis (pl ss : List Int) : Nat → Nat
  | 0 => 0
  | m + 1 => if bx ss ((m + 1 : Nat) : Int) < bx ss ((cu pl (m + 1) : Nat) : Int) then m + 1 else ldis pl ss m
theorem ldis_ord {pl ss : List Int} (h : Ord pl ss) : ∀ m, m ≤ pl.length → ldis pl ss m = 0
  | 0, _ => rfl
  | m + 1, hm => by
    have := h (m + 1) (by omega) hm
    unfold ldis
    rw [if_neg (by omega)]
    exact ldis_ord h m (by omega)
theorem ord_ldis {pl ss : List Int} (hs : ss.length = pl.length + 1) (hn : ss.Nodup) : ∀ m, m ≤ pl.length → ldis pl ss m = 0 → ∀ k : Nat, 0 < k → k ≤ m → bx ss (cu pl k) < bx ss k
  | 0, _, _ => fun k a b => by omega
  | m + 1, hm, h => by
    unfold ldis at h
    intro k k0 k1
    by_cases c : bx ss ((m + 1 : Nat) : Int) < bx ss ((cu pl (m + 1) : Nat) : Int)
    · rw [if_pos c] at h
      omega
    · rw [if_neg c] at h
      by_cases e : k = m + 1
      · subst e
        have hc := cu_lt pl (k := m + 1) (by omega)
        have hne : bx ss ((cu pl (m + 1) : Nat) : Int) ≠ bx ss ((m + 1 : Nat) : Int) := fun z => by
          have := bx_inj hn (by omega) (by omega) z
          omega
        omega
      · exact ord_ldis hs hn m (by omega) h k k0 (by omega)
/-! ### a box's way up, letter by letter -/
theorem br_path {pl : List Int} {s : Nat} (h0 : 0 < s) : ∀ h, s ∈ path pl h → br pl (cu pl s) h = some s := by
  intro h
  induction h using Nat.strongRecOn with
  | ind h ih =>
    intro hs
    by_cases hz : 0 < h
    · rw [path_pos pl hz] at hs
      rw [br_pos pl _ hz]
      rcases List.mem_cons.mp hs with e | e
      · rw [e, if_pos rfl]
      · have c := cu_lt pl hz
        have c2 := cu_lt pl h0
        have l := path_le pl _ _ e
        rw [if_neg (by omega)]
        exact ih _ c e
    · have e : h = 0 := by omega
      rw [e, path_zero] at hs
      have := List.mem_singleton.mp hs
      omega
theorem path_br {pl : List Int} {v t : Nat} : ∀ h, br pl v h = some t → t ∈ path pl h := by
  intro h
  induction h using Nat.strongRecOn with
  | ind h ih =>
    intro e
    by_cases hz : 0 < h
    · rw [br_pos pl v hz] at e
      rw [path_pos pl hz]
      by_cases c : cu pl h = v
      · rw [if_pos c] at e
        cases e
        exact List.mem_cons_self
      · rw [if_neg c] at e
        exact List.mem_cons_of_mem _ (ih _ (cu_lt pl hz) e)
    · have z : h = 0 := by omega
      rw [z, br_zero] at e
      cases e
theorem path_up {pl : List Int} {s : Nat} : ∀ h, s ∈ path pl h → 0 < s → cu pl s ∈ path pl h := by
  intro h
  induction h using Nat.strongRecOn with
  | ind h ih =>
    intro hs h0
    have hz : 0 < h := by have := path_le pl h s hs; omega
    rw [path_pos pl hz] at hs ⊢
    rcases List.mem_cons.mp hs with e | e
    · rw [e]
      exact List.mem_cons_of_mem _ (List.mem_of_getElem? (path_head pl _))
    · exact List.mem_cons_of_mem _ (ih _ (cu_lt pl hz) e h0)
theorem path_gap {pl : List Int} {s t : Nat} : ∀ h, s ∈ path pl h → t ∈ path pl h → cu pl s < t → t ≤ s → t = s := by
  intro h
  induction h using Nat.strongRecOn with
  | ind h ih =>
    intro hs ht h1 h2
    by_cases hz : 0 < h
    · rw [path_pos pl hz] at hs ht
      rcases List.mem_cons.mp hs with e | e <;> rcases List.mem_cons.mp ht with y | y
      · rw [e, y]
      · have := path_le pl _ _ y
        rw [e] at h1
        omega
      · have := path_le pl _ _ e
        have := cu_lt pl hz
        omega
      · exact ih _ (cu_lt pl hz) e y h1 h2
    · have z : h = 0 := by omega
      rw [z, path_zero] at hs ht
      rw [List.mem_singleton.mp hs, List.mem_singleton.mp ht]
/-- what v has got of the box at h when its way up has come to s -/
def upto (pl : List Int) (h s v : Nat) : List Nat := match br pl v h with
  | some t => if s < t then [t] else []
  | none => []
theorem upto_start (pl : List Int) (h v : Nat) : upto pl h h v = [] := by
  unfold upto
  cases e : br pl v h with
  | none => rfl
  | some t =>
    have := br_some h e
    exact if_neg (by omega)
theorem upto_end (pl : List Int) (h v : Nat) : upto pl h 0 v = (br pl v h).toList := by
  unfold upto
  cases e : br pl v h with
  | none => rfl
  | some t =>
    have := br_some h e
    exact if_pos (by omega)
theorem upto_step {pl : List Int} {h s v : Nat} (h0 : 0 < s) (hs : s ∈ path pl h) : upto pl h (cu pl s) v = if v = cu pl s then upto pl h s v ++ [s] else upto pl h s v := by
  have hc := cu_lt pl h0
  unfold upto
  by_cases c : v = cu pl s
  · subst c
    rw [br_path h0 h hs, if_pos rfl]
    show (if cu pl s < s then [s] else []) = (if s < s then [s] else []) ++ [s]
    rw [if_pos hc, if_neg (Nat.lt_irrefl _)]
    rfl
  · rw [if_neg c]
    cases e : br pl v h with
    | none => rfl
    | some t =>
      have ht := path_br h e
      obtain ⟨t0, t1, t2, t3⟩ := br_some h e
      show (if cu pl s < t then [t] else []) = if s < t then [t] else []
      by_cases y : s < t
      · rw [if_pos y, if_pos (by omega)]
      · rw [if_neg y]
        by_cases z : cu pl s < t
        · have := path_gap h hs ht z (by omega)
          rw [this] at t2
          exact absurd t2.symm c
        · rw [if_neg z]
theorem wd_take {pl : List Int} {L : List Nat} {i h : Nat} (v : Nat) (e : L[i]? = some h) : wd pl (L.take (i + 1)) v = wd pl (L.take i) v ++ upto pl h 0 v := by
  unfold wd
  rw [List.take_add_one, e, List.filterMap_append, upto_end]
  congr 1
theorem wd_len (pl : List Int) (L : List Nat) (v : Nat) : (wd pl L v).length ≤ L.length := List.length_filterMap_le ..
def natI (ws : List Nat) : List Int := ws.map fun k : Nat => (k : Int)
theorem natI_app (a b : List Nat) : natI (a ++ b) = natI a ++ natI b := List.map_append
theorem natI_len (a : List Nat) : (natI a).length = a.length := List.length_map ..
theorem natI_count (u : Nat) : ∀ ws : List Nat, (natI ws).count (u : Int) = ws.count u
  | [] => rfl
  | w :: ws => by
    have ih := natI_count u ws
    show ((w : Int) :: natI ws).count (u : Int) = _
    rw [List.count_cons, List.count_cons, ih]
    congr 1
    by_cases c : w = u
    · subst c
      simp
    · have c2 : ¬ (w : Int) = (u : Int) := by omega
      simp [c, c2]
end PT


set_option maxHeartbeats 4000000
/-! ordered or not -/
namespace PT
open PySem PySem.Spec PyProof.Rows L2
section
variable {P : Program} {w : World} {K : PySem.W.Frag} {mg : Str → Option Value} {base : Heap}
def spLast (K : PySem.W.Frag) : Sp := fun vs H Q _ => ∃ (p b : Addr) (pl ss : List Int), vs = [.ref p, .ref b] ∧ PlantAt H p pl ∧ (SqL K H b (ss.map V.int) ∨ SqT K H b (ss.map V.int)) ∧ ss.length = pl.length + 1 ∧
  (ldis pl ss pl.length = 0 → Q .non H) ∧ ∀ k, ldis pl ss pl.length = k + 1 → ∀ t, H t = none → Q (.ref t) (upd H t (.tup [.int ((cu pl (k + 1) : Nat) : Int), .int ((k + 1 : Nat) : Int)]))
def spCheckOrdered (K : PySem.W.Frag) : Sp := fun vs H Q _ => ∃ (p b : Addr) (pl ss : List Int), vs = [.ref p, .ref b] ∧ PlantAt H p pl ∧ (SqL K H b (ss.map V.int) ∨ SqT K H b (ss.map V.int)) ∧ ss.length = pl.length + 1 ∧ Ord pl ss ∧ Q .non H
end
end PT


set_option maxHeartbeats 4000000
/-! the lists of suppliers, the sizes -/
namespace PT
open PySem PySem.Spec PyProof.Rows L2

section
variable {P : Program} {w : World} {K : PySem.W.Frag} {mg : Str → Option Value} {base : Heap}
def spLists : Sp := fun vs H Q _ => ∃ p pl, vs = [.ref p] ∧ PlantAt H p pl ∧ ∀ H' l as, ListsAt H H' l as pl pl.length → Q (.ref l) H'
theorem ok_lists (T : Tx K mg) : FnOk P w K mg base CX0 1 T.f_supplier_lists T.d_supplier_lists ["plant"] spLists := by
  refine T.F_supplier_lists.ok scSupplierLists (fun vs H Q E h => ?_) (fun cdv A outer s H vs Q E hr h => ?_)
  · obtain ⟨p, pl, rfl, _⟩ := h
    rfl
  · obtain ⟨p, pl, rfl, hP, q⟩ := h
    have hlen := hP.ok.len
    have hT : SqT K H p (pl.map V.int) := hP.seq
    refine ⟨_, pss_cons (ps_setLc (i := 1) (own := [("station", 4)]) (g := gName 4) (tt := tYes) (by rfl) scSupplierLists.nd rfl rfl (sw_true rfl rfl rfl (by decide +kernel))
        (pi_range1 rfl T.n_range (pa_cons (pe_op op_add (pe_callB call_len_seq (by rfl) T.n_len PySem.boot_len (pa_cons (pv 0) pa_nil)) pe_int) pa_nil)) (blkOk_by (N := ["plant", "lists", "at", "above", "station"]) (sc := defScope sSupplierLists) (by decide +kernel))
        (fun _ _ _ _ _ => pg_name (i := 4) scSupplierLists.nd rfl (Or.inl rfl)) (fun _ _ _ _ _ => pts_nil) (fun _ _ _ _ _ => pe_lst pa_nil))
      (pss_cons (ps_for PassesOwn.never rfl (pi_E (by rfl) T.n_enumerate (pa_cons (pv 0) pa_nil))
        (pg_tup rfl (pgs_cons (pg_name (i := 2) scSupplierLists.nd rfl (.inl rfl)) (pgs_cons (pg_name (i := 3) scSupplierLists.nd rfl (.inl rfl)) pgs_nil)))
        (pss_one (ps_expr (pe_bm PySem.F.plainAttrs_list PySem.F.slot_list_append PySem.F.type_list_append mt_append (pe_ix ix_list (pv 1) (pv 3) (fun _ _ => rfl)) (pa_cons (pe_op op_add (pv 2) pe_int) pa_nil)))))
      (pss_one (ps_ret (pv 1)))), ?_⟩
    -- lists = [[] for ..]
    refine ⟨.ref p, rfl, p, pl.map V.int, rfl, .inr hT, _, 1, rfl, rfl, ((pl.length + 1 : Nat) : Int), ?_, by omega, by omega, ?_⟩
    · rw [List.length_map]
      rfl
    rw [Int.toNat_natCast]
    intro D nD
    refine lc_range (lo := 0) (n := pl.length + 1) (fun i H' => ∃ as : List Addr, Same H H' ∧ H' D = some (.lst (as.map V.ref)) ∧ as.length = i ∧ (∀ a ∈ as, H a = none) ∧ D ∉ as ∧ as.Nodup ∧ ∀ a ∈ as, H' a = some (.lst []))
      ⟨[], same_new nD, upd_same, rfl, fun _ z => absurd z (by simp), by simp, List.nodup_nil, fun _ z => absurd z (by simp)⟩ (fun i H1 hi p1 => ?_) (fun H1 p1 => ?_)
    · obtain ⟨as, sm, eD, la, na, oa, nda, ha⟩ := p1
      refine ⟨rfl, tyes_if ⟨Nat.zero_le _, fun c nc => ⟨_, upd_at eD nc, ?_, as ++ [c], ?_, ?_, ?_, ?_, ?_, ?_, ?_⟩⟩⟩
      · rw [List.length_map, la]
        exact small300 (by omega)
      · intro b o hb
        rw [upd_ne (ne_of_none hb nD)]
        exact same_new nc _ _ (sm _ _ hb)
      · rw [upd_same, List.map_append]
        rfl
      · rw [List.length_append, la]
        rfl
      · intro a hm
        rcases List.mem_append.mp hm with z | z
        · exact na a z
        · rw [List.mem_singleton.mp z]
          exact sm.free nc
      · intro hm
        rcases List.mem_append.mp hm with z | z
        · exact oa z
        · exact ne_of_none eD nc (List.mem_singleton.mp z)
      · refine List.nodup_append.mpr ⟨nda, List.nodup_cons.mpr ⟨fun z => (by cases z), List.nodup_nil⟩, fun a hm b hb => ?_⟩
        rw [List.mem_singleton.mp hb]
        exact ne_of_none (ha a hm) nc
      · intro a hm
        rcases List.mem_append.mp hm with z | z
        · rw [upd_ne (show a ≠ D from fun e => oa (e ▸ z))]
          exact upd_at (ha a z) nc
        · rw [List.mem_singleton.mp z, upd_ne (Ne.symm (ne_of_none eD nc)), upd_same]
    · obtain ⟨as, sm, eD, la, na, oa, nda, ha⟩ := p1
      have L0 : ListsAt H H1 D as pl 0 := ⟨sm, nD, eD, la, na, oa, nda, fun j a e => ha a (List.mem_of_getElem? e)⟩
      -- for at, above in enumerate(plant)
      refine ⟨.ref p, rfl, p, pl.map V.int, rfl, seqT sm hT, ?_⟩
      refine for_it (walk_E (xs := pl.map V.int)) (fun i σ H2 => ∃ y2 y3, σ = [some (.ref p), some (.ref D), y2, y3, none] ∧ ListsAt H H2 D as pl i) ⟨none, none, rfl, L0⟩ (fun i σ H2 _ p2 => ?_) (fun i x σ H2 H3 hi p2 y => ?_) (fun σ H2 p2 => ?_)
      · obtain ⟨y2, y3, _, L⟩ := p2
        exact seqT L.sm hT
      · obtain ⟨y2, y3, rfl, L⟩ := p2
        obtain ⟨Tt, x1, x2, rfl, nT, rfl, e1, e2⟩ := y
        cases e1
        have hi2 : i < pl.length := by rw [List.length_map] at hi; exact hi
        obtain ⟨u, eu, rfl⟩ : ∃ u, pl[i]? = some u ∧ V.int u = x2 := by
          have z : (pl.map V.int)[i]? = some x2 := e2
          rw [List.getElem?_map] at z
          cases q2 : pl[i]? with
          | none => rw [q2] at z; cases z
          | some u => rw [q2] at z; cases z; exact ⟨u, rfl, rfl⟩
        obtain ⟨h0, h1⟩ := hP.ok.ok i u eu
        obtain ⟨j, rfl⟩ : ∃ j : Nat, u = (j : Int) := ⟨u.toNat, by omega⟩
        have hj : j < as.length := by rw [L.len]; omega
        have ej : as[j]? = some as[j] := List.getElem?_eq_getElem hj
        have sT : Same H2 (upd H2 Tt (.tup [.int (i : Nat), .int (j : Int)])) := same_new nT
        have hl2 : (upd H2 Tt (.tup [.int (i : Nat), .int (j : Int)])) D = some (.lst (as.map V.ref)) := sT _ _ L.hl
        have ha2 : (upd H2 Tt (.tup [.int (i : Nat), .int (j : Int)])) as[j] = some (.lst ((sup pl i j).map V.int)) := sT _ _ (L.at_ j _ ej)
        refine ⟨Tt, [.int (i : Nat), .int (j : Int)], rfl, .inl (.inl upd_same), rfl, _, _, rfl, _, _, rfl, rfl, ?_⟩
        refine ⟨.ref D, rfl, .int (j : Int), rfl, D, as.map V.ref, (j : Int), .ref as[j], rfl, rfl, .inl (.inl hl2), atI_nat (by rw [List.getElem?_map, ej]; rfl), .inl ⟨rfl, _, .inl (.inl ha2)⟩, .int (i : Nat), rfl, (i : Nat), 1, rfl, rfl, as[j], _, _, rfl, rfl, ha2, ?_, ?_⟩
        · rw [List.length_map]
          exact small300 (Nat.le_trans (sup_len pl i j) (by omega))
        · refine ⟨_, _, rfl, ?_⟩
          have hin : as[j] ∈ as := List.getElem_mem hj
          refine ⟨fun b o hb => ?_, L.nl, ?_, L.len, L.new, L.out, L.nd, fun k a e => ?_⟩
          · rw [upd_ne (ne_of_none hb (L.new _ hin))]
            exact sT _ _ (L.sm _ _ hb)
          · rw [upd_ne (show D ≠ as[j] from fun z => L.out (z ▸ hin))]
            exact hl2
          · rw [sup_step k eu]
            by_cases c : k = j
            · subst c
              have ea : as[k] = a := Option.some.inj (ej.symm.trans e)
              rw [if_pos rfl, ← ea, upd_same, List.map_append]
              rfl
            · have ne : a ≠ as[j] := fun z => c (by
                obtain ⟨hk, ek⟩ := List.getElem?_eq_some_iff.mp e
                exact (List.getElem_inj L.nd).mp (ek.trans z))
              rw [if_neg (by omega), upd_ne ne]
              exact sT _ _ (L.at_ k a e)
      · obtain ⟨y2, y3, rfl, L⟩ := p2
        rw [List.length_map] at L
        exact ⟨.ref D, rfl, q H2 D as L⟩

/-! ### the sizes -/
def spSizes : Sp := fun vs H Q _ => ∃ p pl, vs = [.ref p] ∧ PlantAt H p pl ∧ ∀ H' l, Same H H' → H l = none → H' l = some (.lst ((szs pl 0).map V.int)) → Q (.ref l) H'
end
end PT

set_option maxHeartbeats 4000000
/-! min(xs, key=lambda k: ys[k]), xs a list of stations -/
namespace PT
open PySem PySem.Spec PyProof.Rows L2 LamX NdefX
section
variable {prog : Program} {w : World} {A : Around} {E : Value → Shared → Prop} {s : Shared}
theorem min_key_list {l q : Addr} {vs : Array Value} {Q : Value → Shared → Prop} (k : Nat → Int) (hh : A.handled = none) (hl : s.heap.IsList l vs) (hn : 0 < vs.size)
    (turn : ∀ (i : Nat) (v : Value), vs[i]? = some v → ∀ (h : Heap) (tk : Nat), (∀ b o, s.heap.get? b = some o → h.get? b = some o) →
      wpAny (model prog w) A.in1 (call (.ref q) [v]) (fun r s' => ∃ h' tk', s' = { s with heap := h', toks := tk' } ∧ (∀ b o, h.get? b = some o → h'.get? b = some o) ∧ ∃ t', r = .int (k i) t') (fun _ _ => False) { s with heap := h, toks := tk })
    (fin : ∀ v h' tk', vs[argBest (fun i j => decide (k i < k j)) (vs.size - 1)]? = some v → (∀ b o, s.heap.get? b = some o → h'.get? b = some o) → Q v { s with heap := h', toks := tk' }) :
    wpAny (model prog w) A (call (.builtin "min") [.ref l] [(Str.ofString "key", .ref q)]) Q E s := by
  refine call_min_walkK (PySem.W.iter_listW (A := A.in1) (by simpa using hh) hl fun s₂ e W st hfp hw hk => ?_)
  refine ⟨_, _, _, _, _, _, _, (fun s' => ∃ h tk, s' = { s with heap := h, toks := tk } ∧ ∀ b o, s.heap.get? b = some o → h.get? b = some o), (fun i kv _ => ∃ t, kv = .int (k i) t), (fun i j => decide (k i < k j)), rfl, W, st, hfp, hn, ?_, ?_, ?_⟩
  · refine ⟨?_, fun _ _ _ _ h _ => h, ?_, ?_⟩
    · rintro a b ⟨h, tk, rfl, kp⟩ m
      refine ⟨b.heap, b.toks, ?_, fun c o eo => m.heap c o (fun hc => ?_) (kp c o eo)⟩
      · obtain ⟨hp, g, d, t2, os⟩ := b
        have h1 : g = s.gens := m.gens
        have h2 : d = s.drawn := m.drawn
        have h3 : os = s.os := m.os
        subst h1 h2 h3
        rfl
      · have lt := Heap.lt_size eo
        rcases List.mem_cons.mp hc with z | z
        · have l2 : s.heap.objs.size ≤ s₂.heap.objs.size := by
            rw [e]
            show _ ≤ (s.heap.push _).objs.size
            rw [Heap.size_push]
            exact Nat.le_succ _
          rw [z] at lt
          exact absurd lt (Nat.not_lt.mpr l2)
        · rw [List.mem_singleton.mp z] at lt
          exact absurd lt (Nat.lt_irrefl _)
    · rintro i v a o Q2 E2 hi hP ⟨h, tk, rfl, kp⟩ hst hS q2
      refine wpAny_mono (turn i v hP h tk kp) (fun r s' z => ?_) fun _ _ (z : False) => False.elim z
      obtain ⟨h', tk', rfl, kp', t', rfl⟩ := z
      exact q2 _ _ ⟨h', tk', rfl, fun b o eo => kp' b o (kp b o eo)⟩ ⟨hst.1.at fun o q => kp' _ o q, hst.2.at fun o q => kp' _ o q⟩ (kp' _ _ hS) ⟨t', rfl⟩ fun _ _ z => z
    · rintro i j ki kj a Q2 E2 _ ⟨t, rfl⟩ ⟨t2, rfl⟩ q2
      exact CmpOf.ints_lt (P := fun i v => ∃ t, v = .int (k i) t) k (fun i v h => h) i j _ _ _ _ _ ⟨t, rfl⟩ ⟨t2, rfl⟩ q2
  · subst e
    exact ⟨_, _, rfl, hk⟩
  · rintro v s' hP ⟨h, tk, rfl, kp⟩
    exact fin v h tk hP kp
end
end PT
namespace PT
open PySem PySem.Spec PyProof.Rows L2 LamX NdefX
/-- the first station with the least number -/
def minK (js : List Nat) (f : Nat → Int) : Nat := js.getD (argBest (fun i j => decide (f (js.getD i 0) < f (js.getD j 0))) (js.length - 1)) 0
theorem extN_seqL {K : PySem.W.Frag} {H H' : Hp} (e : ExtN H H') {a : Addr} {xs : List V} (h : SqL K H a xs) : SqL K H' a xs := by
  rcases h with (h | ⟨o, h⟩) | h
  · exact .inl (.inl (e _ _ h fun ps z => by cases z))
  · exact .inl (.inr ⟨o, e _ _ h fun ps z => by cases z⟩)
  · exact .inr h
def tMinLam (K : PySem.W.Frag) (T : List (Addr × Str)) (j : Nat) (ta : TA) : TE := fun σ H Q => ta σ H fun vs H1 => ∃ (p a : Addr) (js : List Nat) (ns : List Int), vs = [.ref p] ∧ SqL K H1 p (js.map fun k : Nat => V.int (k : Int)) ∧ js ≠ [] ∧ σ[j]? = some (some (.ref a)) ∧ (SqL K H1 a (ns.map V.int) ∨ SqT K H1 a (ns.map V.int)) ∧ (∀ k ∈ js, k < ns.length) ∧ Tabs T H1 ∧
  ∀ (H2 : Hp), ExtN H1 H2 → Tabs T H2 → Q (.int (minK js fun k => ns.getD k 0 : Nat)) H2
theorem pe_minLam {X : Cx} {T : List (Addr × Str)} {c P : Addr} {j : Nat} {x y : Str} {e : Expr} {ta : TA} {params : Arguments} {scope : Scope} {p pos p1 p2 p3 lp kp : Pos} (TB : TabB X.base X.mg c P) (hcode : X.env.code = .ref c)
    (hmT : (P, X.env.qual ++ "<lambda>") ∈ T) (hu : ∀ z ∈ T, z.1 = P → z.2 = X.env.qual ++ "<lambda>") (room : Room 4 X.A) (hc : X.calm = true) (hg : Gl X "min") (hm : X.mg "min" = none) (ha : PA X [e] ta)
    (S : NScope [y, x] [y] [x] scope) (hj : X.N[j]? = some x) (hcell : X.env.scope.names.lookup x = some .cell ∨ X.env.scope.names.lookup x = some .free) (hfr : (x, NameKind.free) ∈ scope.names)
    (hb : ∀ (cl : List (Str × Addr)) (pm cdv ctv v : Value), bindArgs (PySem.W.kla_fn "<lambda>" (X.env.qual ++ "<lambda>") params (.Subscript (.Name x p1) (.Name y p2) p3) scope cl pm cdv ctv) ⟨[v], []⟩ = pure [(y, v)])
    (hdef : defaultsOf params X.env = ([], []))
    (dx : (x == ("__debug__" : Str)) = false := by decide) (cx : (x == ("__classdict__" : Str)) = false := by decide) (dy : (y == ("__debug__" : Str)) = false := by decide) (cy : (y == ("__classdict__" : Str)) = false := by decide)
    (na : backTo pos (starEach [e] X.env) = (false, eval e X.env) :: backTo pos (starEach [] X.env) := by rfl) (hpl : (backTo pos (starEach [e] X.env)).any (·.1) = false := by rfl) :
    PE X (.Call (.Name "min" p) [e] [⟨some "key", .Lambda params (.Subscript (.Name x p1) (.Name y p2) p3) scope lp, kp⟩] pos) (tMinLam X.K T j ta) := by
  refine ⟨fun pins s σ H Q I h => ?_⟩
  have hfree : ∀ z ∈ scope.names, z.2 = .free → X.env.scope.names.lookup z.1 = some .cell ∨ X.env.scope.names.lookup z.1 = some .free := fun z hz e => by
    have := S.free z hz e
    rw [List.mem_singleton.mp this]
    exact hcell
  have hfree2 : ∀ z ∈ scope.names, z.2 = .free → ∃ c, X.env.cells.lookup z.1 = some c := fun z hz e => (hfree z hz e).elim (fun q => I.ok.has _ (.inl q)) fun q => I.ok.has _ (.inr q)
  refine wpAny_Call_Name_kw (ld_blt I hg hm (show bootBuiltins (Str.ofString "min") = some (.builtin "min") by decide +kernel) ?_)
  refine PyProof.Rows.callWith_kw (thn (ha.run pos pins s σ H _ I h) fun us s1 ⟨vs, H1, I1, r1, q1⟩ => ?_) na hpl rfl rfl
  obtain ⟨r, a, js, ns, rfl, hr, hne, hs, hq, hlt, hT, q⟩ := q1
  obtain rfl := Vals.ref1 r1
  refine wpAny_evalAll_cons (wpAny_bind (lam_make2 I1 TB hcode hmT hu hT hdef hfree2 fun f c' pm ctv H2 s2 I2 ex tb hf hfn hfr2 hco => wpAny_bind (wpAny_standAt (wpAny_pure ?_))))
  refine wpAny_evalAll_nil ?_
  have hq2 := ExtN.seq ex hq
  obtain ⟨its, rv, pl, hz⟩ := I2.list (extN_seqL ex hr)
  obtain ⟨⟨oc, vs2, t2, h1, h2, h3⟩, _, _⟩ := I2.hok c' _ hco
  have hlen := rv.length
  rw [List.length_map] at hlen
  have hpos : 0 < js.length := List.length_pos_iff.mpr hne
  have at_ : ∀ (i : Nat) (v : Value), its.toArray[i]? = some v → i < js.length ∧ ∃ t, v = .int ((js.getD i 0 : Nat) : Int) t := fun i v e => by
    have e1 : its[i]? = some v := by simpa using e
    have hi : i < js.length := by
      have := (List.getElem?_eq_some_iff.mp e1).1
      omega
    obtain ⟨u, eu, ru⟩ := rv.get (i := i) (x := .int ((js.getD i 0 : Nat) : Int)) (by
      rw [List.getElem?_map, List.getElem?_eq_getElem hi, List.getD_eq_getElem?_getD, List.getElem?_eq_getElem hi]
      rfl)
    obtain rfl := Option.some.inj (eu.symm.trans e1)
    obtain ⟨t, rfl⟩ := ru
    exact ⟨hi, t, rfl⟩
  refine min_key_list (fun i => ns.getD (js.getD i 0) 0) (I2.ok.hd hc) pl.isList (by rw [List.size_toArray]; omega) (fun i v hv h tk kp => ?_) fun v h' tk hv kp => ?_
  · obtain ⟨hi, t, rfl⟩ := at_ i v hv
    have I3 : Inv X pins σ H2 { s2 with heap := h, toks := tk } := I2.kept kp
    have C := cells_of I3 (Caps.made (fr := [x]) (js := [j]) I3.ok hfree (fun z hz => by rw [List.mem_singleton.mp hz]; exact hfr) (by rw [List.map_cons, hj]; rfl))
    rw [List.map_cons, slotAt_of hs] at C
    have hm2 : js.getD i 0 ∈ js := by
      rw [List.getD_eq_getElem?_getD, List.getElem?_eq_getElem hi]
      exact List.getElem_mem hi
    have hk : ns[js.getD i 0]? = some (ns.getD (js.getD i 0) 0) := by
      rw [List.getD_eq_getElem?_getD (l := ns), List.getElem?_eq_getElem (hlt _ hm2)]
      rfl
    refine wpAny_mono (key_call (m := 2) I3 I3.env0.in1 room.in1 S C (kp _ _ hf) ⟨c', oc, vs2, t2, rfl, kp _ _ h1, h2, h3⟩ (hb _ _ _ _) hq2 hk dx cx dy cy) (fun r2 s' z => ?_) fun _ _ z => z
    obtain ⟨h4, tk4, rfl, kp4, t', rfl⟩ := z
    exact ⟨h4, tk4, rfl, kp4, t', rfl⟩
  · obtain ⟨hi, t, rfl⟩ := at_ _ v hv
    refine ⟨.int (minK js fun k => ns.getD k 0 : Nat), H2, I2.kept kp, ⟨t, ?_⟩, q H2 ex tb⟩
    unfold minK
    rw [List.size_toArray, ← hlen]
/-! ### the oldest box -/
theorem minK_bst {pl ss : List Int} (hP : Plant pl) {v : Nat} {js : List Nat} (e : (js.map fun k : Nat => (k : Int)) = sup pl pl.length v) (hne : js ≠ []) : minK js (fun k => ss.getD k 0) = bst pl ss v := by
  obtain ⟨x, xs, rfl⟩ := List.exists_cons_of_ne_nil hne
  have e2 : sup pl pl.length v = (x : Int) :: xs.map fun k : Nat => (k : Int) := e.symm
  obtain ⟨b1, _⟩ := bst_cons (ss := ss) hP e2
  have f := (PySem.W.argBest_fold (fun a b : Nat => decide (ss.getD a 0 < ss.getD b 0)) 0 x xs xs.length (Nat.le_refl _)).2
  rw [List.take_length] at f
  have g : minK (x :: xs) (fun k => ss.getD k 0) = xs.foldl (fun a y => if decide (ss.getD y 0 < ss.getD a 0) = true then y else a) x := f
  have h : ∀ (l : List Nat) (b : Nat), pickB ss (b : Int) (l.map fun k : Nat => (k : Int)) = ((l.foldl (fun a y => if decide (ss.getD y 0 < ss.getD a 0) = true then y else a) b : Nat) : Int) := by
    intro l
    induction l with
    | nil => intro b; rfl
    | cons y l ih =>
      intro b
      have z : pickB ss (b : Int) ((y :: l).map fun k : Nat => (k : Int)) = pickB ss (if bx ss (y : Int) < bx ss (b : Int) then (y : Int) else (b : Int)) (l.map fun k : Nat => (k : Int)) := rfl
      rw [z, List.foldl_cons]
      have e1 : bx ss (y : Int) = ss.getD y 0 := by unfold bx; rw [Int.toNat_natCast]
      have e2 : bx ss (b : Int) = ss.getD b 0 := by unfold bx; rw [Int.toNat_natCast]
      rw [e1, e2]
      by_cases c : ss.getD y 0 < ss.getD b 0
      · rw [if_pos c, if_pos (decide_eq_true c), ih]
      · rw [if_neg c, if_neg (by simpa using c), ih]
  have k1 : pickB ss (x : Int) ((x : Int) :: xs.map fun k : Nat => (k : Int)) = pickB ss (x : Int) (xs.map fun k : Nat => (k : Int)) := by
    show pickB ss (if bx ss (x : Int) < bx ss (x : Int) then (x : Int) else (x : Int)) _ = _
    rw [if_neg (Int.lt_irrefl _)]
  rw [k1, h] at b1
  rw [g]
  exact Int.ofNat.inj b1
end PT

set_option maxHeartbeats 4000000
/-! [plant, stock] and lists of small ints, shown -/
namespace PT
open PySem PySem.Spec PyProof.Rows L2
theorem nice_small {ns : List Int} (h : ∀ n ∈ ns, n.natAbs < 10 ^ 50) (hl : ns.length ≤ 300) : Nice (300 * 171) 1 (.list (ns.map PyData.int)) := nice_lst (nice_ints h) (by rw [List.length_map]; exact hl)
theorem nice_smallT {ns : List Int} (h : ∀ n ∈ ns, n.natAbs < 10 ^ 50) (hl : ns.length ≤ 300) : Nice (300 * 171) 1 (.tuple (ns.map PyData.int)) := nice_tup (nice_ints h) (by rw [List.length_map]; exact hl)
theorem StockOk.small {pl ss : List Int} (h : StockOk pl ss) : ∀ n ∈ ss, n.natAbs < 10 ^ 50 := fun n hn => by
  have := h.sm n hn
  omega
theorem Plant.smallI {pl : List Int} (h : Plant pl) : ∀ n ∈ pl, n.natAbs < 10 ^ 50 := fun n hn => by
  obtain ⟨i, hi⟩ := List.mem_iff_getElem?.mp hn
  have hl := h.len
  have z := h.ok i n hi
  have hi2 := (List.getElem?_eq_some_iff.mp hi).1
  omega
/-- [plant, stock] as data -/
def pairD (pl ss : List Int) : PyData := .list [.tuple (pl.map PyData.int), .tuple (ss.map PyData.int)]
theorem nice_pair {pl ss : List Int} (hP : Plant pl) (so : StockOk pl ss) : Nice (2 * (300 * 171 + 1)) 2 (pairD pl ss) := by
  have h1 := so.len
  have h2 := hP.len
  refine nice_lst (fun d hd => ?_) (show 2 ≤ 2 by omega)
  rcases List.mem_cons.mp hd with e | e
  · rw [e]
    exact nice_smallT hP.smallI (by omega)
  · rw [List.mem_singleton.mp e]
    exact nice_smallT so.small (by omega)
theorem rp_pair {K : PySem.W.Frag} {H : Hp} {t p q : Addr} {pl ss : List Int} (h : H t = some (.lst [.ref p, .ref q])) (hp : SqT K H p (pl.map V.int)) (hq : SqT K H q (ss.map V.int)) : Rp K H (.ref t) (pairD pl ss) :=
  .dp (.lst (.inl (.inl h)) (.cons (.tup hp (dp_ints _)) (.cons (.tup hq (dp_ints _)) .nil)))
end PT

set_option maxHeartbeats 4000000
/-! letters found by the ways up; stations sorted by their boxes -/
namespace PT
open PySem PySem.Spec PyProof.Rows L2
theorem path_ix {pl : List Int} {v : Nat} : ∀ o, v ∈ (path pl o).drop 1 → ∃ j t, 1 ≤ j ∧ (path pl o)[j]? = some v ∧ (∀ m z, m < j → (path pl o)[m]? = some z → z ≠ v) ∧ (path pl o)[j - 1]? = some t ∧ br pl v o = some t := by
  intro o
  induction o using Nat.strongRecOn with
  | ind o ih =>
    intro h
    by_cases h0 : 0 < o
    · have hc := cu_lt pl h0
      rw [path_pos pl h0] at h ⊢
      rw [br_pos pl v h0]
      have h1 : v ∈ path pl (cu pl o) := h
      by_cases e : cu pl o = v
      · refine ⟨1, o, Nat.le_refl _, ?_, fun m z hm hz => ?_, rfl, by rw [if_pos e]⟩
        · rw [← e]
          exact path_head pl _
        · have em : m = 0 := by omega
          subst em
          cases hz
          omega
      · have h2 : v ∈ (path pl (cu pl o)).drop 1 := by
          have ph := path_head pl (cu pl o)
          cases q : path pl (cu pl o) with
          | nil => rw [q] at ph; cases ph
          | cons a r =>
            rw [q] at ph h1
            cases ph
            rcases List.mem_cons.mp h1 with z | z
            · exact absurd z.symm e
            · exact z
        obtain ⟨j, t, a, b, c, d, f⟩ := ih _ hc h2
        refine ⟨j + 1, t, by omega, by simpa using b, fun m z hm hz => ?_, ?_, by rw [if_neg e]; exact f⟩
        · cases m with
          | zero =>
            have hv := path_le pl _ _ h1
            cases hz
            omega
          | succ m => exact c m z (by omega) (by simpa using hz)
        · obtain ⟨i, rfl⟩ : ∃ i, j = i + 1 := ⟨j - 1, by omega⟩
          simpa using d
    · have e : o = 0 := by omega
      subst e
      rw [path_zero] at h
      cases h
theorem path_none {pl : List Int} {v : Nat} : ∀ o, v ∉ (path pl o).drop 1 → br pl v o = none := by
  intro o
  induction o using Nat.strongRecOn with
  | ind o ih =>
    intro h
    by_cases h0 : 0 < o
    · have hc := cu_lt pl h0
      rw [path_pos pl h0] at h
      have h1 : v ∉ path pl (cu pl o) := h
      have ph := path_head pl (cu pl o)
      rw [br_pos pl v h0, if_neg (fun z => h1 (by rw [← z]; exact List.mem_of_getElem? ph))]
      exact ih _ hc fun z => h1 (List.mem_of_mem_drop z)
    · have e : o = 0 := by omega
      rw [e, br_zero]
/-- the pairs of box and station, the stations below i -/
def allP (ss : List Int) (i : Nat) : List (Int × Int) := (List.range i).map fun k : Nat => (bx ss k, (k : Int))
theorem allP_step (ss : List Int) (i : Nat) : allP ss (i + 1) = allP ss i ++ [(bx ss i, (i : Int))] := by
  unfold allP
  rw [List.range_succ, List.map_append]
  rfl
theorem allP_len (ss : List Int) (i : Nat) : (allP ss i).length = i := by
  unfold allP
  rw [List.length_map, List.length_range]
theorem allP_at (ss : List Int) {i k : Nat} (h : k < i) : (allP ss i)[k]? = some (bx ss k, (k : Int)) := by
  unfold allP
  rw [List.getElem?_map, List.getElem?_range h]
  rfl
def pairOf (G : Hp) : V → Int × Int
  | .ref t => match G t with
    | some (.tup [.int a, .int b]) => (a, b)
    | _ => (0, 0)
  | _ => (0, 0)
theorem pairOf_at {G : Hp} {t : Addr} {a b : Int} (h : G t = some (.tup [.int a, .int b])) : pairOf G (.ref t) = (a, b) := by
  simp only [pairOf, h]
theorem PairsAt.mem {G : Hp} {ss : List Int} {as : List Addr} {D : Addr} {n : Nat} (h : PairsAt G D as (allP ss n)) {y : V} (hy : y ∈ as.map V.ref) : ∃ t o, y = .ref t ∧ o < n ∧ G t = some (.tup [.int (bx ss (o : Nat)), .int (o : Nat)]) := by
  obtain ⟨a, ha, rfl⟩ := List.mem_map.mp hy
  obtain ⟨i, hi⟩ := List.mem_iff_getElem?.mp ha
  have hl := h.len
  rw [allP_len] at hl
  have hin := (List.getElem?_eq_some_iff.mp hi).1
  have ho : i < n := by omega
  exact ⟨a, i, rfl, ho, h.at_ i a _ hi (allP_at ss ho)⟩
theorem PairsAt.map {G : Hp} {ss : List Int} {as : List Addr} {D : Addr} {n : Nat} (h : PairsAt G D as (allP ss n)) : (as.map V.ref).map (fun y => (pairOf G y).2.toNat) = List.range n := by
  have hl := h.len
  rw [allP_len] at hl
  apply List.ext_getElem?
  intro i
  rw [List.getElem?_map, List.getElem?_map]
  by_cases hi : i < n
  · have ea : as[i]? = some (as[i]'(by omega)) := List.getElem?_eq_getElem _
    rw [ea, List.getElem?_range hi]
    show some ((pairOf G (.ref _)).2.toNat) = _
    rw [pairOf_at (h.at_ i _ _ ea (allP_at ss hi))]
    rfl
  · rw [List.getElem?_eq_none (by omega), List.getElem?_eq_none (by rw [List.length_range]; omega)]
    rfl
theorem sorted_ord {G : Hp} {ss : List Int} {as : List Addr} {D : Addr} (h : PairsAt G D as (allP ss ss.length)) (hn : ss.Nodup) {ys : List V} (h1 : SrtO.Srtd (ltP (pairOf G)) ys) (h2 : SrtO.Stb (ltP (pairOf G)) ys (as.map V.ref)) :
    ∃ L : List Nat, IsOrd ss L ∧ ys.length = L.length ∧ L.length = ss.length ∧ ∀ (i : Nat) (y : V), ys[i]? = some y → ∃ (t : Addr) (o : Nat), y = .ref t ∧ L[i]? = some o ∧ o < ss.length ∧ G t = some (.tup [.int (bx ss (o : Nat)), .int (o : Nat)]) := by
  have hp : (ys.map fun y => (pairOf G y).2.toNat).Perm (List.range ss.length) := by
    rw [← h.map]
    exact h2.perm.map _
  have nd : (ys.map fun y => (pairOf G y).2.toNat).Nodup := (hp.nodup_iff).mpr List.nodup_range
  refine ⟨ys.map fun y => (pairOf G y).2.toNat, ⟨fun k => ?_, ?_⟩, by rw [List.length_map], by rw [hp.length_eq, List.length_range], fun i y e => ?_⟩
  · exact hp.mem_iff.trans List.mem_range
  · rw [List.pairwise_map]
    have nd2 : ys.Pairwise fun a b => (pairOf G a).2.toNat ≠ (pairOf G b).2.toNat := List.pairwise_map.mp nd
    refine (h1.and nd2).imp_of_mem fun {a b} ha hb hab => ?_
    obtain ⟨t, o, rfl, o1, et⟩ := h.mem (h2.perm.mem_iff.mp ha)
    obtain ⟨t2, o2, rfl, o3, et2⟩ := h.mem (h2.perm.mem_iff.mp hb)
    obtain ⟨p1, p2⟩ := hab
    have p3 : SrtO.lexB (pairOf G (.ref t2)) (pairOf G (.ref t)) = false := p1
    have p4 := SrtO.lexB_no.mp p3
    rw [pairOf_at et, pairOf_at et2] at p2 p4 ⊢
    have p5 : o ≠ o2 := fun z => p2 (by rw [z])
    have p6 : bx ss (o : Nat) ≠ bx ss (o2 : Nat) := fun z => p5 (bx_inj hn o1 o3 z)
    show bx ss ((o : Int).toNat : Nat) < bx ss ((o2 : Int).toNat : Nat)
    rw [Int.toNat_natCast, Int.toNat_natCast]
    simp only at p4
    omega
  · obtain ⟨t, o, rfl, o1, et⟩ := h.mem (h2.perm.mem_iff.mp (List.mem_of_getElem? e))
    refine ⟨t, o, rfl, ?_, o1, et⟩
    rw [List.getElem?_map, e]
    show some ((pairOf G (.ref t)).2.toNat) = _
    rw [pairOf_at et]
    rfl
theorem inV_intsL (j : Int) : ∀ ns : List Int, inV (.int j) (ns.map V.int) = decide (j ∈ ns)
  | [] => by simp [inV]
  | n :: ns => by
    have ih := inV_intsL j ns
    have e : inV (.int j) ((n :: ns).map V.int) = (eqV (.int n) (.int j) || inV (.int j) (ns.map V.int)) := by
      unfold inV
      rw [List.map_cons, List.any_cons]
    rw [e, ih]
    have e2 : eqV (.int n) (.int j) = decide (n = j) := by
      by_cases q : n = j
      · rw [q]
        simp [eqV]
      · simp [eqV, q]
    rw [e2]
    by_cases q : n = j
    · simp [q]
    · have q2 : ¬ j = n := fun z => q z.symm
      simp [q, q2]
theorem natV_natI (ws : List Nat) : (natI ws).map V.int = natV ws := by
  unfold natI natV
  rw [List.map_map]
  rfl
theorem natI_mem {v : Nat} {ws : List Nat} : (v : Int) ∈ natI ws ↔ v ∈ ws := by
  unfold natI
  rw [List.mem_map]
  constructor
  · rintro ⟨k, hk, e⟩
    have : k = v := by omega
    rw [← this]
    exact hk
  · exact fun h => ⟨v, h, rfl⟩
theorem natV_at {ws : List Nat} {j v : Nat} (h : ws[j]? = some v) : (natV ws)[j]? = some (.int (v : Int)) := by
  unfold natV
  rw [List.getElem?_map, h]
  rfl
end PT

set_option maxHeartbeats 4000000
/-! rows of letters that stand in the heap, some of them made a moment ago -/
namespace PT
open PySem PySem.Spec PyProof.Rows L2 LamX NdefX
/-- nothing but a table of code objects can have been there -/
def NewN (H : Hp) (a : Addr) : Prop := ∀ o, H a = some o → ∃ ps, o = .tbl ps
theorem newN_of {H : Hp} {a : Addr} (n : H a = none) : NewN H a := fun o e => by
  rw [n] at e
  cases e
theorem NewN.back {H H' : Hp} {a : Addr} (n : NewN H' a) (x : ExtN H H') : NewN H a := fun o e => by
  cases o with
  | tbl ps => exact ⟨ps, rfl⟩
  | _ => exact n _ (x _ _ e fun ps z => by cases z)
theorem NewN.lst {H : Hp} {a c : Addr} {xs : List V} (n : NewN H a) (e : H c = some (.lst xs)) : a ≠ c := fun z => by
  obtain ⟨ps, q⟩ := n _ (z ▸ e)
  cases q
theorem NewN.tup {H : Hp} {a c : Addr} {xs : List V} (n : NewN H a) (e : H c = some (.tup xs)) : a ≠ c := fun z => by
  obtain ⟨ps, q⟩ := n _ (z ▸ e)
  cases q
theorem extN_putN {H G : Hp} {a : Addr} {o : HO} (x : ExtN H G) (n : NewN H a) : ExtN H (upd G a o) := fun b u h z => by
  have ne : b ≠ a := fun y => by
    obtain ⟨ps, q⟩ := n _ (y ▸ h)
    exact z ps q
  rw [upd_ne ne]
  exact x b u h z
/-- nothing has changed but the source and the tables of code objects -/
def BarN (b : Addr) (H H' : Hp) : Prop := ∀ c o, c ≠ b → H c = some o → (∀ ps, o ≠ .tbl ps) → H' c = some o
theorem BarN.refl (b : Addr) (H : Hp) : BarN b H H := fun _ _ _ h _ => h
theorem BarN.trans {b : Addr} {H H1 H2 : Hp} (u : BarN b H H1) (v : BarN b H1 H2) : BarN b H H2 := fun c o n h z => v c o n (u c o n h z) z
theorem Bar.barN {b : Addr} {H H1 : Hp} (u : Bar b H H1) : BarN b H H1 := fun c o n h _ => u c o n h
theorem Same.barN {b : Addr} {H H1 : Hp} (u : Same H H1) : BarN b H H1 := fun c o _ h _ => u c o h
theorem extN_barN {b : Addr} {H H1 : Hp} (u : ExtN H H1) : BarN b H H1 := fun c o _ h z => u c o h z
theorem BarN.lst {b : Addr} {H H1 : Hp} (u : BarN b H H1) {a : Addr} {xs : List V} (n : a ≠ b) (h : H a = some (.lst xs)) : H1 a = some (.lst xs) := u _ _ n h fun _ z => by cases z
theorem BarN.tup {b : Addr} {H H1 : Hp} (u : BarN b H H1) {a : Addr} {xs : List V} (n : a ≠ b) (h : H a = some (.tup xs)) : H1 a = some (.tup xs) := u _ _ n h fun _ z => by cases z
theorem BarN.extN {b : Addr} {H H1 : Hp} (u : BarN b H H1) (n : NewN H b) : ExtN H H1 := fun c o h z => u c o (fun e => by
  obtain ⟨ps, q⟩ := n o (e ▸ h)
  exact z ps q) h z
theorem BarN.extN' {b : Addr} {H G G2 : Hp} (u : BarN b G G2) (nb : H b = none) (x : ExtN H G) : ExtN H G2 := fun c o h z => u c o (ne_of_none h nb) (x c o h z) z
structure RowsN (G : Hp) (l : Addr) (as : List Addr) (n : Nat) (f : Nat → List Nat) : Prop where
  hl : G l = some (.lst (as.map V.ref))
  len : as.length = n
  out : l ∉ as
  nd : as.Nodup
  at_ : ∀ (j : Nat) (a : Addr), as[j]? = some a → G a = some (.lst ((natI (f j)).map V.int))
theorem RowsN.ext {G G' : Hp} {l : Addr} {as : List Addr} {n : Nat} {f : Nat → List Nat} (R : RowsN G l as n f) (e : ExtN G G') : RowsN G' l as n f :=
  ⟨extN_lst e R.hl, R.len, R.out, R.nd, fun j a h => extN_lst e (R.at_ j a h)⟩
theorem RowsN.same {G G' : Hp} {l : Addr} {as : List Addr} {n : Nat} {f : Nat → List Nat} (R : RowsN G l as n f) (e : Same G G') : RowsN G' l as n f := R.ext (same_extN e)
theorem RowsN.congr {G : Hp} {l : Addr} {as : List Addr} {n : Nat} {f g : Nat → List Nat} (R : RowsN G l as n f) (e : ∀ k, k < n → f k = g k) : RowsN G l as n g :=
  ⟨R.hl, R.len, R.out, R.nd, fun j a h => by
    have := (List.getElem?_eq_some_iff.mp h).1
    rw [← e j (by rw [← R.len]; exact this)]
    exact R.at_ j a h⟩
theorem RowsN.mem {G : Hp} {l : Addr} {as : List Addr} {n : Nat} {f : Nat → List Nat} (R : RowsN G l as n f) {a : Addr} (h : a ∈ as) : ∃ xs, G a = some (.lst xs) := by
  obtain ⟨i, hi⟩ := List.mem_iff_getElem?.mp h
  exact ⟨_, R.at_ i a hi⟩
theorem RowsN.get {G : Hp} {l : Addr} {as : List Addr} {n : Nat} {f : Nat → List Nat} (R : RowsN G l as n f) {i : Nat} (h : i < n) : ∃ a, as[i]? = some a ∧ G a = some (.lst ((natI (f i)).map V.int)) :=
  ⟨_, List.getElem?_eq_getElem (by rw [R.len]; exact h), R.at_ i _ (List.getElem?_eq_getElem (by rw [R.len]; exact h))⟩
theorem RowsN.app {G : Hp} {l : Addr} {as : List Addr} {n c u : Nat} {f : Nat → List Nat} {a : Addr} (R : RowsN G l as n f) (e : as[c]? = some a) :
    RowsN (upd G a (.lst ((natI (f c)).map V.int ++ [.int (u : Int)]))) l as n fun k => if k = c then f c ++ [u] else f k := by
  have hin := List.mem_of_getElem? e
  refine ⟨?_, R.len, R.out, R.nd, fun k b hb => ?_⟩
  · rw [upd_ne (show l ≠ a from fun z => R.out (z ▸ hin))]
    exact R.hl
  · by_cases h : k = c
    · subst h
      have eb : a = b := Option.some.inj (e.symm.trans hb)
      rw [if_pos rfl, ← eb, upd_same, natI_app, List.map_append]
      rfl
    · have ne : b ≠ a := fun z => h (by
        obtain ⟨hk, ek⟩ := List.getElem?_eq_some_iff.mp hb
        obtain ⟨hc, ec⟩ := List.getElem?_eq_some_iff.mp e
        exact (List.getElem_inj R.nd).mp (ek.trans (z.trans ec.symm)))
      rw [if_neg h, upd_ne ne]
      exact R.at_ k b hb
/-- a row is written anew -/
theorem RowsN.put {G : Hp} {l : Addr} {as : List Addr} {n c : Nat} {f : Nat → List Nat} {a : Addr} (R : RowsN G l as n f) (e : as[c]? = some a) (w : List Nat) :
    RowsN (upd G a (.lst ((natI w).map V.int))) l as n fun k => if k = c then w else f k := by
  have hin := List.mem_of_getElem? e
  refine ⟨?_, R.len, R.out, R.nd, fun k b hb => ?_⟩
  · rw [upd_ne (show l ≠ a from fun z => R.out (z ▸ hin))]
    exact R.hl
  · by_cases h : k = c
    · subst h
      have eb : a = b := Option.some.inj (e.symm.trans hb)
      rw [if_pos rfl, ← eb, upd_same]
    · have ne : b ≠ a := fun z => h (by
        obtain ⟨hk, ek⟩ := List.getElem?_eq_some_iff.mp hb
        obtain ⟨hc, ec⟩ := List.getElem?_eq_some_iff.mp e
        exact (List.getElem_inj R.nd).mp (ek.trans (z.trans ec.symm)))
      rw [if_neg h, upd_ne ne]
      exact R.at_ k b hb
theorem RowsN.redo {G : Hp} {l : Addr} {as : List Addr} {n : Nat} {f : Nat → List Nat} (R : RowsN G l as n f) : RowsN (upd G l (.lst (as.map V.ref))) l as n f :=
  ⟨upd_same, R.len, R.out, R.nd, fun j b hb => by
    rw [upd_ne (show b ≠ l from fun z => R.out (z ▸ List.mem_of_getElem? hb))]
    exact R.at_ j b hb⟩
theorem RowsN.other {G : Hp} {l a : Addr} {as : List Addr} {n : Nat} {f : Nat → List Nat} {o : HO} (R : RowsN G l as n f) (h1 : a ∉ as) (h2 : a ≠ l) : RowsN (upd G a o) l as n f :=
  ⟨by rw [upd_ne (Ne.symm h2)]; exact R.hl, R.len, R.out, R.nd, fun j b hb => by
    rw [upd_ne (show b ≠ a from fun z => h1 (z ▸ List.mem_of_getElem? hb))]
    exact R.at_ j b hb⟩
theorem RowsN.start {H : Hp} {D : Addr} {f : Nat → List Nat} : RowsN (upd H D (.lst [])) D [] 0 f := ⟨upd_same, rfl, by simp, List.nodup_nil, fun j a e => by cases e⟩
/-- one more row, a new one, at the end -/
theorem RowsN.snoc {G G' : Hp} {D a : Addr} {as : List Addr} {i : Nat} {f : Nat → List Nat} (R : RowsN G D as i f) (x : ExtN G G') (n : NewN G a) (e : G' a = some (.lst ((natI (f i)).map V.int))) :
    RowsN (upd G' D (.lst (as.map V.ref ++ [.ref a]))) D (as ++ [a]) (i + 1) f := by
  have aD : a ≠ D := n.lst R.hl
  have R2 := R.ext x
  refine ⟨by rw [upd_same, List.map_append]; rfl, by rw [List.length_append, R.len]; rfl, fun h => ?_, ?_, fun j b hb => ?_⟩
  · rcases List.mem_append.mp h with z | z
    · exact R.out z
    · exact aD (List.mem_singleton.mp z).symm
  · refine List.nodup_append.mpr ⟨R.nd, by simp, fun b hb c hc => ?_⟩
    rw [List.mem_singleton.mp hc]
    obtain ⟨xs, z⟩ := R.mem hb
    exact Ne.symm (n.lst z)
  · by_cases hj : j < as.length
    · rw [List.getElem?_append_left hj] at hb
      rw [upd_ne (show b ≠ D from fun z => R.out (z ▸ List.mem_of_getElem? hb))]
      exact R2.at_ j b hb
    · have hj2 : j = as.length := by
        have z := (List.getElem?_eq_some_iff.mp hb).1
        rw [List.length_append] at z
        have z2 : j < as.length + 1 := z
        omega
      subst hj2
      rw [List.getElem?_append_right (Nat.le_refl _), Nat.sub_self] at hb
      cases hb
      rw [upd_ne aD, R.len]
      exact e
theorem RowsN.barN {G G' : Hp} {b l : Addr} {as : List Addr} {n : Nat} {f : Nat → List Nat} (R : RowsN G l as n f) (e : BarN b G G') (h1 : l ≠ b) (h2 : b ∉ as) : RowsN G' l as n f :=
  ⟨e.lst h1 R.hl, R.len, R.out, R.nd, fun j a h => e.lst (fun z => h2 (z ▸ List.mem_of_getElem? h)) (R.at_ j a h)⟩
/-- one more row behind what has written to b alone -/
theorem RowsN.snocB {G G' : Hp} {b D a : Addr} {as : List Addr} {i : Nat} {f : Nat → List Nat} (R : RowsN G D as i f) (x : BarN b G G') (h1 : D ≠ b) (h2 : b ∉ as) (n : NewN G a) (e : G' a = some (.lst ((natI (f i)).map V.int))) :
    RowsN (upd G' D (.lst (as.map V.ref ++ [.ref a]))) D (as ++ [a]) (i + 1) f := by
  have R2 := R.barN x h1 h2
  have aD : a ≠ D := n.lst R.hl
  refine ⟨by rw [upd_same, List.map_append]; rfl, by rw [List.length_append, R.len]; rfl, fun h => ?_, ?_, fun j c hc => ?_⟩
  · rcases List.mem_append.mp h with z | z
    · exact R.out z
    · exact aD (List.mem_singleton.mp z).symm
  · refine List.nodup_append.mpr ⟨R.nd, by simp, fun c hc d hd => ?_⟩
    rw [List.mem_singleton.mp hd]
    obtain ⟨xs, z⟩ := R.mem hc
    exact Ne.symm (n.lst z)
  · by_cases hj : j < as.length
    · rw [List.getElem?_append_left hj] at hc
      rw [upd_ne (show c ≠ D from fun z => R.out (z ▸ List.mem_of_getElem? hc))]
      exact R2.at_ j c hc
    · have hj2 : j = as.length := by
        have z := (List.getElem?_eq_some_iff.mp hc).1
        rw [List.length_append] at z
        have z2 : j < as.length + 1 := z
        omega
      subst hj2
      rw [List.getElem?_append_right (Nat.le_refl _), Nat.sub_self] at hc
      cases hc
      rw [upd_ne aD, R.len]
      exact e
/-! ### such rows as data -/
def rowD (r : List Nat) : PyData := .list ((natI r).map PyData.int)
def rowsD (n : Nat) (f : Nat → List Nat) : PyData := .list ((List.range n).map fun k => rowD (f k))
theorem dpAll_rows {K : PySem.W.Frag} {G : Hp} : ∀ (as : List Addr) (g : Nat → List Nat), (∀ (j : Nat) (a : Addr), as[j]? = some a → G a = some (.lst ((natI (g j)).map V.int))) → DpAll K G (as.map V.ref) ((List.range as.length).map fun k => rowD (g k))
  | [], _, _ => .nil
  | a :: as, g, h => by
    rw [List.length_cons, List.range_succ_eq_map, List.map_cons, List.map_cons, List.map_map]
    refine .cons (.lst (.inl (.inl (h 0 a rfl))) (dp_ints _)) ?_
    exact dpAll_rows as (fun k => g (k + 1)) fun j b e => h (j + 1) b (by simpa using e)
theorem RowsN.dp {K : PySem.W.Frag} {G : Hp} {l : Addr} {as : List Addr} {n : Nat} {f : Nat → List Nat} (R : RowsN G l as n f) : Dp K G (.ref l) (rowsD n f) := by
  have z := dpAll_rows (K := K) as f R.at_
  rw [R.len] at z
  exact .lst (.inl (.inl R.hl)) z
theorem nice_nat {k : Nat} (h : k ≤ 100) : Nice 7 0 (.int (k : Int)) := by
  have z := nice_int (i := (k : Int)) (by omega)
  refine ⟨z.sh, z.dp, z.lv, ?_⟩
  simp only [PyData.weight]
  split
  · omega
  · rename_i h0
    have e : ((k : Int)).natAbs = k := Int.natAbs_natCast k
    rw [e]
    have k0 : k ≠ 0 := fun y => by rw [y] at h0; exact h0 rfl
    have := (Nat.log2_lt k0 (k := 7)).mpr (by omega)
    omega
theorem nice_row {r : List Nat} (h : ∀ k ∈ r, k ≤ 100) (hl : r.length ≤ 100) : Nice 800 1 (rowD r) := by
  refine nice_lst (W := 7) (k := 0) (L := 100) (fun d hd => ?_) (by rw [List.length_map, natI_len]; exact hl)
  obtain ⟨n, hn, rfl⟩ := List.mem_map.mp hd
  unfold natI at hn
  obtain ⟨k, hk, rfl⟩ := List.mem_map.mp hn
  exact nice_nat (h k hk)
theorem nice_rows {n : Nat} {f : Nat → List Nat} (hn : n ≤ 100) (h : ∀ j, j < n → (∀ k ∈ f j, k ≤ 100) ∧ (f j).length ≤ 100) : Nice 80100 2 (rowsD n f) := by
  refine nice_lst (W := 800) (L := 100) (fun d hd => ?_) (by rw [List.length_map, List.length_range]; exact hn)
  obtain ⟨j, hj, rfl⟩ := List.mem_map.mp hd
  obtain ⟨a, b⟩ := h j (List.mem_range.mp hj)
  exact nice_row a b
theorem lay_rows (f : Nat → List Nat) : ∀ l : List Nat, PyData.canLayAll0 (l.map fun k => rowD (f k)) = true
  | [] => by simp [PyData.canLayAll0]
  | k :: l => by
    have ih := lay_rows f l
    have e : (rowD (f k)).canLay0 = true := by
      unfold rowD
      simp only [PyData.canLay0, lay_ints]
    rw [List.map_cons]
    simp only [PyData.canLayAll0, e, ih, Bool.and_self]
theorem depth_rows (f : Nat → List Nat) : ∀ l : List Nat, PyData.depthAll (l.map fun k => rowD (f k)) ≤ 1
  | [] => Nat.zero_le _
  | k :: l => by
    have ih := depth_rows f l
    rw [List.map_cons]
    simp only [PyData.depthAll, rowD, PyData.depth, depth_ints]
    unfold rowD at ih
    omega
theorem canLay_rows (n : Nat) (f : Nat → List Nat) : (rowsD n f).canLay0 = true := by
  unfold rowsD
  simp only [PyData.canLay0, lay_rows]
theorem shaped_rows (n : Nat) (f : Nat → List Nat) : SeqAt.shaped (rowsD n f) = true := by
  unfold SeqAt.shaped
  rw [canLay_rows, Bool.true_and]
  unfold rowsD
  simp only [PyData.depth]
  have := depth_rows f (List.range n)
  exact decide_eq_true (by omega)
theorem eqv_rows (n : Nat) (f : Nat → List Nat) : PyData.eqv (rowsD n f) (rowsD n f) = true := SeqAt.eqv_refl _ (canLay_rows n f)
theorem rowsD_congr {n : Nat} {f g : Nat → List Nat} (e : ∀ k, k < n → f k = g k) : rowsD n f = rowsD n g := by
  unfold rowsD
  congr 1
  exact List.map_congr_left fun k hk => by rw [e k (List.mem_range.mp hk)]
/-- two rows of rows, shown -/
theorem nice_two {n : Nat} {f : Nat → List Nat} (hn : n ≤ 100) (h : ∀ j, j < n → (∀ k ∈ f j, k ≤ 100) ∧ (f j).length ≤ 100) : Nice 170000 50 (.list [rowsD n f, rowsD n f]) := by
  suffices hh : ∀ d ∈ [rowsD n f, rowsD n f], Nice 80100 2 d from (nice_lst (W := 80100) (k := 2) (L := 2) hh (Nat.le_refl 2)).mono (by decide) (by decide)
  intro d hd
  rcases List.mem_cons.mp hd with e | e
  · rw [e]
    exact nice_rows hn h
  · rw [List.mem_singleton.mp e]
    exact nice_rows hn h
end PT

/-! boxes laid from the oldest on, each below its customer's: what comes out is ordered -/
namespace PT
def supN (pl : List Int) (j : Nat) : List Nat := ((List.range pl.length).filter fun k => decide (pl.getD k 0 = (j : Int))).map (· + 1)
theorem supN_sup (pl : List Int) (j : Nat) : natI (supN pl j) = sup pl pl.length j := by
  unfold natI supN sup
  rw [List.map_map]
  rfl
theorem supN_mem {pl : List Int} (hP : Plant pl) {j k : Nat} : k ∈ supN pl j ↔ 0 < k ∧ k ≤ pl.length ∧ cu pl k = j := by
  rw [← sup_cu hP, ← supN_sup]
  unfold natI
  rw [List.mem_map]
  constructor
  · intro h
    exact ⟨k, h, rfl⟩
  · rintro ⟨a, ha, e⟩
    have : a = k := by omega
    rw [← this]
    exact ha
theorem supN_nodup (pl : List Int) (j : Nat) : (supN pl j).Nodup := by
  unfold supN
  rw [List.Nodup, List.pairwise_map]
  exact (List.nodup_range.sublist List.filter_sublist).imp fun h z => h (by omega)
theorem pick_perm {α : Type} : ∀ {l : List α} {i : Nat} {x : α}, l[i]? = some x → (x :: l.eraseIdx i).Perm l
  | [], _, _, h => by simp at h
  | y :: r, 0, x, h => by
    have e : y = x := Option.some.inj h
    subst e
    exact .refl _
  | y :: r, i + 1, x, h => (List.Perm.swap y x (r.eraseIdx i)).trans ((pick_perm (l := r) (i := i) (x := x) (by simpa using h)).cons y)
structure CalmSt (pl ns : List Int) (i : Nat) (val : Nat → Option Int) (fr : List Nat) : Prop where
  nd : fr.Nodup
  fm : ∀ k, k ∈ fr ↔ k ≤ pl.length ∧ val k = none ∧ (k = 0 ∨ ∃ y, val (cu pl k) = some y)
  vl : ∀ k x, val k = some x → k ≤ pl.length ∧ ∃ j, j < i ∧ ns[j]? = some x
  inj : ∀ k1 k2 x, val k1 = some x → val k2 = some x → k1 = k2
  up : ∀ k x, 0 < k → val k = some x → ∃ y, val (cu pl k) = some y ∧ y < x
  cnt : (List.range (pl.length + 1)).countP (fun k => (val k).isSome) = i
theorem CalmSt.start (pl ns : List Int) : CalmSt pl ns 0 (fun _ => none) [0] := by
  refine ⟨by simp, fun k => ?_, fun k x e => (by cases e), fun k1 k2 x e => (by cases e), fun k x _ e => (by cases e), countP_none (fun _ => rfl) _⟩
  constructor
  · intro h
    rw [List.mem_singleton.mp h]
    exact ⟨Nat.zero_le _, rfl, .inl rfl⟩
  · rintro ⟨_, _, rfl | ⟨y, e⟩⟩
    · exact List.mem_singleton.mpr rfl
    · cases e
theorem CalmSt.pos {pl ns : List Int} {i : Nat} {val : Nat → Option Int} {fr : List Nat} (h : CalmSt pl ns i val fr) (hi : i ≤ pl.length) : 0 < fr.length := by
  have ex : ∃ k, k ≤ pl.length ∧ val k = none := Classical.byContradiction fun no => by
    have all : (List.range (pl.length + 1)).countP (fun k => (val k).isSome) = (List.range (pl.length + 1)).length := List.countP_eq_length.mpr fun k hk => by
      have := List.mem_range.mp hk
      cases e : val k with
      | none => exact absurd ⟨k, by omega, e⟩ no
      | some x => rfl
    rw [h.cnt, List.length_range] at all
    omega
  have least : ∀ k, k ≤ pl.length → val k = none → ∃ m, m ∈ fr := by
    intro k
    induction k using Nat.strongRecOn with
    | ind k ih =>
      intro hk e
      by_cases k0 : k = 0
      · exact ⟨k, (h.fm k).mpr ⟨hk, e, .inl k0⟩⟩
      · have c := cu_lt pl (show 0 < k by omega)
        cases q : val (cu pl k) with
        | none => exact ih _ c (by omega) q
        | some y => exact ⟨k, (h.fm k).mpr ⟨hk, e, .inr ⟨y, q⟩⟩⟩
  obtain ⟨k, hk, e⟩ := ex
  obtain ⟨m, hm⟩ := least k hk e
  exact List.length_pos_of_mem hm
theorem CalmSt.len {pl ns : List Int} {i : Nat} {val : Nat → Option Int} {fr : List Nat} (h : CalmSt pl ns i val fr) : fr.length ≤ pl.length + 1 := by
  have p : fr.Perm ((List.range (pl.length + 1)).filter fun k => decide (k ∈ fr)) := (List.perm_ext_iff_of_nodup h.nd (List.nodup_range.sublist List.filter_sublist)).mpr fun k => by
    rw [List.mem_filter, decide_eq_true_iff, List.mem_range]
    exact ⟨fun z => ⟨by have := ((h.fm k).mp z).1; omega, z⟩, fun z => z.2⟩
  have e := p.length_eq
  have l := List.length_filter_le (fun k => decide (k ∈ fr)) (List.range (pl.length + 1))
  rw [List.length_range] at l
  omega
theorem CalmSt.next {pl ns : List Int} {i r k : Nat} {x : Int} {val : Nat → Option Int} {fr : List Nat} (hP : Plant pl) (h : CalmSt pl ns i val fr) (inc : ns.Pairwise (· < ·)) (hk : fr[r]? = some k) (hx : ns[i]? = some x) :
    CalmSt pl ns (i + 1) (fun j => if j = k then some x else val j) (fr.eraseIdx r ++ supN pl k) := by
  have hm := List.mem_of_getElem? hk
  obtain ⟨k1, k2, k3⟩ := (h.fm k).mp hm
  have pp : (k :: fr.eraseIdx r).Perm fr := pick_perm hk
  have nd2 := pp.nodup_iff.mpr h.nd
  obtain ⟨nk, ne⟩ := List.nodup_cons.mp nd2
  have em : ∀ j, j ∈ fr.eraseIdx r ↔ j ∈ fr ∧ j ≠ k := fun j => by
    constructor
    · intro z
      exact ⟨pp.mem_iff.mp (List.mem_cons_of_mem _ z), fun y => nk (y ▸ z)⟩
    · rintro ⟨z, y⟩
      rcases List.mem_cons.mp (pp.mem_iff.mpr z) with w | w
      · exact absurd w y
      · exact w
  have less : ∀ j y, val j = some y → y < x := fun j y e => by
    obtain ⟨_, m, hm, em⟩ := h.vl j y e
    obtain ⟨a1, a2⟩ := List.getElem?_eq_some_iff.mp em
    obtain ⟨b1, b2⟩ := List.getElem?_eq_some_iff.mp hx
    have := List.pairwise_iff_getElem.mp inc m i a1 b1 hm
    omega
  have kc : ∀ j, 0 < j → cu pl j = k → val j = none := fun j j0 e => by
    cases q : val j with
    | none => rfl
    | some y =>
      obtain ⟨z, hz, _⟩ := h.up j y j0 q
      rw [e, k2] at hz
      cases hz
  refine ⟨?_, fun j => ?_, fun j y e => ?_, fun a b y ea eb => ?_, fun j y j0 e => ?_, ?_⟩
  · refine List.nodup_append.mpr ⟨ne, supN_nodup pl k, fun a ha b hb => ?_⟩
    rintro rfl
    obtain ⟨a1, _⟩ := (em a).mp ha
    obtain ⟨_, a2, a3⟩ := (h.fm a).mp a1
    obtain ⟨b1, b2, b3⟩ := (supN_mem hP).mp hb
    rcases a3 with z | ⟨y, z⟩
    · omega
    · rw [b3, k2] at z
      cases z
  · rw [List.mem_append, em, h.fm, supN_mem hP]
    constructor
    · rintro (⟨⟨a1, a2, a3⟩, a4⟩ | ⟨b1, b2, b3⟩)
      · refine ⟨a1, by rw [if_neg a4]; exact a2, a3.imp id fun ⟨y, e⟩ => ⟨y, ?_⟩⟩
        rw [if_neg fun z => by rw [z, k2] at e; cases e]
        exact e
      · have c := cu_lt pl b1
        refine ⟨b2, by rw [if_neg (by omega)]; exact kc j b1 b3, .inr ⟨x, if_pos b3⟩⟩
    · rintro ⟨a1, a2, a3⟩
      by_cases jk : j = k
      · rw [if_pos jk] at a2
        cases a2
      · rw [if_neg jk] at a2
        by_cases j0 : j = 0
        · exact .inl ⟨⟨a1, a2, .inl j0⟩, jk⟩
        · by_cases ck : cu pl j = k
          · exact .inr ⟨by omega, a1, ck⟩
          · refine .inl ⟨⟨a1, a2, .inr ?_⟩, jk⟩
            rcases a3 with z | ⟨y, z⟩
            · exact absurd z j0
            · rw [if_neg ck] at z
              exact ⟨y, z⟩
  · by_cases jk : j = k
    · rw [if_pos jk] at e
      cases e
      exact ⟨by omega, i, by omega, hx⟩
    · rw [if_neg jk] at e
      obtain ⟨a, m, b, c⟩ := h.vl j y e
      exact ⟨a, m, by omega, c⟩
  · by_cases ak : a = k <;> by_cases bk : b = k
    · rw [ak, bk]
    · rw [if_pos ak] at ea
      rw [if_neg bk] at eb
      cases ea
      have := less b _ eb
      omega
    · rw [if_neg ak] at ea
      rw [if_pos bk] at eb
      cases eb
      have := less a _ ea
      omega
    · rw [if_neg ak] at ea
      rw [if_neg bk] at eb
      exact h.inj a b y ea eb
  · by_cases jk : j = k
    · rw [if_pos jk] at e
      cases e
      rcases k3 with z | ⟨w, z⟩
      · omega
      · have c := cu_lt pl j0
        refine ⟨w, ?_, less _ w z⟩
        rw [jk] at c ⊢
        rw [if_neg (by omega)]
        exact z
    · rw [if_neg jk] at e
      obtain ⟨w, z, l⟩ := h.up j y j0 e
      refine ⟨w, ?_, l⟩
      rw [if_neg fun q => by rw [q, k2] at z; cases z]
      exact z
  · have e := countP_or (p := fun j => (val j).isSome) (q := fun j => decide (j = k)) (r := fun j => (if j = k then some x else val j).isSome) (fun j => by
      by_cases jk : j = k
      · simp [jk]
      · simp [jk]) (fun j hj => by
      by_cases jk : j = k
      · rw [jk, k2] at hj
        cases hj
      · simp [jk]) (List.range (pl.length + 1))
    rw [e, h.cnt, countP_one, if_pos (by omega)]
/-- all are laid -/
def laidS (pl : List Int) (val : Nat → Option Int) : List Int := (List.range (pl.length + 1)).map fun k => (val k).getD 0
theorem CalmSt.all {pl ns : List Int} {val : Nat → Option Int} {fr : List Nat} (h : CalmSt pl ns (pl.length + 1) val fr) : ∀ k, k ≤ pl.length → ∃ x, val k = some x := by
  intro k hk
  have z : (List.range (pl.length + 1)).countP (fun k => (val k).isSome) = (List.range (pl.length + 1)).length := by
    rw [h.cnt, List.length_range]
  have := List.countP_eq_length.mp z k (List.mem_range.mpr (by omega))
  cases e : val k with
  | none => rw [e] at this; cases this
  | some x => exact ⟨x, rfl⟩
theorem laid_at {pl : List Int} {val : Nat → Option Int} {k : Nat} {x : Int} (hk : k ≤ pl.length) (e : val k = some x) : (laidS pl val)[k]? = some x := by
  unfold laidS
  rw [List.getElem?_map, List.getElem?_range (by omega), Option.map_some, e]
  rfl
theorem CalmSt.ord {pl ns : List Int} {val : Nat → Option Int} {fr : List Nat} (h : CalmSt pl ns (pl.length + 1) val fr) : Ord pl (laidS pl val) := by
  intro k k0 k1
  have c := cu_lt pl k0
  obtain ⟨x, e⟩ := h.all k k1
  obtain ⟨y, z, l⟩ := h.up k x k0 e
  have a := laid_at k1 e
  have b := laid_at (show cu pl k ≤ pl.length by omega) z
  rw [bx_some a, bx_some b]
  exact l
theorem CalmSt.nodup {pl ns : List Int} {val : Nat → Option Int} {fr : List Nat} (h : CalmSt pl ns (pl.length + 1) val fr) : (laidS pl val).Nodup := by
  unfold laidS
  rw [List.Nodup, List.pairwise_map]
  refine List.nodup_range.imp_of_mem fun {a b} ha hb ne z => ne ?_
  obtain ⟨x, ex⟩ := h.all a (by have := List.mem_range.mp ha; omega)
  obtain ⟨y, ey⟩ := h.all b (by have := List.mem_range.mp hb; omega)
  rw [ex, ey] at z
  have z2 : x = y := z
  exact h.inj a b x ex (z2 ▸ ey)
end PT

set_option maxHeartbeats 4000000
/-! a day on a list of boxes; days until the stock is ordered -/
namespace PT
open PySem PySem.Spec PyProof.Rows L2 LamX NdefX
theorem pickB_congr {ss tt : List Int} : ∀ (l : List Int) (b : Int), (∀ x ∈ b :: l, bx ss x = bx tt x) → pickB ss b l = pickB tt b l
  | [], _, _ => rfl
  | o :: l, b, h => by
    have e1 := h o (List.mem_cons_of_mem _ List.mem_cons_self)
    have e2 := h b List.mem_cons_self
    show pickB ss (if bx ss o < bx ss b then o else b) l = pickB tt (if bx tt o < bx tt b then o else b) l
    rw [e1, e2]
    refine pickB_congr l _ fun x hx => ?_
    rcases List.mem_cons.mp hx with e | e
    · rw [e]
      split
      · exact e1
      · exact e2
    · exact h x (List.mem_cons_of_mem _ (List.mem_cons_of_mem _ e))
theorem bst_congr {pl ss tt : List Int} {v : Nat} (h : ∀ x ∈ sup pl pl.length v, bx ss x = bx tt x) : bst pl ss v = bst pl tt v := by
  unfold bst
  cases e : sup pl pl.length v with
  | nil => rfl
  | cons x r =>
    rw [e] at h
    show (pickB ss x (x :: r)).toNat = (pickB tt x (x :: r)).toNat
    rw [pickB_congr (x :: r) x fun y hy => h y (by
      rcases List.mem_cons.mp hy with z | z
      · rw [z]; exact List.mem_cons_self
      · exact z)]
theorem supN_gives {pl ss : List Int} (hP : Plant pl) {v : Nat} (h : supN pl v ≠ []) : gives pl ss v := gives_sup' hP h
where
  gives_sup' {pl ss : List Int} (hP : Plant pl) {v : Nat} (h : supN pl v ≠ []) : gives pl ss v := by
    obtain ⟨k, hk⟩ := List.exists_mem_of_ne_nil _ h
    obtain ⟨k0, k1, k2⟩ := (supN_mem hP).mp hk
    obtain ⟨g, _⟩ := gives_of (ss := ss) hP k0 k1
    rw [k2] at g
    exact g
theorem supN_nil {pl ss : List Int} {v : Nat} (h : supN pl v = []) : ¬ gives pl ss v := by
  have z : sup pl pl.length v = [] := by rw [← supN_sup, h]; rfl
  intro g
  have := bst_nil (ss := ss) z
  unfold gives at g
  omega
theorem supN_len (pl : List Int) (v : Nat) : (supN pl v).length ≤ pl.length := by
  have := sup_len pl pl.length v
  rw [← supN_sup, natI_len] at this
  exact this
theorem mem_max {ns : List Int} {m : Int} (h : m ∈ ns) (u : ∀ y ∈ ns, y ≤ m) : m = mxv ns := mxv_of h u
theorem ord_dec (pl ss : List Int) (hs : ss.length = pl.length + 1) (hn : ss.Nodup) : ldis pl ss pl.length = 0 ↔ Ord pl ss :=
  ⟨fun h k k0 k1 => ord_ldis hs hn pl.length (Nat.le_refl _) h k k0 k1, fun h => ldis_ord h pl.length (Nat.le_refl _)⟩
/-- the least number of days, from i on, after which the stock is ordered -/
def ordG (pl ss : List Int) (i : Nat) : Nat := if h : i < pl.length ∧ ldis pl (dyn pl ss i) pl.length ≠ 0 then ordG pl ss (i + 1) else i
termination_by pl.length - i
decreasing_by omega
/-- .. from the first day on -/
def ordN (pl ss : List Int) : Nat := ordG pl ss 0
theorem ordG_on {pl ss : List Int} {i : Nat} (h1 : i < pl.length) (h2 : ldis pl (dyn pl ss i) pl.length ≠ 0) : ordG pl ss i = ordG pl ss (i + 1) := by
  rw [ordG, dif_pos ⟨h1, h2⟩]
theorem ordG_end {pl ss : List Int} {i : Nat} (h : ldis pl (dyn pl ss i) pl.length = 0) : ordG pl ss i = i := by
  rw [ordG, dif_neg fun z => z.2 h]
theorem ordG_ok {pl ss : List Int} (hP : Plant pl) (hs : ss.length = pl.length + 1) (hn : ss.Nodup) : ∀ n i, pl.length - i = n → i ≤ pl.length →
    Ord pl (dyn pl ss (ordG pl ss i)) ∧ i ≤ ordG pl ss i ∧ ordG pl ss i ≤ pl.length ∧ ∀ j, i ≤ j → j < ordG pl ss i → ¬ Ord pl (dyn pl ss j) := by
  intro n
  induction n using Nat.strongRecOn with
  | ind n ih =>
    intro i hn2 hi
    obtain ⟨d1, d2⟩ := dyn_len hs hn i
    by_cases c : ldis pl (dyn pl ss i) pl.length = 0
    · rw [ordG_end c]
      exact ⟨(ord_dec pl _ d1 d2).mp c, Nat.le_refl _, hi, fun j a b => by omega⟩
    · have lt : i < pl.length := by
        rcases Nat.lt_or_ge i pl.length with z | z
        · exact z
        · have e : i = pl.length := by omega
          rw [e] at c
          have o := ord_end hP hs hn
          obtain ⟨d3, d4⟩ := dyn_len (pl := pl) hs hn pl.length
          exact absurd ((ord_dec pl _ d3 d4).mpr o) c
      rw [ordG_on lt c]
      obtain ⟨a1, a2, a3, a4⟩ := ih (pl.length - (i + 1)) (by omega) (i + 1) rfl lt
      refine ⟨a1, by omega, a3, fun j h1 h2 => ?_⟩
      by_cases e : j = i
      · subst e
        exact fun z => c ((ord_dec pl _ d1 d2).mpr z)
      · exact a4 j (by omega) h2
theorem ordN_ok {pl ss : List Int} (hP : Plant pl) (hs : ss.length = pl.length + 1) (hn : ss.Nodup) : Ord pl (dyn pl ss (ordN pl ss)) ∧ ordN pl ss ≤ pl.length ∧ ∀ j, j < ordN pl ss → ¬ Ord pl (dyn pl ss j) := by
  obtain ⟨a, _, b, c⟩ := ordG_ok hP hs hn _ 0 rfl (Nat.zero_le _)
  exact ⟨a, b, fun j h => c j (Nat.zero_le _) h⟩
theorem ordN_unique {pl ss : List Int} (hP : Plant pl) (hs : ss.length = pl.length + 1) (hn : ss.Nodup) {m : Nat} (h1 : Ord pl (dyn pl ss m)) (h2 : ∀ j, j < m → ¬ Ord pl (dyn pl ss j)) : m = ordN pl ss := by
  obtain ⟨a, b, c⟩ := ordN_ok hP hs hn
  rcases Nat.lt_trichotomy m (ordN pl ss) with z | z | z
  · exact absurd h1 (c m z)
  · exact z
  · exact absurd a (h2 _ z)
/-- the chains of the first days -/
def chs (pl ss : List Int) (i : Nat) : List Nat := chn pl (dyn pl ss i) 0
theorem chn_small {pl ss : List Int} : ∀ (n c : Nat), pl.length - c = n → c ≤ pl.length → (chn pl ss c).length ≤ pl.length + 1 - c := by
  intro n
  induction n using Nat.strongRecOn with
  | ind n ih =>
    intro c hn hc
    by_cases h : gives pl ss c
    · have h' : c < bst pl ss c ∧ bst pl ss c ≤ pl.length := h
      rw [chn_on h, List.length_cons]
      have := ih (pl.length - bst pl ss c) (by omega) (bst pl ss c) rfl h'.2
      omega
    · rw [chn_end h]
      show 1 ≤ _
      omega
end PT


set_option maxHeartbeats 4000000
/-! oldest_giver, pass_day, days_to_order -/
namespace PT
open PySem PySem.Spec PyProof.Rows L2 LamX NdefX
section
variable {P : Program} {w : World} {K : PySem.W.Frag} {mg : Str → Option Value} {base : Heap}
theorem ListsAt.rows {H H' : Hp} {l : Addr} {as : List Addr} {pl : List Int} (L : ListsAt H H' l as pl pl.length) : RowsN H' l as (pl.length + 1) (supN pl) :=
  ⟨L.hl, L.len, L.out, L.nd, fun j a e => by rw [supN_sup]; exact L.at_ j a e⟩
def spOldest (T : Tx K mg) : Sp := fun vs H Q _ => ∃ (p b : Addr) (pl ss : List Int) (v : Nat), vs = [.ref p, .ref b] ∧ Plant pl ∧ H p = some (.lst ((natI (supN pl v)).map V.int)) ∧ supN pl v ≠ [] ∧ H b = some (.lst (ss.map V.int)) ∧ ss.length = pl.length + 1 ∧ Tabs T.tabW H ∧
  ∀ H', ExtN H H' → Tabs T.tabW H' → Q (.int (bst pl ss v : Nat)) H'
theorem Tx.oldestGiver (T : Tx K mg) (B : TabB base mg T.c_oldest_giver T.P_oldest_giver) {k : Nat} : FnOk P w K mg base CX0 (k + 5) T.f_oldest_giver T.d_oldest_giver ["stations", "boxes"] (spOldest T) := by
  refine T.C_oldest_giver.ok scOldestGiver (fun vs H Q E h => ?_) (fun A outer s H vs Q E hr h => ?_)
  · obtain ⟨p, b, pl, ss, v, rfl, _⟩ := h
    rfl
  · obtain ⟨p, b, pl, ss, v, rfl, hP, hp, hne, hb, hs, hT, q⟩ := h
    refine ⟨_, pss_one (ps_ret (pe_minLam (T := T.tabW) (j := 1) (x := "boxes") (y := "station") B rfl T.memW_oldest_giver T.uniW_oldest_giver (hr.mono (by omega)) rfl (by rfl) T.n_min (pa_cons (pv 0) pa_nil)
      (nscope_by (by decide +kernel)) rfl (.inl (by rfl)) (by decide +kernel) (fun _ _ _ _ _ => rfl) rfl)), ?_⟩
    have e1 : (natI (supN pl v)).map V.int = (supN pl v).map fun k : Nat => V.int (k : Int) := by
      unfold natI
      rw [List.map_map]
      rfl
    have hm : (supN pl v).map (fun k : Nat => (k : Int)) = sup pl pl.length v := supN_sup pl v
    refine ⟨.ref p, rfl, p, b, supN pl v, ss, rfl, .inl (.inl (by rw [← e1]; exact hp)), hne, rfl, .inl (.inl (.inl hb)), fun k hk => ?_, hT, fun H' ex tb => ?_⟩
    · have := ((supN_mem hP).mp hk).2.1
      omega
    · rw [minK_bst hP hm hne]
      exact q H' ex tb
/-- a day that begins at any station -/
def spPassJ (T : Tx K mg) : Sp := fun vs H Q _ => ∃ (g b : Addr) (j : Nat) (pl ss : List Int) (as : List Addr), vs = [.ref g, .ref b, .int (j : Int)] ∧ Plant pl ∧ j ≤ pl.length ∧ RowsN H g as (pl.length + 1) (supN pl) ∧ g ≠ b ∧ b ∉ as ∧ H b = some (.lst (ss.map V.int)) ∧ ss.length = pl.length + 1 ∧ Tabs T.tabW H ∧
  ∀ (H' : Hp) (t c : Addr), BarN b H H' → Tabs T.tabW H' → NewN H c → NewN H t → H' b = some (.lst ((day pl ss j).2.map V.int)) → H' c = some (.lst ((natI (chn pl ss j)).map V.int)) → H' t = some (.tup [.int (bx ss j), .ref c]) → Q (.ref t) H'
def spPass (T : Tx K mg) : Sp := fun vs H Q _ => ∃ (g b : Addr) (pl ss : List Int) (as : List Addr), vs = [.ref g, .ref b, .int 0] ∧ Plant pl ∧ RowsN H g as (pl.length + 1) (supN pl) ∧ g ≠ b ∧ b ∉ as ∧ H b = some (.lst (ss.map V.int)) ∧ ss.length = pl.length + 1 ∧ Tabs T.tabW H ∧
  ∀ (H' : Hp) (t c : Addr), BarN b H H' → Tabs T.tabW H' → NewN H c → NewN H t → H' b = some (.lst ((day pl ss 0).2.map V.int)) → H' c = some (.lst ((natI (chn pl ss 0)).map V.int)) → H' t = some (.tup [.int (bx ss 0), .ref c]) → Q (.ref t) H'
def spToOrder (T : Tx K mg) : Sp := fun vs H Q _ => ∃ (p q : Addr) (pl ss : List Int), vs = [.ref p, .ref q] ∧ PlantAt H p pl ∧ H q = some (.tup (ss.map V.int)) ∧ ss.length = pl.length + 1 ∧ ss.Nodup ∧ Tabs T.tabW H ∧
  ∀ (H' : Hp) (t cl ot : Addr) (cs : List Addr), ExtN H H' → Tabs T.tabW H' → NewN H t → NewN H cl → NewN H ot → (∀ c ∈ cs, NewN H c) → RowsN H' cl cs (ordN pl ss) (chs pl ss) → H' ot = some (.tup ((dyn pl ss (ordN pl ss)).map V.int)) → H' t = some (.tup [.ref cl, .ref ot]) → Q (.ref t) H'
end
end PT

set_option maxHeartbeats 4000000
/-! the first boxes, in the order in which they are sold -/
namespace PT
theorem path_self (pl : List Int) (k : Nat) : k ∈ path pl k := List.mem_of_getElem? (path_head pl k)
theorem path_iff (pl : List Int) {v k : Nat} (h : 0 < k) : v ∈ path pl k ↔ v = k ∨ v ∈ path pl (cu pl k) := by
  rw [path_pos pl h, List.mem_cons]
theorem path_tr {pl : List Int} {a b : Nat} (h : a ∈ path pl b) : ∀ c, b ∈ path pl c → a ∈ path pl c := by
  intro c
  induction c using Nat.strongRecOn with
  | ind c ih =>
    intro hb
    by_cases h0 : 0 < c
    · rcases (path_iff pl h0).mp hb with rfl | z
      · exact h
      · exact (path_iff pl h0).mpr (.inr (ih _ (cu_lt pl h0) z))
    · have : c = 0 := by omega
      subst this
      rw [path_zero, List.mem_singleton] at hb
      rw [hb] at h
      exact h
theorem path_lin {pl : List Int} {a b : Nat} (hab : a ≤ b) : ∀ c, a ∈ path pl c → b ∈ path pl c → a ∈ path pl b := by
  intro c
  induction c using Nat.strongRecOn with
  | ind c ih =>
    intro ha hb
    by_cases h0 : 0 < c
    · rcases (path_iff pl h0).mp hb with rfl | z
      · exact ha
      · have := path_le pl _ _ z
        have := cu_lt pl h0
        rcases (path_iff pl h0).mp ha with e | y
        · omega
        · exact ih _ (cu_lt pl h0) y z
    · have : c = 0 := by omega
      subst this
      rw [path_zero, List.mem_singleton] at ha hb
      rw [ha, hb]
      exact path_self pl 0
theorem path_root (pl : List Int) (k : Nat) : 0 ∈ path pl k := by
  induction k using Nat.strongRecOn with
  | ind k ih =>
    by_cases h0 : 0 < k
    · exact (path_iff pl h0).mpr (.inr (ih _ (cu_lt pl h0)))
    · have : k = 0 := by omega
      subst this
      exact path_self pl 0
theorem path_sup {pl : List Int} {v : Nat} : ∀ {s : Nat}, v ∈ path pl s → v ≠ s → ∃ u, 0 < u ∧ u ≤ s ∧ cu pl u = v ∧ u ∈ path pl s := by
  intro s
  induction s using Nat.strongRecOn with
  | ind s ih =>
    intro hv hne
    have := path_le pl _ _ hv
    have h0 : 0 < s := by omega
    rcases (path_iff pl h0).mp hv with e | z
    · exact absurd e hne
    · by_cases c : v = cu pl s
      · exact ⟨s, h0, Nat.le_refl _, c.symm, path_self pl s⟩
      · have hc := cu_lt pl h0
        obtain ⟨u, a, b, d, e⟩ := ih _ hc z c
        exact ⟨u, a, by omega, d, (path_iff pl h0).mpr (.inr e)⟩
/-- this box stands at or below v -/
def inAt (pl ss : List Int) (v : Nat) (x : Int) : Prop := ∃ k : Nat, k ≤ pl.length ∧ v ∈ path pl k ∧ bx ss k = x
theorem chn_path {pl ss : List Int} (hP : Plant pl) {v : Nat} : ∀ k : Nat, k ∈ chn pl ss 0 → v ∈ path pl k → v ∈ chn pl ss 0 := by
  intro k
  induction k using Nat.strongRecOn with
  | ind k ih =>
    intro hk hv
    by_cases h0 : 0 < k
    · rcases (path_iff pl h0).mp hv with rfl | z
      · exact hk
      · exact ih _ (cu_lt pl h0) (chn_cu hP hk h0).1 z
    · have : k = 0 := by omega
      subst this
      rw [path_zero, List.mem_singleton] at hv
      rw [hv]
      exact hk
theorem inAt_out {pl ss : List Int} (hP : Plant pl) (hs : ss.length = pl.length + 1) {v : Nat} (hv : v ∉ chn pl ss 0) (x : Int) : inAt pl (day pl ss 0).2 v x ↔ inAt pl ss v x := by
  have e : ∀ k : Nat, k ≤ pl.length → v ∈ path pl k → bx (day pl ss 0).2 k = bx ss k := fun k hk hp => by
    rw [day_at hs hk, if_neg fun z => hv (chn_path hP k z hp)]
  constructor
  · rintro ⟨k, h1, h2, h3⟩
    exact ⟨k, h1, h2, by rw [← e k h1 h2]; exact h3⟩
  · rintro ⟨k, h1, h2, h3⟩
    exact ⟨k, h1, h2, by rw [e k h1 h2]; exact h3⟩
theorem inAt_in {pl ss : List Int} (hP : Plant pl) (hs : ss.length = pl.length + 1) (hn : ss.Nodup) {v : Nat} (hv : v ∈ chn pl ss 0) {x : Int} (hx : x ≠ mxv ss + 1) : inAt pl (day pl ss 0).2 v x ↔ inAt pl ss v x ∧ x ≠ bx ss v := by
  have hvl := (chn_le (ss := ss) _ 0 rfl (Nat.zero_le _) v hv).2
  constructor
  · rintro ⟨k, h1, h2, h3⟩
    have hvk := path_le pl _ _ h2
    rw [day_at hs h1] at h3
    by_cases hk : k ∈ chn pl ss 0
    · rw [if_pos hk] at h3
      unfold nxt at h3
      by_cases g : gives pl ss k
      · rw [if_pos g] at h3
        have gb := g
        unfold gives at gb
        refine ⟨⟨bst pl ss k, gb.2, (path_iff pl (by omega)).mpr (.inr (by rw [gives_cu hP g]; exact h2)), h3⟩, fun e => ?_⟩
        have := bx_inj hn (by omega) (by omega) (h3.trans e)
        omega
      · rw [if_neg g] at h3
        exact absurd h3.symm hx
    · rw [if_neg hk] at h3
      refine ⟨⟨k, h1, h2, h3⟩, fun e => ?_⟩
      have := bx_inj hn (by omega) (by omega) (h3.trans e)
      rw [this] at hk
      exact hk hv
  · rintro ⟨⟨k, h1, h2, h3⟩, h4⟩
    have hne : v ≠ k := fun e => h4 (by rw [e]; exact h3.symm)
    have hvk := path_le pl _ _ h2
    by_cases hk : k ∈ chn pl ss 0
    · have h0 : 0 < k := by omega
      obtain ⟨c1, c2, c3⟩ := chn_cu hP hk h0
      have := cu_lt pl h0
      refine ⟨cu pl k, by omega, ?_, ?_⟩
      · rcases (path_iff pl h0).mp h2 with e | z
        · exact absurd e hne
        · exact z
      · rw [day_at hs (by omega), if_pos c1]
        unfold nxt
        rw [if_pos c2, c3]
        exact h3
    · exact ⟨k, h1, h2, by rw [day_at hs h1, if_neg hk]; exact h3⟩
structure Sale (pl f b : List Int) : Prop where
  up : ∀ k s : Nat, k ≤ pl.length → s ≤ pl.length → bx b k = bx f s → k ∈ path pl s
  nw : ∀ k : Nat, k ≤ pl.length → (∃ s : Nat, s ≤ pl.length ∧ bx b k = bx f s) ∨ mxv f < bx b k
  lo : ∀ v s : Nat, s ≤ pl.length → v ∈ path pl s → inAt pl b v (bx f s) → (s = v ∨ ¬ inAt pl b v (bx f (cu pl s))) → bx b v ≤ bx f s
  fr : ∀ v s : Nat, s ≤ pl.length → v ≤ pl.length → bx b v = bx f s → s = v ∨ ¬ inAt pl b v (bx f (cu pl s))
  mx : mxv f ≤ mxv b
theorem Sale.start {pl f : List Int} (hs : f.length = pl.length + 1) (hn : f.Nodup) : Sale pl f f := by
  refine ⟨fun k s hk h e => ?_, fun k hk => .inl ⟨k, hk, rfl⟩, fun v s h hp hi hc => ?_, fun v s h hv e => .inl (bx_inj hn (by omega) (by omega) e).symm, Int.le_refl _⟩
  · rw [bx_inj hn (by omega) (by omega) e]
    exact path_self pl s
  · rcases hc with rfl | hc
    · exact Int.le_refl _
    · by_cases e : s = v
      · rw [e]
        exact Int.le_refl _
      · have := path_le pl _ _ hp
        have h0 : 0 < s := by omega
        rcases (path_iff pl h0).mp hp with z | z
        · exact absurd z.symm e
        · have := cu_lt pl h0
          exact absurd ⟨cu pl s, by omega, z, rfl⟩ hc
theorem Sale.next {pl f b : List Int} (hP : Plant pl) (hf : f.length = pl.length + 1) (hs : b.length = pl.length + 1) (hn : b.Nodup) (h : Sale pl f b) : Sale pl f (day pl b 0).2 := by
  have fm : ∀ s : Nat, s ≤ pl.length → bx f s ≠ mxv b + 1 := fun s hs2 e => by
    have := mxv_lt (ss := f) (k := s) (by omega)
    have := h.mx
    omega
  have up' : ∀ k s : Nat, k ≤ pl.length → s ≤ pl.length → bx (day pl b 0).2 k = bx f s → k ∈ path pl s := fun k s hk hs2 e => by
    rw [day_at hs hk] at e
    by_cases m : k ∈ chn pl b 0
    · rw [if_pos m] at e
      unfold nxt at e
      by_cases g : gives pl b k
      · rw [if_pos g] at e
        have gb := g
        unfold gives at gb
        have z := h.up _ _ gb.2 hs2 e
        exact path_tr ((path_iff pl (by omega)).mpr (.inr (by rw [gives_cu hP g]; exact path_self pl k))) s z
      · rw [if_neg g] at e
        exact absurd e.symm (fm s hs2)
    · rw [if_neg m] at e
      exact h.up k s hk hs2 e
  refine ⟨up', fun k hk => ?_, fun v s hs2 hp hi hc => ?_, fun v s hs2 hv e => ?_, ?_⟩
  · rw [day_at hs hk]
    by_cases m : k ∈ chn pl b 0
    · rw [if_pos m]
      unfold nxt
      by_cases g : gives pl b k
      · rw [if_pos g]
        unfold gives at g
        exact h.nw _ g.2
      · rw [if_neg g]
        have := h.mx
        exact .inr (by omega)
    · rw [if_neg m]
      exact h.nw k hk
  · have hvs := path_le pl _ _ hp
    by_cases m : v ∈ chn pl b 0
    · rw [day_at hs (by omega), if_pos m]
      obtain ⟨i1, i2⟩ := (inAt_in hP hs hn m (fm s hs2)).mp hi
      by_cases e : s = v
      · exfalso
        subst e
        obtain ⟨k, k1, k2, k3⟩ := i1
        have k4 := h.up k s k1 hs2 k3
        have := path_le pl _ _ k2
        have := path_le pl _ _ k4
        have : k = s := by omega
        subst this
        exact i2 k3.symm
      · have h0 : 0 < s := by omega
        have hc2 : ¬ inAt pl (day pl b 0).2 v (bx f (cu pl s)) := hc.resolve_left e
        have hcs := cu_lt pl h0
        rw [inAt_in hP hs hn m (fm _ (by omega))] at hc2
        -- the supplier of v that is above s
        obtain ⟨k, k1, k2, k3⟩ := i1
        have k4 := h.up k s k1 hs2 k3
        have kv : v ≠ k := fun z => i2 (by rw [z]; exact k3.symm)
        have kvl := path_le pl _ _ k2
        obtain ⟨u, u0, u1, u2, us⟩ := path_sup hp (fun q => e q.symm)
        have hul : u ≤ pl.length := by omega
        obtain ⟨gv, g2⟩ := gives_of (ss := b) hP u0 hul
        rw [u2] at gv g2
        -- k stands at or below u
        have uk : u ∈ path pl k := by
          have hvu : cu pl u < u := cu_lt pl u0
          by_cases c : u ≤ k
          · exact path_lin c s us k4
          · exfalso
            have z := path_lin (Nat.le_of_lt (Nat.lt_of_not_le c)) s k4 us
            rcases (path_iff pl u0).mp z with y | y
            · omega
            · have := path_le pl _ _ y
              omega
        unfold nxt
        rw [if_pos gv]
        have l1 : bx b u ≤ bx f s := h.lo u s hs2 us ⟨k, k1, uk, k3⟩ (by
          by_cases es : s = u
          · exact .inl es
          · refine .inr fun z => hc2 ⟨?_, ?_⟩
            · obtain ⟨q, q1, q2, q3⟩ := z
              exact ⟨q, q1, path_tr ((path_iff pl u0).mpr (.inr (by rw [u2]; exact path_self pl v))) q q2, q3⟩
            · obtain ⟨q, q1, q2, q3⟩ := z
              intro y
              have := bx_inj hn (by omega) (by omega) (q3.trans y)
              have := path_le pl _ _ q2
              have := cu_lt pl u0
              omega)
        omega
    · rw [day_at hs (by omega), if_neg m]
      exact h.lo v s hs2 hp ((inAt_out hP hs m _).mp hi) (hc.imp id fun z y => z ((inAt_out hP hs m _).mpr y))
  · by_cases m : v ∈ chn pl b 0
    · rw [day_at hs hv, if_pos m] at e
      unfold nxt at e
      by_cases g : gives pl b v
      · rw [if_pos g] at e
        have gb := g
        unfold gives at gb
        have gc := gives_cu hP g
        have z := h.up _ _ gb.2 hs2 e
        have h0 : 0 < s := by have := path_le pl _ _ z; omega
        have hcs := cu_lt pl h0
        refine .inr ?_
        rw [inAt_in hP hs hn m (fm _ (by omega))]
        rintro ⟨⟨q, q1, q2, q3⟩, y⟩
        have qv : v ≠ q := fun w => y (by rw [w]; exact q3.symm)
        have qs := h.up q (cu pl s) q1 (by omega) q3
        have qvl := path_le pl _ _ q2
        rcases h.fr _ s hs2 gb.2 e with w | w
        · rw [w, gc] at qs
          have := path_le pl _ _ qs
          omega
        · refine w ⟨q, q1, ?_, q3⟩
          have qs2 : q ∈ path pl s := (path_iff pl h0).mpr (.inr qs)
          have b0 : 0 < bst pl b v := by omega
          by_cases c : bst pl b v ≤ q
          · exact path_lin c s z qs2
          · exfalso
            have z2 := path_lin (Nat.le_of_lt (Nat.lt_of_not_le c)) s qs2 z
            rcases (path_iff pl b0).mp z2 with y2 | y2
            · omega
            · rw [gc] at y2
              have := path_le pl _ _ y2
              omega
      · rw [if_neg g] at e
        exact absurd e.symm (fm s hs2)
    · rw [day_at hs hv, if_neg m] at e
      exact (h.fr v s hs2 hv e).imp id fun z y => z ((inAt_out hP hs m _).mp y)
  · have := day_mxv (pl := pl) hs
    have := h.mx
    omega
theorem sale_dyn {pl f : List Int} (hP : Plant pl) (hs : f.length = pl.length + 1) (hn : f.Nodup) : ∀ n, Sale pl f (dyn pl f n)
  | 0 => .start hs hn
  | n + 1 => (sale_dyn hP hs hn n).next hP hs (dyn_len hs hn n).1 (dyn_len hs hn n).2
/-- what the program keeps: the stations that wait, and those whose boxes are sold -/
structure Sel (pl f : List Int) (i : Nat) (ws M : List Nat) : Prop where
  wn : ws.Nodup
  wm : ∀ s, s ∈ ws ↔ s ≤ pl.length ∧ s ∉ M ∧ (s = 0 ∨ cu pl s ∈ M)
  mn : M.Nodup
  ml : M.length = i
  mm : ∀ s ∈ M, s ≤ pl.length
  cl : ∀ s ∈ M, s = 0 ∨ cu pl s ∈ M
  ms : ∀ s : Nat, s ≤ pl.length → (s ∈ M ↔ ¬ inAt pl (dyn pl f i) 0 (bx f s))
  sl : sold pl f i = M.map fun s : Nat => bx f s
theorem Sel.start (pl f : List Int) : Sel pl f 0 [0] [] := by
  refine ⟨by simp, fun s => ⟨fun h => ?_, fun h => ?_⟩, List.nodup_nil, rfl, fun s h => (by cases h), fun s h => (by cases h), fun s hs => ⟨fun h => (by cases h), fun h => absurd ⟨s, hs, path_root pl s, rfl⟩ h⟩, rfl⟩
  · rw [List.mem_singleton.mp h]
    exact ⟨Nat.zero_le _, (by simp), .inl rfl⟩
  · rcases h.2.2 with z | z
    · rw [z]
      simp
    · cases z
theorem Sel.next {pl f : List Int} {i m : Nat} {ws M : List Nat} (hP : Plant pl) (hs : f.length = pl.length + 1) (hn : f.Nodup) (h : Sel pl f i ws M) (hm : m ∈ ws) (lo : ∀ s ∈ ws, bx f m ≤ bx f s) :
    bx (dyn pl f i) 0 = bx f m ∧ Sel pl f (i + 1) (ws.filter (fun s => decide (s ≠ m)) ++ supN pl m) (M ++ [m]) := by
  obtain ⟨m1, m2, m3⟩ := (h.wm m).mp hm
  have S := sale_dyn hP hs hn i
  obtain ⟨dl, dn⟩ := dyn_len hs hn i
  have inM : ∀ s : Nat, s ≤ pl.length → s ∉ M → inAt pl (dyn pl f i) 0 (bx f s) := fun s h1 h2 => Classical.byContradiction fun z => h2 ((h.ms s h1).mpr z)
  have ub : bx (dyn pl f i) ((0 : Nat) : Int) ≤ bx f m := S.lo 0 m m1 (path_root pl m) (inM m m1 m2) (by
    rcases m3 with z | z
    · exact .inl z
    · exact .inr ((h.ms _ (by by_cases e : m = 0; (· rw [e]; unfold cu; omega); (have := cu_lt pl (show 0 < m by omega); omega))).mp z))
  have e0 : bx (dyn pl f i) ((0 : Nat) : Int) = bx f m := by
    rcases S.nw 0 (Nat.zero_le _) with ⟨s, s1, s2⟩ | z
    · have sw : s ∈ ws := by
        refine (h.wm s).mpr ⟨s1, fun y => (h.ms s s1).mp y ⟨0, Nat.zero_le _, path_self pl 0, s2⟩, ?_⟩
        rcases S.fr 0 s s1 (Nat.zero_le _) s2 with y | y
        · exact .inl y
        · by_cases q : s = 0
          · exact .inl q
          · have := cu_lt pl (show 0 < s by omega)
            exact .inr ((h.ms _ (by omega)).mpr y)
      have := lo s sw
      omega
    · have := mxv_lt (ss := f) (k := m) (by omega)
      omega
  refine ⟨by rw [← bx0]; exact e0, ?_⟩
  have fm : ∀ s : Nat, s ≤ pl.length → bx f s ≠ mxv (dyn pl f i) + 1 := fun s h2 e => by
    have := mxv_lt (ss := f) (k := s) (by omega)
    have := S.mx
    omega
  refine ⟨List.nodup_append.mpr ⟨h.wn.filter _, supN_nodup pl m, fun a ha b hb e => ?_⟩, fun s => ?_, List.nodup_append.mpr ⟨h.mn, by simp, fun a ha b hb e => ?_⟩, by rw [List.length_append, h.ml]; rfl, fun s h1 => ?_, fun s h1 => ?_, fun s h1 => ?_, ?_⟩
  · subst e
    obtain ⟨b1, b2, b3⟩ := (supN_mem hP).mp hb
    obtain ⟨a1, a2⟩ := List.mem_filter.mp ha
    obtain ⟨_, _, a3⟩ := (h.wm a).mp a1
    rcases a3 with z | z
    · omega
    · rw [b3] at z
      exact m2 z
  · rw [List.mem_append, List.mem_filter, decide_eq_true_eq, h.wm, supN_mem hP]
    constructor
    · rintro (⟨⟨a1, a2, a3⟩, a4⟩ | ⟨b1, b2, b3⟩)
      · refine ⟨a1, fun z => ?_, a3.imp id fun z => List.mem_append.mpr (.inl z)⟩
        rcases List.mem_append.mp z with z | z
        · exact a2 z
        · exact a4 (List.mem_singleton.mp z)
      · refine ⟨b2, fun z => ?_, .inr (List.mem_append.mpr (.inr (by rw [b3]; simp)))⟩
        rcases List.mem_append.mp z with z | z
        · rcases h.cl s z with q | q
          · omega
          · rw [b3] at q
            exact m2 q
        · have := List.mem_singleton.mp z
          have := cu_lt pl b1
          omega
    · rintro ⟨a1, a2, a3⟩
      have a2' : s ∉ M ∧ s ≠ m := ⟨fun z => a2 (List.mem_append.mpr (.inl z)), fun z => a2 (List.mem_append.mpr (.inr (by rw [z]; simp)))⟩
      rcases a3 with z | z
      · exact .inl ⟨⟨a1, a2'.1, .inl z⟩, a2'.2⟩
      · rcases List.mem_append.mp z with z | z
        · exact .inl ⟨⟨a1, a2'.1, .inr z⟩, a2'.2⟩
        · by_cases q : s = 0
          · exact .inl ⟨⟨a1, a2'.1, .inl q⟩, a2'.2⟩
          · exact .inr ⟨by omega, a1, List.mem_singleton.mp z⟩
  · subst e
    rw [List.mem_singleton.mp hb] at ha
    exact m2 ha
  · rcases List.mem_append.mp h1 with z | z
    · exact h.mm s z
    · rw [List.mem_singleton.mp z]
      exact m1
  · rcases List.mem_append.mp h1 with z | z
    · exact (h.cl s z).imp id fun q => List.mem_append.mpr (.inl q)
    · rw [List.mem_singleton.mp z]
      exact m3.imp id fun q => List.mem_append.mpr (.inl q)
  · show _ ↔ ¬ inAt pl (day pl (dyn pl f i) 0).2 0 (bx f s)
    rw [inAt_in hP dl dn (chn_self 0) (fm s h1), List.mem_append, List.mem_singleton]
    constructor
    · rintro (z | z)
      · exact fun y => (h.ms s h1).mp z y.1
      · exact fun y => y.2 (by rw [z]; exact e0.symm)
    · intro z
      by_cases q : s ∈ M
      · exact .inl q
      · refine .inr ?_
        have q2 := inM s h1 q
        have q3 : bx f s = bx (dyn pl f i) ((0 : Nat) : Int) := Classical.byContradiction fun y => z ⟨q2, y⟩
        exact bx_inj hn (by omega) (by omega) (q3.trans e0)
  · rw [sold_step, h.sl, List.map_append, ← bx0, e0]
    rfl
theorem Sel.le {pl f : List Int} {i : Nat} {ws M : List Nat} (h : Sel pl f i ws M) : i ≤ pl.length + 1 := by
  have z := h.mn.length_le_of_subset (l₂ := List.range (pl.length + 1)) fun s hs => List.mem_range.mpr (by have := h.mm s hs; omega)
  rw [List.length_range, h.ml] at z
  exact z
theorem Sel.end {pl f : List Int} {i : Nat} {ws M : List Nat} (h : Sel pl f i ws M) : ws = [] ↔ i = pl.length + 1 := by
  constructor
  · intro e
    have all : ∀ s, s ≤ pl.length → s ∈ M := by
      intro s
      induction s using Nat.strongRecOn with
      | ind s ih =>
        intro hs
        refine Classical.byContradiction fun z => ?_
        have : s ∈ ws := (h.wm s).mpr ⟨hs, z, by
          by_cases q : s = 0
          · exact .inl q
          · have := cu_lt pl (show 0 < s by omega)
            exact .inr (ih _ this (by omega))⟩
        rw [e] at this
        cases this
    have z := (List.nodup_range (n := pl.length + 1)).length_le_of_subset (l₂ := M) fun s hs => all s (by have := List.mem_range.mp hs; omega)
    rw [List.length_range, h.ml] at z
    have := h.le
    omega
  · intro e
    cases hw : ws with
    | nil => rfl
    | cons a r =>
      exfalso
      obtain ⟨a1, a2, _⟩ := (h.wm a).mp (by rw [hw]; simp)
      have z := (List.nodup_cons.mpr ⟨a2, h.mn⟩).length_le_of_subset (l₂ := List.range (pl.length + 1)) fun s hs => by
        rcases List.mem_cons.mp hs with y | y
        · exact List.mem_range.mpr (by omega)
        · exact List.mem_range.mpr (by have := h.mm s y; omega)
      rw [List.length_range, List.length_cons, h.ml] at z
      omega
theorem Sel.wl {pl f : List Int} {i : Nat} {ws M : List Nat} (h : Sel pl f i ws M) : ws.length ≤ pl.length + 1 := by
  have z := h.wn.length_le_of_subset (l₂ := List.range (pl.length + 1)) fun s hs => List.mem_range.mpr (by have := ((h.wm s).mp hs).1; omega)
  rw [List.length_range] at z
  exact z
end PT

set_option maxHeartbeats 4000000
/-! a stock that stands in the heap: a tuple, known to its object or not -/
namespace PT
open PySem PySem.Spec PyProof.Rows L2 LamX NdefX
def StkAt (H : Hp) (q : Addr) (ss : List Int) : Prop := H q = some (.tup (ss.map V.int)) ∨ ∃ o : Obj, H q = some (.frz o (.tup (ss.map V.int)))
theorem StkAt.seq {K : PySem.W.Frag} {H : Hp} {q : Addr} {ss : List Int} (h : StkAt H q ss) : SqT K H q (ss.map V.int) := by
  rcases h with h | ⟨o, h⟩
  · exact .inl (.inl h)
  · exact .inl (.inr ⟨o, h⟩)
theorem StkAt.tyx {K : PySem.W.Frag} {H : Hp} {q : Addr} {ss : List Int} (h : StkAt H q ss) : TyX K H (.ref q) (.type "tuple") := by
  rcases h with h | ⟨o, h⟩
  · exact .base (.tup h)
  · exact .fTuple h
theorem StkAt.same {H H' : Hp} {q : Addr} {ss : List Int} (e : Same H H') (h : StkAt H q ss) : StkAt H' q ss := by
  rcases h with h | ⟨o, h⟩
  · exact .inl (e _ _ h)
  · exact .inr ⟨o, e _ _ h⟩
theorem StkAt.ext {H H' : Hp} {q : Addr} {ss : List Int} (e : ExtN H H') (h : StkAt H q ss) : StkAt H' q ss := by
  rcases h with h | ⟨o, h⟩
  · exact .inl (e _ _ h fun ps z => by cases z)
  · exact .inr ⟨o, e _ _ h fun ps z => by cases z⟩
theorem StkAt.bar {H H' : Hp} {b q : Addr} {ss : List Int} (e : BarN b H H') (n : q ≠ b) (h : StkAt H q ss) : StkAt H' q ss := by
  rcases h with h | ⟨o, h⟩
  · exact .inl (e _ _ n h fun ps z => by cases z)
  · exact .inr ⟨o, e _ _ n h fun ps z => by cases z⟩
theorem StkAt.ne {H : Hp} {b q : Addr} {ss : List Int} {xs : List V} (h : StkAt H q ss) (e : H b = some (.lst xs)) : q ≠ b := by
  rcases h with h | ⟨o, h⟩
  · exact ne_of h e (by intro z; cases z)
  · exact ne_of h e (by intro z; cases z)
theorem StkAt.nn {H : Hp} {b q : Addr} {ss : List Int} (h : StkAt H q ss) (e : H b = none) : q ≠ b := by
  rcases h with h | ⟨o, h⟩
  · exact ne_of_none h e
  · exact ne_of_none h e
theorem TupF.stk {H : Hp} {q : Addr} {ss : List Int} (h : TupF H q (ss.map V.int)) : StkAt H q ss := let ⟨o, e, _⟩ := h; .inr ⟨o, e⟩
theorem kit_tupT {K : PySem.W.Frag} : PySem.W.kitOne K (.type "tuple") (.type "tuple") = some true := kit_ty (show kitB "tuple" "tuple" = some true by decide +kernel)
end PT


set_option maxHeartbeats 4000000
/-! the check of a stock that its object knows -/
namespace PT
open PySem PySem.Spec PyProof.Rows L2
section
variable {P : Program} {w : World} {K : PySem.W.Frag} {mg : Str → Option Value} {base : Heap}
def spFitsStockF : Sp := fun vs H Q _ => ∃ (p q : Addr) (xs : List V) (ss : List Int), vs = [.ref p, .ref q] ∧ SqT K H p xs ∧ StkAt H q ss ∧ ss.length = xs.length + 1 ∧ ss.length ≤ 100 ∧ ss.Nodup ∧ ∀ H', Same H H' → Q (.bl true) H'
theorem Tx.fitsStockF (T : Tx K mg) {k : Nat} : FnOk P w K mg base CX0 (k + 2) T.f_fits_stock T.d_fits_stock ["plant", "value"] (spFitsStockF (K := K)) := by
  refine T.F_fits_stock.ok scFitsStock (fun vs H Q E h => ?_) (fun cdv A outer s H vs Q E hr h => ?_)
  · obtain ⟨p, q, xs, ss, rfl, _⟩ := h
    rfl
  · obtain ⟨p, q, xs, ss, rfl, hT, hq, hl, hs, nd, qq⟩ := h
    refine ⟨_, pss_cons (ps_if (PW.pt (pw_or (pt_not (pt_val (pe_callB call_isi (by rfl) T.n_isinstance (by decide +kernel) (pa_cons (pv 1) (pa_cons (pe_bltn (v := .ty "tuple") (by rfl) T.n_tuple (by decide +kernel) rfl) pa_nil)))))
        (pw_or1 (pt_cmpR op_ne (pe_callB call_len_seq (by rfl) T.n_len PySem.boot_len (pa_cons (pv 1) pa_nil)) (pe_op op_add (pe_callB call_len_seq (by rfl) T.n_len PySem.boot_len (pa_cons (pv 0) pa_nil)) pe_int) (nomark _)))))
        (pss_one (ps_ret pe_bl)) pss_nil)
      (pss_cons (ps_if (pt_not (pt_val (pe_callB (cr_all rfl) (by rfl) T.n_all (by decide +kernel) (pa_cons
          (pe_lc (own := [("box", 2)]) (g := gName 2) (tt := tYes) (te := tCall spIsInteger [] E0 (tCons (tVar 2) tNil)) rfl scFitsStock.nd (pi_tup (pv 1)) (blkOk_by (N := ["plant", "value", "box"]) (sc := defScope sFitsStock) (by decide +kernel))
            (fun _ _ _ _ _ => pg_name (i := 2) scFitsStock.nd rfl (.inl rfl)) (fun _ _ _ _ _ => pts_nil)
            (fun _ _ _ _ _ => pe_call T.isInteger hr (by rfl) T.g_is_integer T.F_is_integer.kp T.b_is_integer .nil pass0 (pa_cons (pv 2) pa_nil))) pa_nil)))) (pss_one (ps_ret pe_bl)) pss_nil)
      (pss_one (ps_ret (pe_cmpR op_eq (pe_lenSetT (by rfl) T.n_len (by rfl) T.n_set (pv 1)) (pe_callB call_len_seq (by rfl) T.n_len PySem.boot_len (pa_cons (pv 1) pa_nil)) (nomark _))))), ?_⟩
    have hv : SqT K H q (ss.map V.int) := hq.seq
    refine ⟨_, rfl, _, .ty "tuple", _, _, _, rfl, .ty _, hq.tyx, kit_tupT, _, rfl, ?_⟩
    refine iteF ⟨_, rfl, q, _, rfl, .inr hv, .ref p, rfl, p, xs, rfl, .inr hT, _, 1, rfl, rfl, rfl, _, rfl, ?_⟩
    rw [show ((ss.map V.int).length : Int) = (xs.length : Int) + 1 by rw [List.length_map, hl]; rfl]
    rw [show (!decide (V.int ((xs.length : Int) + 1) = V.int ((xs.length : Int) + 1))) = false by rw [decide_eq_true rfl]; rfl]
    refine iteF ⟨.ref q, rfl, q, rfl, ⟨_, hv⟩, fun D nD => ?_⟩
    refine lc_tup (xs := ss.map V.int) (fun i H' => Same H H' ∧ H' D = some (.lst ((List.replicate i true).map V.bl))) ⟨same_new nD, upd_same⟩ (fun i H' _ p1 => seqT p1.1 hv) (fun i x H1 ex p1 => ?_) (fun H' p1 => ?_)
    · obtain ⟨sm, eD⟩ := p1
      obtain ⟨n, en, rfl⟩ : ∃ n, ss[i]? = some n ∧ V.int n = x := by
        rw [List.getElem?_map] at ex
        cases z : ss[i]? with
        | none => rw [z] at ex; cases ex
        | some n => rw [z] at ex; cases ex; exact ⟨n, rfl, rfl⟩
      have hi := (List.getElem?_eq_some_iff.mp en).1
      refine ⟨rfl, tyes_if ⟨.int n, rfl, .int n, "int", rfl, .int n, _, eD, ?_, fun b o hb => ?_, ?_⟩⟩
      · rw [List.length_map, List.length_replicate]
        exact small300 (by omega)
      · rw [upd_ne (ne_of_none hb nD)]
        exact sm _ _ hb
      · rw [upd_same, List.replicate_succ', List.map_append]
        rfl
    · obtain ⟨sm, eD⟩ := p1
      have ea : (List.replicate (ss.map V.int).length true).all id = true := by
        rw [List.all_replicate]
        simp
      refine ⟨D, _, rfl, .inl (.inl eD), _, rfl, ?_⟩
      rw [ea]
      refine iteF ⟨.ref q, rfl, q, ss, rfl, seqT sm hv, nd, by omega, .ref q, rfl, q, _, rfl, .inr (seqT sm hv), rfl, ?_⟩
      rw [show ((ss.map V.int).length : Int) = ((ss.length : Nat) : Int) by rw [List.length_map], decide_eq_true rfl]
      exact qq H' sm
def spCheckStockF : Sp := spFitsStockF (K := K)
theorem Tx.checkStockF (T : Tx K mg) {k : Nat} : FnOk P w K mg base CX0 (k + 3) T.f_check_stock T.d_check_stock ["plant", "stock"] (fun vs H Q E => spFitsStockF (K := K) vs H (fun _ H' => Q .non H') E) := by
  refine T.F_check_stock.ok scCheckStock (fun vs H Q E h => ?_) (fun cdv A outer s H vs Q E hr h => ?_)
  · obtain ⟨p, q, xs, ss, rfl, _⟩ := h
    rfl
  · obtain ⟨p, q, xs, ss, rfl, hT, hq, hl, hs, nd, qq⟩ := h
    refine ⟨_, pss_one (ps_if (pt_not (pt_val (pe_call (T.fitsStockF (k := k)) hr (by rfl) T.g_fits_stock T.F_fits_stock.kp T.b_fits_stock .nil pass0 (pa_cons (pv 0) (pa_cons (pv 1) pa_nil))))) (pss_one ps_never) pss_nil), ?_⟩
    exact ⟨.ref p, rfl, .ref q, rfl, p, q, xs, ss, rfl, hT, hq, hl, hs, nd, fun H' sm => ⟨true, rfl, iteF (qq H' sm)⟩⟩
end
end PT


set_option maxHeartbeats 4000000
/-! the first boxes, as the program finds them -/
namespace PT
open PySem PySem.Spec PyProof.Rows L2 LamX NdefX
section
variable {P : Program} {w : World} {K : PySem.W.Frag} {mg : Str → Option Value} {base : Heap}
def spOldestW (T : Tx K mg) : Sp := fun vs H Q _ => ∃ (p b : Addr) (js : List Nat) (ss : List Int), vs = [.ref p, .ref b] ∧ H p = some (.lst ((natI js).map V.int)) ∧ js ≠ [] ∧ (SqL K H b (ss.map V.int) ∨ SqT K H b (ss.map V.int)) ∧ (∀ k ∈ js, k < ss.length) ∧ Tabs T.tabW H ∧
  ∀ H', ExtN H H' → Tabs T.tabW H' → Q (.int ((minK js fun k => ss.getD k 0 : Nat) : Int)) H'
theorem Tx.oldestW (T : Tx K mg) (B2 : TabB base mg T.c_oldest_giver T.P_oldest_giver) {k : Nat} : FnOk P w K mg base CX0 (k + 5) T.f_oldest_giver T.d_oldest_giver ["stations", "boxes"] (spOldestW T) := by
  refine T.C_oldest_giver.ok scOldestGiver (fun vs H Q E h => ?_) (fun A outer s H vs Q E hr h => ?_)
  · obtain ⟨p, b, js, ss, rfl, _⟩ := h
    rfl
  · obtain ⟨p, b, js, ss, rfl, hp, hne, hb, hk, hT, q⟩ := h
    refine ⟨_, pss_one (ps_ret (pe_minLam (T := T.tabW) (j := 1) (x := "boxes") (y := "station") B2 rfl T.memW_oldest_giver T.uniW_oldest_giver (hr.mono (by omega)) rfl (by rfl) T.n_min (pa_cons (pv 0) pa_nil)
      (nscope_by (by decide +kernel)) rfl (.inl (by rfl)) (by decide +kernel) (fun _ _ _ _ _ => rfl) rfl)), ?_⟩
    have e1 : (natI js).map V.int = js.map fun k : Nat => V.int (k : Int) := by
      unfold natI
      rw [List.map_map]
      rfl
    exact ⟨.ref p, rfl, p, b, js, ss, rfl, .inl (.inl (by rw [← e1]; exact hp)), hne, rfl, hb, hk, hT, fun H' ex tb => q H' ex tb⟩
theorem fold_least (f : Nat → Int) : ∀ (l : List Nat) (b : Nat), (l.foldl (fun a y => if decide (f y < f a) = true then y else a) b ∈ b :: l) ∧ ∀ s ∈ b :: l, f (l.foldl (fun a y => if decide (f y < f a) = true then y else a) b) ≤ f s
  | [], b => ⟨by simp, fun s h => by rw [List.mem_singleton.mp h]; exact Int.le_refl _⟩
  | y :: l, b => by
    rw [List.foldl_cons]
    by_cases c : f y < f b
    · rw [if_pos (decide_eq_true c)]
      obtain ⟨h1, h2⟩ := fold_least f l y
      refine ⟨List.mem_cons_of_mem _ h1, fun s hs => ?_⟩
      rcases List.mem_cons.mp hs with e | e
      · have := h2 y (List.mem_cons_self ..)
        rw [e]
        omega
      · exact h2 s e
    · rw [if_neg (by simpa using c)]
      obtain ⟨h1, h2⟩ := fold_least f l b
      refine ⟨?_, fun s hs => ?_⟩
      · rcases List.mem_cons.mp h1 with e | e
        · rw [e]
          exact List.mem_cons_self ..
        · exact List.mem_cons_of_mem _ (List.mem_cons_of_mem _ e)
      · rcases List.mem_cons.mp hs with e | e
        · exact h2 s (by rw [e]; exact List.mem_cons_self ..)
        · rcases List.mem_cons.mp e with e | e
          · have := h2 b (List.mem_cons_self ..)
            rw [e]
            omega
          · exact h2 s (List.mem_cons_of_mem _ e)
theorem minK_least {js : List Nat} (h : js ≠ []) (f : Nat → Int) : minK js f ∈ js ∧ ∀ s ∈ js, f (minK js f) ≤ f s := by
  obtain ⟨x, xs, rfl⟩ := List.exists_cons_of_ne_nil h
  have g := (PySem.W.argBest_fold (fun a b : Nat => decide (f a < f b)) 0 x xs xs.length (Nat.le_refl _)).2
  rw [List.take_length] at g
  have e : minK (x :: xs) f = xs.foldl (fun a y => if decide (f y < f a) = true then y else a) x := g
  rw [e]
  exact fold_least f xs x
def spSalesOf (T : Tx K mg) : Sp := fun vs H Q _ => ∃ (p q : Addr) (pl ss : List Int), vs = [.ref p, .ref q] ∧ PlantAt H p pl ∧ StkAt H q ss ∧ ss.length = pl.length + 1 ∧ ss.Nodup ∧ Tabs T.tabW H ∧
  ∀ (H' : Hp) (l : Addr), ExtN H H' → Tabs T.tabW H' → NewN H l → H' l = some (.lst ((sold pl ss ss.length).map V.int)) → Q (.ref l) H'
theorem Tx.salesOf (T : Tx K mg) (B2 : TabB base mg T.c_oldest_giver T.P_oldest_giver) {k : Nat} : FnOk P w K mg base CX0 (k + 6) T.f_sales_of_first T.d_sales_of_first ["plant", "stock"] (spSalesOf T) := by
  refine T.F_sales_of_first.ok scSalesOfFirst (fun vs H Q E h => ?_) (fun cdv A outer s H vs Q E hr h => ?_)
  · obtain ⟨p, q, pl, ss, rfl, _⟩ := h
    rfl
  · obtain ⟨p, q, pl, ss, rfl, hP, hq, hs, hn, hT, qq⟩ := h
    have nd := scSalesOfFirst.nd
    have hlen := hP.ok.len
    refine ⟨_, (pss_cons (ps_set (i := 2) nd rfl (.inl rfl) (pe_call (ok_lists T) (hr.mono (by omega)) (by rfl) T.g_supplier_lists T.F_supplier_lists.kp T.b_supplier_lists .nil pass0 (pa_cons (pv 0) pa_nil)))
(pss_cons (ps_set (i := 3) nd rfl (.inl rfl) (pe_lst pa_nil))
(pss_cons (ps_set (i := 4) nd rfl (.inl rfl) (pe_lst (pa_cons pe_int pa_nil)))
(pss_cons (ps_while PassesOwn.never (pt_truth (pv 4) (by intro _; rfl))
(pss_cons (ps_set (i := 5) nd rfl (.inr rfl) (pe_call (T.oldestW B2 (k := 0)) (hr.mono (by omega)) (by rfl) T.g_oldest_giver T.F_oldest_giver.kp T.b_oldest_giver .nil pass0 (pa_cons (pv 4) (pa_cons (pv 1) pa_nil))))
(pss_cons (ps_expr (pe_bm PySem.F.plainAttrs_list PySem.F.slot_list_append PySem.F.type_list_append mt_append (pv 3) (pa_cons (pe_ix ix_tup (pv 1) (pv 5) (fun _ _ => rfl)) pa_nil)))
(pss_one (ps_set (i := 4) nd rfl (.inl rfl) (pe_op op_cat (pe_lc (own := [("other", 6)]) (g := gName 6) rfl nd (pi_list (pv 4))
(blkOk_by (N := ["plant", "stock", "givers", "sales", "waiting", "station", "other"]) (sc := defScope sSalesOfFirst) (by decide +kernel)) (fun _ _ _ _ _ => (pg_name (i := 6) nd rfl (.inl rfl))) (fun _ _ _ _ _ => (pts_one (pt_cmpR op_ne (pv 6) (pv 5) (nomark _)))) (fun _ _ _ _ _ => (pv 6))) (pe_ix ix_list (pv 2) (pv 5) (fun _ _ => rfl))))))))
(pss_one (ps_ret (pv 3))))))), ?_⟩
    refine ⟨.ref p, rfl, p, pl, rfl, hP, fun H1 g as L => ?_⟩
    have R0 := L.rows
    refine ⟨Nat.zero_le _, fun D nD => ⟨(by show 1 ≤ sizeLine; decide), fun wa nw => ?_⟩⟩
    have s1 := L.sm
    have s2 := same_new (o := .lst []) nD
    have s3 := same_new (o := .lst [V.int 0]) nw
    have nHD : H D = none := s1.free nD
    have gD : g ≠ D := ne_of_none L.hl nD
    have asD : D ∉ as := fun h => by
      obtain ⟨xs, z⟩ := R0.mem h
      exact ne_of_none z nD rfl
    refine ⟨fun m σ G => ∃ (i : Nat) (ws M : List Nat) (wa : Addr) (y5 : Option V), σ = [some (.ref p), some (.ref q), some (.ref g), some (.ref D), some (.ref wa), y5, none] ∧ m = pl.length + 1 - i ∧ Sel pl ss i ws M ∧ ExtN H G ∧ Tabs T.tabW G ∧ RowsN G g as (pl.length + 1) (supN pl) ∧ G D = some (.lst ((sold pl ss i).map V.int)) ∧ G wa = some (.lst ((natI ws).map V.int)) ∧ wa ≠ D,
      ⟨_, 0, [0], [], wa, none, rfl, rfl, .start pl ss, same_extN (s1.trans (s2.trans s3)), tabs_same hT (s1.trans (s2.trans s3)), R0.same (s2.trans s3), s3 _ _ upd_same, upd_same, Ne.symm (ne_of_none upd_same nw)⟩, ?_⟩
    rintro m σ G ⟨i, ws, M, wa, y5, rfl, rfl, S, xG, tG, RG, eD, ew, wD⟩
    have hi := S.le
    refine ⟨.ref wa, rfl, _, .inl ⟨_, .inl (.inl ew), rfl⟩, ?_⟩
    by_cases hw : ws = []
    · have hi2 := S.end.mp hw
      rw [hw]
      refine iteF ⟨.ref D, rfl, ?_⟩
      rw [hi2, ← hs] at eD
      exact qq G D xG tG (newN_of nHD) eD
    · have e0 : (!((natI ws).map V.int).isEmpty) = true := by
        obtain ⟨x, xs, e⟩ := List.exists_cons_of_ne_nil hw
        rw [e]
        rfl
      rw [e0]
      refine iteT ⟨_, fun _ _ z => z, ?_⟩
      have lt : i ≤ pl.length := by
        rcases Nat.lt_or_ge pl.length i with z | z
        · exact absurd (S.end.mpr (by omega)) hw
        · exact z
      have hqG := hq.ext xG
      refine ⟨.ref wa, rfl, .ref q, rfl, wa, q, ws, ss, rfl, ew, hw, .inr hqG.seq, fun k hk => by have := ((S.wm k).mp hk).1; omega, tG, fun G2 x2 t2 => ?_⟩
      obtain ⟨n1, n2⟩ := minK_least hw fun k => ss.getD k 0
      generalize (minK ws fun k => ss.getD k 0) = b at n1 n2
      obtain ⟨z1, SN⟩ := S.next hP.ok hs hn n1 fun s hs2 => by
        have := n2 s hs2
        unfold bx
        rw [Int.toNat_natCast, Int.toNat_natCast]
        exact this
      obtain ⟨b1, b2, b3⟩ := (S.wm b).mp n1
      have hq2 := hqG.ext x2
      have eD2 := extN_lst x2 eD
      have ew2 := extN_lst x2 ew
      have RG2 := RG.ext x2
      refine ⟨.ref D, rfl, .inl ⟨rfl, _, .inl (.inl eD2)⟩, .ref q, rfl, .int (b : Int), rfl, q, _, (b : Int), .int (bx ss b), rfl, rfl, hq2.seq, atI_nat (by rw [List.getElem?_map, bx_at (by omega)]; rfl), D, _, _, rfl, rfl, eD2, ?_, ?_⟩
      · rw [List.length_map, sold_len]
        exact small300 (by omega)
      have eD3 : (upd G2 D (.lst ((sold pl ss i).map V.int ++ [V.int (bx ss b)]))) D = some (.lst ((sold pl ss (i + 1)).map V.int)) := by
        rw [upd_same, sold_step, z1, List.map_append]
        rfl
      have ew3 : (upd G2 D (.lst ((sold pl ss i).map V.int ++ [V.int (bx ss b)]))) wa = some (.lst ((natI ws).map V.int)) := by
        rw [upd_ne wD]
        exact ew2
      have RG3 := RG2.other (o := .lst ((sold pl ss i).map V.int ++ [V.int (bx ss b)])) asD (Ne.symm gD)
      have xG3 := extN_set (o := .lst ((sold pl ss i).map V.int ++ [V.int (bx ss b)])) (xG.trans x2) nHD
      have tG3 := tabs_set (ys := (sold pl ss i).map V.int ++ [V.int (bx ss b)]) t2 eD2
      generalize upd G2 D (.lst ((sold pl ss i).map V.int ++ [V.int (bx ss b)])) = G3 at eD3 ew3 RG3 xG3 tG3
      -- waiting = [..] + givers[station]
      refine ⟨.ref wa, rfl, wa, rfl, ⟨_, .inl (.inl ew3)⟩, fun F nF => ?_⟩
      have mm : (natI ws).map V.int = ws.map fun k : Nat => V.int (k : Int) := by
        unfold natI
        rw [List.map_map]
        rfl
      refine lc_list (xs := (natI ws).map V.int) (fun j G' => Same G3 G' ∧ G' F = some (.lst ((natI ((ws.take j).filter fun s => decide (s ≠ b))).map V.int))) ⟨same_new nF, upd_same⟩ (fun j G' _ p1 => .inl (.inl (p1.1 _ _ ew3))) (fun j x G' ex p1 => ?_) (fun G' p1 => ?_)
      · obtain ⟨s5, eF⟩ := p1
        obtain ⟨u, eu, rfl⟩ : ∃ u : Nat, ws[j]? = some u ∧ V.int (u : Int) = x := by
          rw [mm, List.getElem?_map] at ex
          cases q2 : ws[j]? with
          | none => rw [q2] at ex; cases ex
          | some u => rw [q2] at ex; cases ex; exact ⟨u, rfl, rfl⟩
        refine ⟨rfl, .int (u : Int), rfl, .int (b : Int), rfl, rfl, _, rfl, ite2 (fun e => ?_) fun e => ?_⟩
        · have c : u ≠ b := fun z => by
            subst z
            rw [decide_eq_true rfl] at e
            cases e
          refine ⟨_, rfl, _, eF, ?_, ?_, ?_⟩
          · rw [List.length_map, natI_len]
            exact small300 (Nat.le_trans (List.length_filter_le ..) (by rw [List.length_take]; have := S.wl; omega))
          · intro c2 o hb
            rw [upd_ne (ne_of_none hb nF)]
            exact s5 _ _ hb
          · rw [upd_same, take_next eu, List.filter_append, natI_app, List.map_append]
            simp [c, natI]
        · have c : u = b := Decidable.of_not_not fun z => e (by rw [decide_eq_false (show ¬ V.int (u : Int) = V.int (b : Int) from fun y => z (Int.ofNat.inj (V.int.inj y)))]; rfl)
          refine ⟨s5, ?_⟩
          rw [take_next eu, List.filter_append]
          simp [c, eF]
      · obtain ⟨s5, eF⟩ := p1
        rw [mm, List.length_map, List.take_length] at eF
        obtain ⟨r, er, hr1⟩ := (RG3.same s5).get (i := b) (by omega)
        refine ⟨.ref g, rfl, .int (b : Int), rfl, g, as.map V.ref, (b : Int), .ref r, rfl, rfl, .inl (.inl (RG3.same s5).hl), atI_nat (by rw [List.getElem?_map, er]; rfl), F, r, _, _, rfl, rfl, eF, hr1, ?_, fun N nN => ?_⟩
        · rw [List.length_map, natI_len, List.length_map, natI_len]
          have := (SN.wl : _)
          rw [List.length_append] at this
          exact Nat.le_of_lt (small300 (by omega))
        have s6 := s5.trans (same_new (o := .lst ((natI (ws.filter fun s => decide (s ≠ b))).map V.int ++ (natI (supN pl b)).map V.int)) nN)
        refine ⟨pl.length + 1 - (i + 1), by omega, i + 1, _, _, N, _, rfl, rfl, SN, xG3.trans (same_extN s6), tabs_same tG3 s6, RG3.same s6, s6 _ _ eD3, ?_, ?_⟩
        · rw [upd_same, natI_app, List.map_append]
        · exact Ne.symm (ne_of_none (s5 _ _ eD3) nN)
def spFirstSales (T : Tx K mg) : Sp := spSalesOf T
end
end PT

set_option maxHeartbeats 4000000
/-! every new box is sold n days after it was made -/
namespace PT
theorem ord_late {pl ss : List Int} (hP : Plant pl) (hs : ss.length = pl.length + 1) (hn : ss.Nodup) {d : Nat} (h : pl.length ≤ d) : Ord pl (dyn pl ss d) := by
  obtain ⟨a, b⟩ := dyn_len hs hn pl.length
  have z := ord_dyn hP a b (ord_end hP hs hn) (d - pl.length)
  rw [← dyn_add, show pl.length + (d - pl.length) = d by omega] at z
  exact z
theorem all_sold {pl ss : List Int} (hP : Plant pl) (hs : ss.length = pl.length + 1) (hn : ss.Nodup) : ∀ x ∈ dyn pl ss (pl.length + 1), mxv ss < x := by
  have hI : Waits (mxv ss < ·) pl ss := fun k a b c => by
    have := mxv_lt (ss := ss) (k := cu pl k) (by have := cu_lt pl a; omega)
    omega
  have h1 := olds_dyn hP hs hn hI pl.length (Nat.le_refl _)
  have h2 := olds_day (m := 0) (dyn_len hs hn pl.length).1 (by rw [dyn_mxv hs hn]; omega) (inv_dyn hP hs hn hI pl.length) (by omega)
  intro x hx
  refine Classical.byContradiction fun z => ?_
  have : 0 < olds (mxv ss) (dyn pl ss (pl.length + 1)) := List.countP_pos_iff.mpr ⟨x, hx, decide_eq_true (by omega)⟩
  have e : dyn pl ss (pl.length + 1) = (day pl (dyn pl ss pl.length) 0).2 := rfl
  rw [e] at this
  omega
theorem late_box {pl ss : List Int} (hP : Plant pl) (hs : ss.length = pl.length + 1) (hn : ss.Nodup) {d : Nat} (h : pl.length + 1 ≤ d) : ∀ x ∈ dyn pl ss d, mxv ss + d - (pl.length + 1 : Nat) < x ∧ x ≤ mxv ss + d := by
  obtain ⟨a, b⟩ := dyn_len hs hn (d - (pl.length + 1))
  have z := all_sold hP a b
  rw [← dyn_add, show d - (pl.length + 1) + (pl.length + 1) = d by omega, dyn_mxv hs hn] at z
  intro x hx
  have h1 := z x hx
  have h2 := (mxv_mem (l := dyn pl ss d) (fun e => by rw [e] at hx; cases hx)).2 x hx
  rw [dyn_mxv hs hn] at h2
  omega
theorem full_low {l : List Int} {t : Int} {n : Nat} (nd : l.Nodup) (hl : l.length = n) (h : ∀ x ∈ l, t < x ∧ x ≤ t + n) {m : Int} (m0 : t < m) (m1 : m ≤ t + n) : m ∈ l := by
  refine Classical.byContradiction fun z => ?_
  have nd2 : (m :: l).Nodup := List.nodup_cons.mpr ⟨z, nd⟩
  have k := nd2.length_le_of_subset (l₂ := (List.range n).map fun i : Nat => t + 1 + (i : Int)) fun x hx => by
    refine List.mem_map.mpr ⟨(x - t - 1).toNat, ?_, ?_⟩
    · rcases List.mem_cons.mp hx with e | e
      · rw [e]
        exact List.mem_range.mpr (by omega)
      · have := h x e
        exact List.mem_range.mpr (by omega)
    · rcases List.mem_cons.mp hx with e | e
      · rw [e]
        omega
      · have := h x e
        omega
  rw [List.length_cons, List.length_map, List.length_range, hl] at k
  omega
theorem ord_min {pl ss : List Int} (hs : ss.length = pl.length + 1) (h : Ord pl ss) : ∀ k : Nat, k ≤ pl.length → bx ss 0 ≤ bx ss k := by
  intro k
  induction k using Nat.strongRecOn with
  | ind k ih =>
    intro hk
    by_cases h0 : 0 < k
    · have hc := cu_lt pl h0
      have := ih _ hc (by omega)
      have := h k h0 hk
      omega
    · have : k = 0 := by omega
      subst this
      exact Int.le_refl _
/-- what is sold late -/
theorem late_sold {pl ss : List Int} (hP : Plant pl) (hs : ss.length = pl.length + 1) (hn : ss.Nodup) {d : Nat} (h : pl.length + 1 ≤ d) : bx (dyn pl ss d) 0 = mxv ss + d + 1 - (pl.length + 1 : Nat) := by
  obtain ⟨a, b⟩ := dyn_len hs hn d
  have lb := late_box hP hs hn h
  have m := full_low (t := mxv ss + d - (pl.length + 1 : Nat)) b a (fun x hx => by have := lb x hx; omega) (m := mxv ss + d + 1 - (pl.length + 1 : Nat)) (by omega) (by omega)
  obtain ⟨k, hk, e⟩ := List.getElem_of_mem m
  have z := bx_at hk
  rw [List.getElem?_eq_getElem hk, e] at z
  have o := ord_min a (ord_late hP hs hn (d := d) (by omega)) k (by omega)
  rw [← Option.some.inj z] at o
  have l := (lb _ (bx_mem (ss := dyn pl ss d) (k := 0) (by omega))).1
  rw [bx0] at l
  omega
/-- the first sales: all first boxes, each once -/
theorem sel_end {pl ss : List Int} (hP : Plant pl) (hs : ss.length = pl.length + 1) (hn : ss.Nodup) : ∀ i, i ≤ pl.length + 1 → ∃ ws M, Sel pl ss i ws M
  | 0, _ => ⟨_, _, .start pl ss⟩
  | i + 1, h => by
    obtain ⟨ws, M, S⟩ := sel_end hP hs hn i (by omega)
    have hw : ws ≠ [] := fun e => by have := S.end.mp e; omega
    obtain ⟨m, h1, h2⟩ : ∃ m ∈ ws, ∀ s ∈ ws, bx ss m ≤ bx ss s := by
      clear S h
      induction ws with
      | nil => exact absurd rfl hw
      | cons x xs ih =>
        by_cases hx : xs = []
        · exact ⟨x, by simp, fun s hs2 => by rw [hx, List.mem_singleton] at hs2; rw [hs2]; exact Int.le_refl _⟩
        · obtain ⟨m, a, b⟩ := ih hx
          by_cases c : bx ss x ≤ bx ss m
          · refine ⟨x, List.mem_cons_self .., fun s hs2 => ?_⟩
            rcases List.mem_cons.mp hs2 with e | e
            · rw [e]
              exact Int.le_refl _
            · have := b s e
              omega
          · refine ⟨m, List.mem_cons_of_mem _ a, fun s hs2 => ?_⟩
            rcases List.mem_cons.mp hs2 with e | e
            · rw [e]
              omega
            · exact b s e
    exact ⟨_, _, (S.next hP hs hn h1 h2).2⟩
theorem sold_nodup {pl ss : List Int} (hP : Plant pl) (hs : ss.length = pl.length + 1) (hn : ss.Nodup) : (sold pl ss (pl.length + 1)).Nodup ∧ ∀ x, x ∈ sold pl ss (pl.length + 1) ↔ x ∈ ss := by
  obtain ⟨ws, M, S⟩ := sel_end hP hs hn (pl.length + 1) (Nat.le_refl _)
  rw [S.sl]
  have all : ∀ s, s ≤ pl.length → s ∈ M := fun s h => Classical.byContradiction fun z => by
    have k := (List.nodup_cons.mpr ⟨z, S.mn⟩).length_le_of_subset (l₂ := List.range (pl.length + 1)) fun y hy => by
      rcases List.mem_cons.mp hy with e | e
      · exact List.mem_range.mpr (by omega)
      · exact List.mem_range.mpr (by have := S.mm y e; omega)
    rw [List.length_range, List.length_cons, S.ml] at k
    omega
  refine ⟨?_, fun x => ⟨fun h => ?_, fun h => ?_⟩⟩
  · refine List.pairwise_map.mpr (S.mn.imp_of_mem fun {a b} ha hb hne e => hne ?_)
    have := S.mm a ha
    have := S.mm b hb
    exact bx_inj hn (by omega) (by omega) e
  · obtain ⟨s, h1, rfl⟩ := List.mem_map.mp h
    have := S.mm s h1
    exact bx_mem (by omega)
  · obtain ⟨k, hk, rfl⟩ := List.getElem_of_mem h
    have z := bx_at hk
    rw [List.getElem?_eq_getElem hk] at z
    exact List.mem_map.mpr ⟨k, all k (by omega), (Option.some.inj z).symm⟩
theorem sold_at (pl ss : List Int) {n i : Nat} (h : i < n) : (sold pl ss n)[i]? = some (bx (dyn pl ss i) 0) := by
  unfold sold
  rw [List.getElem?_map, List.getElem?_range h]
  rfl
/-- the sales of all days are different boxes -/
theorem sale_inj {pl ss : List Int} (hP : Plant pl) (hs : ss.length = pl.length + 1) (hn : ss.Nodup) {i j : Nat} (e : bx (dyn pl ss i) 0 = bx (dyn pl ss j) 0) : i = j := by
  obtain ⟨nd, mem⟩ := sold_nodup hP hs hn
  have small : ∀ d, d ≤ pl.length → bx (dyn pl ss d) 0 ≤ mxv ss := fun d h => by
    have m : bx (dyn pl ss d) 0 ∈ ss := (mem _).mp (List.mem_of_getElem? (sold_at pl ss (n := pl.length + 1) (by omega)))
    exact (mxv_mem (fun z => by rw [z] at m; cases m)).2 _ m
  rcases Nat.lt_or_ge pl.length i with hi | hi
  · have a := late_sold hP hs hn (d := i) hi
    rcases Nat.lt_or_ge pl.length j with hj | hj
    · have b := late_sold hP hs hn (d := j) hj
      omega
    · have := small j hj
      omega
  · rcases Nat.lt_or_ge pl.length j with hj | hj
    · have := small i hi
      have b := late_sold hP hs hn (d := j) hj
      omega
    · have a := sold_at pl ss (n := pl.length + 1) (i := i) (by omega)
      have b := sold_at pl ss (n := pl.length + 1) (i := j) (by omega)
      rw [e, ← b] at a
      exact (List.getElem?_inj (i := i) (by rw [sold_len]; omega) nd).mp a
end PT

set_option maxHeartbeats 4000000
/-! ints among ints -/
namespace PT
open PySem PySem.Spec PyProof.Rows L2
theorem flat_intsV (ns : List Int) : (ns.map V.int).all flatV = true := List.all_eq_true.mpr fun v hv => by
  obtain ⟨n, _, rfl⟩ := List.mem_map.mp hv
  rfl
theorem inV_ints (x : Int) : ∀ ns : List Int, inV (.int x) (ns.map V.int) = decide (x ∈ ns)
  | [] => rfl
  | n :: ns => by
    have ih := inV_ints x ns
    have e : inV (.int x) ((n :: ns).map V.int) = (eqV (.int n) (.int x) || inV (.int x) (ns.map V.int)) := rfl
    rw [e, ih]
    by_cases c : n = x
    · subst c
      have : eqV (.int n) (.int n) = true := by simp [eqV]
      rw [this]
      simp
    · have : eqV (.int n) (.int x) = false := by simp [eqV, c]
      rw [this, Bool.false_or]
      by_cases d : x ∈ ns
      · rw [decide_eq_true d, decide_eq_true (List.mem_cons_of_mem _ d)]
      · rw [decide_eq_false d, decide_eq_false]
        intro z
        rcases List.mem_cons.mp z with y | y
        · exact c y.symm
        · exact d y
end PT


set_option maxHeartbeats 4000000
/-! the days of sales, as the program finds them -/
namespace PT
open PySem PySem.Spec PyProof.Rows L2 LamX NdefX
section
variable {P : Program} {w : World} {K : PySem.W.Frag} {mg : Str → Option Value} {base : Heap}
theorem okV_of {lo hi x : Int} (h0 : lo ≤ x) (h1 : x ≤ hi) : okV lo hi (.int x) = true := by
  show (decide (lo ≤ x) && decide (x ≤ hi)) = true
  rw [decide_eq_true h0, decide_eq_true h1]
  rfl
def spCheckBox : Sp := fun vs H Q _ => ∃ (q : Addr) (ss : List Int) (x : Int), vs = [.ref q, .int x] ∧ StkAt H q ss ∧ ss ≠ [] ∧ (x ∈ ss ∨ (mxv ss < x ∧ x ≤ mxv ss + 10 ^ 30)) ∧ Q .non H
theorem Tx.checkBox (T : Tx K mg) {k : Nat} : FnOk P w K mg base CX0 (k + 3) T.f_check_box T.d_check_box ["stock", "box"] spCheckBox := by
  refine T.F_check_box.ok scCheckBox (fun vs H Q E h => ?_) (fun cdv A outer s H vs Q E hr h => ?_)
  · obtain ⟨q, ss, x, rfl, _⟩ := h
    rfl
  · obtain ⟨q, ss, x, rfl, hq, hne, hx, qq⟩ := h
    refine ⟨_, (pss_cons (ps_if (PW.pt (pw_and (pt_val (pe_call (T.isInteger (k := 0)) (hr.mono (by omega)) (by rfl) T.g_is_integer T.F_is_integer.kp T.b_is_integer .nil pass0 (pa_cons (pv 1) pa_nil))) (pw_and1 (pt_cmpR op_in_seq (pv 1) (pv 0) (by rfl)))))
(pss_one ps_retN) pss_nil)
(pss_one (ps_if (pt_not (pt_val (pe_call (T.isWithin (k := 0)) (hr.mono (by omega)) (by rfl) T.g_is_within T.F_is_within.kp T.b_is_within .nil pass0 (pa_cons (pv 1) (pa_cons (pe_op op_add (pe_callB (call_maxT rfl hr.units) (by rfl) T.n_max (by decide +kernel) (pa_cons (pv 0) pa_nil)) pe_int) (pa_cons (pe_op op_add (pe_callB (call_maxT rfl hr.units) (by rfl) T.n_max (by decide +kernel) (pa_cons (pv 0) pa_nil)) (pe_glob (v := .int 1000000000000000000000000000000) (by rfl) T.g_FARTHEST_DAY ⟨_, rfl⟩)) pa_nil))))))
(pss_one ps_never) pss_nil))), ?_⟩
    refine ⟨.int x, rfl, .int x, "int", rfl, .int x, _, rfl, ?_⟩
    refine iteT ⟨.int x, rfl, .ref q, rfl, q, _, rfl, .inr hq.seq, rfl, flat_intsV ss, _, rfl, ?_⟩
    rw [inV_ints]
    by_cases c : x ∈ ss
    · rw [decide_eq_true c]
      exact iteT qq
    · rw [decide_eq_false c]
      obtain ⟨h0, h1⟩ := hx.resolve_left c
      refine iteF ⟨.int x, rfl, .ref q, rfl, q, ss, rfl, hq.seq, hne, _, _, rfl, rfl, .ref q, rfl, q, ss, rfl, hq.seq, hne, _, _, rfl, rfl, .int x, "int", _, _, rfl, .int x, true, ?_, iteF qq⟩
      exact congrArg V.bl (okV_of (by omega) h1)
def spSoldOn (T : Tx K mg) : Sp := fun vs H Q _ => ∃ (p q : Addr) (pl ss : List Int) (d : Nat), vs = [.ref p, .ref q, .int ((d + 1 : Nat) : Int)] ∧ PlantAt H p pl ∧ StkAt H q ss ∧ ss.length = pl.length + 1 ∧ ss.Nodup ∧ d < 10 ^ 30 ∧ Tabs T.tabW H ∧
  ∀ H', ExtN H H' → Tabs T.tabW H' → Q (.int (bx (dyn pl ss d) 0)) H'
theorem Tx.soldOn (T : Tx K mg) (B2 : TabB base mg T.c_oldest_giver T.P_oldest_giver) {k : Nat} : FnOk P w K mg base CX0 (k + 7) T.f_sold_on T.d_sold_on ["plant", "stock", "day"] (spSoldOn T) := by
  refine T.F_sold_on.ok scSoldOn (fun vs H Q E h => ?_) (fun cdv A outer s H vs Q E hr h => ?_)
  · obtain ⟨p, q, pl, ss, d, rfl, _⟩ := h
    rfl
  · obtain ⟨p, q, pl, ss, d, rfl, hP, hq, hs, hn, hd, hT, qq⟩ := h
    have hlen := hP.ok.len
    have hne : ss ≠ [] := fun z => by
      rw [z] at hs
      simp at hs
    refine ⟨_, (pss_cons (ps_expr (pe_call (T.checkPlant (k := 0)) (hr.mono (by omega)) (by rfl) T.g_check_plant T.F_check_plant.kp T.b_check_plant .nil pass0 (pa_cons (pv 0) pa_nil)))
(pss_cons (ps_expr (pe_call (T.checkStockF (k := 0)) (hr.mono (by omega)) (by rfl) T.g_check_stock T.F_check_stock.kp T.b_check_stock .nil pass0 (pa_cons (pv 0) (pa_cons (pv 1) pa_nil))))
(pss_cons (ps_expr (pe_call (T.checkDays (k := 0)) (hr.mono (by omega)) (by rfl) T.g_check_days T.F_check_days.kp T.b_check_days .nil pass0 (pa_cons (pv 2) (pa_cons pe_int (pa_cons (pe_glob (v := .int 1000000000000000000000000000000) (by rfl) T.g_FARTHEST_DAY ⟨_, rfl⟩) pa_nil)))))
(pss_cons (ps_if (pt_cmpR op_le (pv 2) (pe_callB call_len_seq (by rfl) T.n_len PySem.boot_len (pa_cons (pv 1) pa_nil)) (nomark _))
(pss_one (ps_ret (pe_ix ix_list (pe_call (T.salesOf B2 (k := 0)) (hr.mono (by omega)) (by rfl) T.g_sales_of_first T.F_sales_of_first.kp T.b_sales_of_first .nil pass0 (pa_cons (pv 0) (pa_cons (pv 1) pa_nil))) (pe_op op_sub (pv 2) pe_int) (fun _ _ => rfl)))) pss_nil)
(pss_one (ps_ret (pe_op op_sub (pe_op op_add (pe_callB (call_maxT rfl hr.units) (by rfl) T.n_max (by decide +kernel) (pa_cons (pv 1) pa_nil)) (pv 2)) (pe_callB call_len_seq (by rfl) T.n_len PySem.boot_len (pa_cons (pv 1) pa_nil))))))))), ?_⟩
    refine ⟨.ref p, rfl, .ref p, rfl, hP.fits, fun H1 s1 => ⟨.ref p, rfl, .ref q, rfl, p, q, pl.map V.int, ss, rfl, seqT s1 hP.seq, hq.same s1, by rw [List.length_map]; exact hs, by omega, hn, fun H2 s2 => ?_⟩⟩
    have s12 := s1.trans s2
    have hq2 := hq.same s12
    refine ⟨.int ((d + 1 : Nat) : Int), rfl, _, _, _, rfl, by omega, by omega, ?_⟩
    refine ⟨.int ((d + 1 : Nat) : Int), rfl, .ref q, rfl, q, _, rfl, .inr hq2.seq, _, _, rfl, rfl, _, rfl, ite2 (fun e => ?_) fun e => ?_⟩
    · have c := of_decide_eq_true e
      rw [List.length_map] at c
      refine ⟨.ref p, rfl, .ref q, rfl, p, q, pl, ss, rfl, hP.same s12, hq2, hs, hn, tabs_same hT s12, fun H3 l x3 t3 n3 e3 => ?_⟩
      refine ⟨.int ((d + 1 : Nat) : Int), rfl, _, 1, rfl, rfl, l, _, (d : Int), .int (bx (dyn pl ss d) 0), rfl, ?_, .inl (.inl e3), atI_nat (by rw [List.getElem?_map, sold_at pl ss (by omega)]; rfl), ?_⟩
      · exact congrArg V.int (by omega)
      · exact qq H3 ((same_extN s12).trans x3) t3
    · have c : ¬ ((d + 1 : Nat) : Int) ≤ (ss.map V.int).length := fun z => e (decide_eq_true z)
      rw [List.length_map] at c
      refine ⟨.ref q, rfl, q, ss, rfl, hq2.seq, hne, .int ((d + 1 : Nat) : Int), rfl, _, _, rfl, rfl, .ref q, rfl, q, _, rfl, .inr hq2.seq, _, _, rfl, rfl, ?_⟩
      have z := late_sold hP.ok hs hn (d := d) (by omega)
      rw [List.length_map, hs]
      show Q (.int (mxv ss + ((d + 1 : Nat) : Int) - ((pl.length + 1 : Nat) : Int))) H2
      rw [show mxv ss + ((d + 1 : Nat) : Int) - ((pl.length + 1 : Nat) : Int) = bx (dyn pl ss d) 0 by rw [z]; omega]
      exact qq H2 (same_extN s12) (tabs_same hT s12)
def spDaySold (T : Tx K mg) : Sp := fun vs H Q _ => ∃ (p q : Addr) (pl ss : List Int) (d : Nat), vs = [.ref p, .ref q, .int (bx (dyn pl ss d) 0)] ∧ PlantAt H p pl ∧ StkAt H q ss ∧ ss.length = pl.length + 1 ∧ ss.Nodup ∧ d < 10 ^ 30 + (pl.length + 1) ∧ Tabs T.tabW H ∧
  ∀ H', ExtN H H' → Tabs T.tabW H' → Q (.int ((d + 1 : Nat) : Int)) H'
theorem Tx.daySold (T : Tx K mg) (B2 : TabB base mg T.c_oldest_giver T.P_oldest_giver) {k : Nat} : FnOk P w K mg base CX0 (k + 7) T.f_day_sold T.d_day_sold ["plant", "stock", "box"] (spDaySold T) := by
  refine T.F_day_sold.ok scDaySold (fun vs H Q E h => ?_) (fun cdv A outer s H vs Q E hr h => ?_)
  · obtain ⟨p, q, pl, ss, d, rfl, _⟩ := h
    rfl
  · obtain ⟨p, q, pl, ss, d, rfl, hP, hq, hs, hn, hd, hT, qq⟩ := h
    have hlen := hP.ok.len
    have hne : ss ≠ [] := fun z => by
      rw [z] at hs
      simp at hs
    obtain ⟨nd1, mem1⟩ := sold_nodup hP.ok hs hn
    have early : d < pl.length + 1 → bx (dyn pl ss d) 0 ∈ ss := fun h => (mem1 _).mp (List.mem_of_getElem? (sold_at pl ss h))
    have late : ¬ d < pl.length + 1 → bx (dyn pl ss d) 0 = mxv ss + d + 1 - (pl.length + 1 : Nat) := fun h => late_sold hP.ok hs hn (by omega)
    refine ⟨_, (pss_cons (ps_expr (pe_call (T.checkPlant (k := 0)) (hr.mono (by omega)) (by rfl) T.g_check_plant T.F_check_plant.kp T.b_check_plant .nil pass0 (pa_cons (pv 0) pa_nil)))
(pss_cons (ps_expr (pe_call (T.checkStockF (k := 0)) (hr.mono (by omega)) (by rfl) T.g_check_stock T.F_check_stock.kp T.b_check_stock .nil pass0 (pa_cons (pv 0) (pa_cons (pv 1) pa_nil))))
(pss_cons (ps_expr (pe_call (T.checkBox (k := 0)) (hr.mono (by omega)) (by rfl) T.g_check_box T.F_check_box.kp T.b_check_box .nil pass0 (pa_cons (pv 1) (pa_cons (pv 2) pa_nil))))
(pss_cons (ps_if (pt_cmpR op_in_seq (pv 2) (pv 1) (by rfl))
(pss_one (ps_ret (pe_op op_add (pe_bm PySem.F.plainAttrs_list PySem.F.slot_list_index PySem.F.type_list_index mt_index (pe_call (T.salesOf B2 (k := 0)) (hr.mono (by omega)) (by rfl) T.g_sales_of_first T.F_sales_of_first.kp T.b_sales_of_first .nil pass0 (pa_cons (pv 0) (pa_cons (pv 1) pa_nil))) (pa_cons (pv 2) pa_nil)) pe_int))) pss_nil)
(pss_one (ps_ret (pe_op op_add (pe_op op_sub (pv 2) (pe_callB (call_maxT rfl hr.units) (by rfl) T.n_max (by decide +kernel) (pa_cons (pv 1) pa_nil))) (pe_callB call_len_seq (by rfl) T.n_len PySem.boot_len (pa_cons (pv 1) pa_nil))))))))), ?_⟩
    refine ⟨.ref p, rfl, .ref p, rfl, hP.fits, fun H1 s1 => ⟨.ref p, rfl, .ref q, rfl, p, q, pl.map V.int, ss, rfl, seqT s1 hP.seq, hq.same s1, by rw [List.length_map]; exact hs, by omega, hn, fun H2 s2 => ?_⟩⟩
    have s12 := s1.trans s2
    have hq2 := hq.same s12
    refine ⟨.ref q, rfl, .int (bx (dyn pl ss d) 0), rfl, q, ss, _, rfl, hq2, hne, ?_, ?_⟩
    · by_cases c : d < pl.length + 1
      · exact .inl (early c)
      · refine .inr ?_
        rw [late c]
        omega
    refine ⟨.int (bx (dyn pl ss d) 0), rfl, .ref q, rfl, q, _, rfl, .inr hq2.seq, rfl, flat_intsV ss, _, rfl, ?_⟩
    rw [inV_ints]
    by_cases c : d < pl.length + 1
    · rw [decide_eq_true (early c)]
      refine iteT ⟨.ref p, rfl, .ref q, rfl, p, q, pl, ss, rfl, hP.same s12, hq2, hs, hn, tabs_same hT s12, fun H3 l x3 t3 n3 e3 => ?_⟩
      rw [hs] at e3
      have ea := sold_at pl ss c
      refine ⟨.inl ⟨rfl, _, .inl (.inl e3)⟩, .int (bx (dyn pl ss d) 0), rfl, l, _, _, d, _, rfl, rfl, .inl (.inl e3), rfl, flat_intsV _, by rw [List.getElem?_map, ea]; rfl, by simp [eqV], fun m z' hm ez => ?_, ?_⟩
      · rw [List.getElem?_map, sold_at pl ss (n := pl.length + 1) (by omega)] at ez
        cases ez
        have : bx (dyn pl ss m) 0 ≠ bx (dyn pl ss d) 0 := fun y => by
          have := sale_inj hP.ok hs hn y
          omega
        simp [eqV, this]
      · exact ⟨_, _, rfl, rfl, qq H3 ((same_extN s12).trans x3) t3⟩
    · have no : bx (dyn pl ss d) 0 ∉ ss := fun z => by
        have := (mxv_mem hne).2 _ z
        rw [late c] at this
        omega
      rw [decide_eq_false no]
      refine iteF ⟨.int (bx (dyn pl ss d) 0), rfl, .ref q, rfl, q, ss, rfl, hq2.seq, hne, _, _, rfl, rfl, .ref q, rfl, q, _, rfl, .inr hq2.seq, _, _, rfl, rfl, ?_⟩
      rw [List.length_map, hs, late c]
      show Q (.int (mxv ss + (d : Int) + 1 - ((pl.length + 1 : Nat) : Int) - mxv ss + ((pl.length + 1 : Nat) : Int))) H2
      rw [show mxv ss + (d : Int) + 1 - ((pl.length + 1 : Nat) : Int) - mxv ss + ((pl.length + 1 : Nat) : Int) = ((d + 1 : Nat) : Int) by omega]
      exact qq H2 (same_extN s12) (tabs_same hT s12)
end
end PT

set_option maxHeartbeats 4000000
/-! tables beside a dict -/
namespace PT
open PySem PySem.Spec PyProof.Rows L2 LamX NdefX
theorem codeO_dic {c : Addr} {q : Str} (xs : List (Key × V)) : CodeO c q ≠ .dK xs := fun z => by
  unfold CodeO at z
  cases z
theorem tabs_dic {T : List (Addr × Str)} {H H' : Hp} {b : Addr} {xs : List (Key × V)} (h : Tabs T H) (e : H b = some (.dK xs)) (k : Bar b H H') : Tabs T H' := fun p hp => by
  obtain ⟨ps, h1, h2, h3⟩ := h p hp
  refine ⟨ps, k _ _ (fun z => ?_) h1, h2, fun pos cv hc => ?_⟩
  · rw [z, e] at h1
    cases h1
  · obtain ⟨c, e1, e2⟩ := h3 pos cv hc
    refine ⟨c, e1, k _ _ (fun z => ?_) e2⟩
    rw [z, e] at e2
    exact codeO_dic xs (Option.some.inj e2).symm
end PT


set_option maxHeartbeats 4000000
/-! law 30: the days of sales of a drawn plant -/
namespace PT
open PySem PySem.Spec PyProof.Rows L2 LamX NdefX
theorem PotAt.ext {H H' : Hp} {b : Addr} {n : Nat} (e : ExtN H H') (h : PotAt H b n) : PotAt H' b n := let ⟨x, y, z, q, r⟩ := h; ⟨x, y, z, extN_lst e q, r⟩
theorem PotAt.tabs {T : List (Addr × Str)} {H H' : Hp} {b : Addr} {n : Nat} (h : PotAt H b n) (t : Tabs T H) (e : Bar b H H') : Tabs T H' := let ⟨_, _, _, q, _⟩ := h; tabs_bar t q e
/-- the days by boxes -/
def daysK (pl ss : List Int) (i : Nat) : List (Key × V) := (List.range i).map fun j : Nat => (Sum.inl (bx (dyn pl ss j) 0), V.int ((j + 1 : Nat) : Int))
theorem daysK_len (pl ss : List Int) (i : Nat) : (daysK pl ss i).length = i := by
  unfold daysK
  rw [List.length_map, List.length_range]
theorem daysK_at (pl ss : List Int) {i j : Nat} (h : j < i) : (daysK pl ss i)[j]? = some (Sum.inl (bx (dyn pl ss j) 0), V.int ((j + 1 : Nat) : Int)) := by
  unfold daysK
  rw [List.getElem?_map, List.getElem?_range h]
  rfl
theorem daysK_succ (pl ss : List Int) (i : Nat) : daysK pl ss (i + 1) = daysK pl ss i ++ [(Sum.inl (bx (dyn pl ss i) 0), V.int ((i + 1 : Nat) : Int))] := by
  unfold daysK
  rw [List.range_succ, List.map_append]
  rfl
theorem daysK_val {pl ss : List Int} (hP : Plant pl) (hs : ss.length = pl.length + 1) (hn : ss.Nodup) (j : Nat) : ∀ i, valV (daysK pl ss i) (Sum.inl (bx (dyn pl ss j) 0)) = if j < i then some (V.int ((j + 1 : Nat) : Int)) else none
  | 0 => rfl
  | i + 1 => by
    have ih := daysK_val hP hs hn j i
    have hf : valV (daysK pl ss i) (Sum.inl (bx (dyn pl ss i) 0)) = none := by
      have z := daysK_val hP hs hn i i
      rw [if_neg (Nat.lt_irrefl _)] at z
      exact z
    rw [daysK_succ, valV_snoc _ _ _ _ hf, ih]
    by_cases c : j = i
    · subst c
      rw [if_pos rfl, if_pos (by omega)]
    · rw [if_neg (fun e => c (sale_inj hP hs hn (Sum.inl.inj e)))]
      by_cases d : j < i
      · rw [if_pos d, if_pos (by omega)]
      · rw [if_neg d, if_neg (by omega)]
theorem daysK_put {pl ss : List Int} (hP : Plant pl) (hs : ss.length = pl.length + 1) (hn : ss.Nodup) (i : Nat) : putK (daysK pl ss i) (Sum.inl (bx (dyn pl ss i) 0)) (V.int ((i + 1 : Nat) : Int)) = daysK pl ss (i + 1) := by
  have z := daysK_val hP hs hn i i
  rw [if_neg (Nat.lt_irrefl _)] at z
  have a := valV_any (Sum.inl (bx (dyn pl ss i) 0)) (daysK pl ss i)
  rw [z] at a
  unfold putK
  rw [a, if_neg (by simp), daysK_succ]
section
variable {P : Program} {w : World} {K : PySem.W.Frag} {mg : Str → Option Value} {base : Heap}
theorem rp_int {H : Hp} (n : Int) : Rp K H (.int n) (.int n) := .dp (.int n)
theorem nice_num {n : Int} (h : n.natAbs < 10 ^ 50) : Nice 270000 50 (.int n) := (nice_int h).mono (by decide) (by decide)
theorem sale_small {pl ss : List Int} (hP : Plant pl) (so : StockOk pl ss) (d : Nat) (hd : d ≤ 2 * 10 ^ 30) : (bx (dyn pl ss d) 0).natAbs < 10 ^ 50 := by
  have h1 := dyn_bd so.len so.nd (l := -(10 ^ 36)) (u := 10 ^ 36) so.sm d (bx (dyn pl ss d) 0) (by rw [← bx0]; exact bx_mem (by rw [(dyn_len so.len so.nd d).1]; omega))
  omega
def spRight (T : Tx K mg) : Sp := fun vs H Q _ => ∃ (b : Addr) (n : Nat), vs = [.ref b] ∧ PotAt H b n ∧ n ≤ 1000000000 ∧ Tabs T.tabW H ∧ ∀ H' : Hp, PotAt H' b (n + 300) → BarN b H H' → Tabs T.tabW H' → Q (.bl true) H'
abbrev NLR : List Str := ["pot", "plant", "stock", "givers", "here", "days", "kept", "day", "made", "last", "item"]
theorem ok_right (T : Tx K mg) (B2 : TabB base mg T.c_oldest_giver T.P_oldest_giver) : FnG P w K mg base 9 T.f__law_right T.d__law_right ["pot"] (spRight T) := by
  refine Fun.okG T.F__law_right scLawRight (fun vs H Q E h => ?_) (fun cdv A outer s H vs Q E hgd hr h => ?_)
  · obtain ⟨b, n, rfl, _⟩ := h
    rfl
  · obtain ⟨b, n, rfl, hb, hn, hT, qq⟩ := h
    have nd := scLawRight.nd
    have hu := hu_of hr
    have hA : (A.deeper (envOfC "_law_right" (defScope sLawRight) s.heap.objs.size T.f__law_right cdv)).guards = some [] := hgd
    refine ⟨_, (pss_cons (ps_set (i := 1) nd rfl (.inr rfl) (pe_call (ok_plant T) (hr.mono (by omega)) (by rfl) T.g__law_plant T.F__law_plant.kp T.b__law_plant .nil pass0 (pa_cons (pv 0) (pa_cons pe_int pa_nil))))
(pss_cons (ps_asg (pe_tup (pa_cons (pe_call (ok_stock T) (hr.mono (by omega)) (by rfl) T.g__law_stock T.F__law_stock.kp T.b__law_stock .nil pass0 (pa_cons (pv 0) (pa_cons (pv 1) pa_nil))) (pa_cons (pe_call (ok_givers T) (hr.mono (by omega)) (by rfl) T.g__law_givers T.F__law_givers.kp T.b__law_givers .nil pass0 (pa_cons (pv 1) pa_nil)) pa_nil))) (pg_tup (by rfl) (pgs_cons (pg_name (i := 2) nd rfl (.inr rfl)) (pgs_cons (pg_name (i := 3) nd rfl (.inl rfl)) pgs_nil))))
(pss_cons (ps_asg (pe_tup (pa_cons (pv 2) (pa_cons pe_dnewK (pa_cons (pe_callB (call_reprD hA hr.units) (by rfl) T.n_repr (by decide +kernel) (pa_cons (pe_lst (pa_cons (pv 1) (pa_cons (pv 2) pa_nil))) pa_nil)) pa_nil)))) (pg_tup (by rfl) (pgs_cons (pg_name (i := 4) nd rfl (.inl rfl)) (pgs_cons (pg_name (i := 5) nd rfl (.inr rfl)) (pgs_cons (pg_name (i := 6) nd rfl (.inl rfl)) pgs_nil)))))
(pss_cons (ps_for PassesOwn.never rfl (pi_range2 (by rfl) T.n_range (pa_cons pe_int (pa_cons pe_int pa_nil))) (pg_name (i := 7) nd rfl (.inl rfl))
(pss_cons (ps_if (pt_cmpR op_ne (pe_callB (call_reprD hA hr.units) (by rfl) T.n_repr (by decide +kernel) (pa_cons (pe_call (T.soldOn B2 (k := 0)) (hr.mono (by omega)) (by rfl) T.g_sold_on T.F_sold_on.kp T.b_sold_on .nil pass0 (pa_cons (pv 1) (pa_cons (pv 2) (pa_cons (pv 7) pa_nil)))) pa_nil)) (pe_callB (call_reprD hA hr.units) (by rfl) T.n_repr (by decide +kernel) (pa_cons (pe_ix ix_tup (pv 4) pe_int (fun _ _ => rfl)) pa_nil)) (nomark _))
(pss_one (ps_ret pe_bl)) pss_nil)
(pss_cons (ps_dput hu (pv 5) (pe_ix ix_tup (pv 4) pe_int (fun _ _ => rfl)) (pv 7) rfl)
(pss_one (ps_set (i := 4) nd rfl (.inl rfl) (pe_ix ix_tup (pe_call (ok_day T) (hr.mono (by omega)) (by rfl) T.g__law_day T.F__law_day.kp T.b__law_day .nil pass0 (pa_cons (pv 3) (pa_cons (pv 4) pa_nil))) pe_int (fun _ _ => rfl)))))))
(pss_cons (ps_if (pt_cmpR (op_neD hr.units) (pe_lock (pe_lc (own := [("item", 10)]) (g := gName 10) (tt := (tTest (tOp rNe (tCB (fun xs H Q => ∃ v d W, xs = [v] ∧ Rp K H v d ∧ Nice W 50 d ∧ W ≤ 270000 ∧ Q (.str d.shown) H) (tCons (tCall (spDaySold T) [] E0 (tCons (tVar 1) (tCons (tVar 2) (tCons (tVar 10) tNil)))) tNil)) (tCB (fun xs H Q => ∃ v d W, xs = [v] ∧ Rp K H v d ∧ Nice W 50 d ∧ W ≤ 270000 ∧ Q (.str d.shown) H) (tCons (tDGet (tVar 5) (tVar 10)) tNil))))) (te := (tVar 10)) rfl nd (pi_keys (pv 5))
(blkOk_by (N := ["pot", "plant", "stock", "givers", "here", "days", "kept", "day", "made", "last", "item"]) (sc := defScope sLawRight) (by decide +kernel)) (fun _ _ _ _ _ => (pg_name (i := 10) nd rfl (.inl rfl))) (fun _ _ _ _ _ => (pts_one (pt_cmpR op_ne (pe_callB (call_reprD hA hr.units) (by rfl) T.n_repr (by decide +kernel) (pa_cons (pe_call (T.daySold B2 (k := 0)) (hr.mono (by omega)) (by rfl) T.g_day_sold T.F_day_sold.kp T.b_day_sold .nil pass0 (pa_cons (pv 1) (pa_cons (pv 2) (pa_cons (pv 10) pa_nil)))) pa_nil)) (pe_callB (call_reprD hA hr.units) (by rfl) T.n_repr (by decide +kernel) (pa_cons (pe_dget hu (pv 5) (pv 10) (fun _ _ => rfl)) pa_nil)) (nomark _)))) (fun _ _ _ _ _ => (pv 10)))) (pe_lst pa_nil) (nomark _))
(pss_one (ps_ret pe_bl)) pss_nil)
(pss_cons (ps_for PassesOwn.never rfl (pi_list (pe_lst (pa_cons (pe_op op_add pe_int (pe_call (ok_draw T) (hr.mono (by omega)) (by rfl) T.g__law_draw T.F__law_draw.kp T.b__law_draw .nil pass0 (pa_cons (pv 0) (pa_cons (pe_op op_pow pe_int pe_int) pa_nil)))) (pa_cons (pe_op op_add pe_int (pe_call (ok_draw T) (hr.mono (by omega)) (by rfl) T.g__law_draw T.F__law_draw.kp T.b__law_draw .nil pass0 (pa_cons (pv 0) (pa_cons (pe_op op_sub (pe_op op_pow pe_int pe_int) pe_int) pa_nil)))) (pa_cons (pe_op op_pow pe_int pe_int) pa_nil))))) (pg_name (i := 7) nd rfl (.inl rfl))
(pss_cons (ps_set (i := 8) nd rfl (.inl rfl) (pe_op op_sub (pe_op op_add (pe_callB (call_maxT rfl hr.units) (by rfl) T.n_max (by decide +kernel) (pa_cons (pv 2) pa_nil)) (pv 7)) (pe_callB call_len_seq (by rfl) T.n_len PySem.boot_len (pa_cons (pv 2) pa_nil))))
(pss_one (ps_if (pt_cmpR op_ne (pe_callB (call_reprD hA hr.units) (by rfl) T.n_repr (by decide +kernel) (pa_cons (pe_lst (pa_cons (pe_call (T.soldOn B2 (k := 0)) (hr.mono (by omega)) (by rfl) T.g_sold_on T.F_sold_on.kp T.b_sold_on .nil pass0 (pa_cons (pv 1) (pa_cons (pv 2) (pa_cons (pv 7) pa_nil)))) (pa_cons (pe_call (T.daySold B2 (k := 0)) (hr.mono (by omega)) (by rfl) T.g_day_sold T.F_day_sold.kp T.b_day_sold .nil pass0 (pa_cons (pv 1) (pa_cons (pv 2) (pa_cons (pv 8) pa_nil)))) pa_nil))) pa_nil)) (pe_callB (call_reprD hA hr.units) (by rfl) T.n_repr (by decide +kernel) (pa_cons (pe_lst (pa_cons (pv 8) (pa_cons (pv 7) pa_nil))) pa_nil)) (nomark _))
(pss_one (ps_ret pe_bl)) pss_nil))))
(pss_cons (ps_set (i := 9) nd rfl (.inl rfl) (pe_op op_add (pe_callB (call_maxT rfl hr.units) (by rfl) T.n_max (by decide +kernel) (pa_cons (pv 2) pa_nil)) (pe_op op_pow pe_int pe_int)))
(pss_one (ps_ret (pe_and (pe_cmpR op_eq (pe_call (T.daySold B2 (k := 0)) (hr.mono (by omega)) (by rfl) T.g_day_sold T.F_day_sold.kp T.b_day_sold .nil pass0 (pa_cons (pv 1) (pa_cons (pv 2) (pa_cons (pv 9) pa_nil)))) (pe_op op_add (pe_op op_pow pe_int pe_int) (pe_callB call_len_seq (by rfl) T.n_len PySem.boot_len (pa_cons (pv 2) pa_nil))) (nomark _)) (pe_one (pe_cmpR op_eq (pe_callB (call_reprD hA hr.units) (by rfl) T.n_repr (by decide +kernel) (pa_cons (pe_lst (pa_cons (pv 1) (pa_cons (pv 2) pa_nil))) pa_nil)) (pv 6) (nomark _))))))))))))), ?_⟩
    -- plant, stock, givers
    refine ⟨.ref b, rfl, b, 40, n, rfl, by decide, by decide, hb, by omega, fun H1 p pl k1 B1 n1 P1 m1 => ?_⟩
    refine ⟨.ref b, rfl, .ref p, rfl, b, p, pl, n + 50, rfl, k1, by omega, P1, fun H2 q ss k2 B2' n2 T2 so => ?_⟩
    have P2 := P1.barP B2' k1
    refine ⟨.ref p, rfl, p, pl, rfl, P2, fun H3 g as L => ⟨(by show 2 ≤ sizeLine; decide), fun t1 nt1 => ?_⟩⟩
    have hs := so.len
    have hn2 := so.nd
    have hpl := P1.ok.len
    have hP := P1.ok
    have st1 := same_new (o := .tup [V.ref q, .ref g]) nt1
    refine ⟨t1, _, rfl, .inl (.inl upd_same), rfl, _, _, rfl, _, _, rfl, rfl, ?_⟩
    -- here, days, kept
    refine ⟨.ref q, rfl, fun dd ndd => ⟨.ref p, rfl, .ref q, rfl, (by show 2 ≤ sizeLine; decide), fun t nt => ?_⟩⟩
    have sA := L.sm.trans st1
    have st2 := same_new (o := .dK []) ndd
    have st3 := same_new (o := .lst [V.ref p, .ref q]) nt
    have T6 := T2.same (sA.trans (st2.trans st3))
    have P6 := P2.same (sA.trans (st2.trans st3))
    have dq : q ≠ dd := (T2.same sA).ne_none ndd
    have dp : p ≠ dd := ne_of_none (P2.same sA).at_ ndd
    have nice := nice_pair hP so
    refine ⟨.ref t, pairD pl ss, 270000, rfl, rp_pair upd_same P6.seq T6.seq, nice.mono (by decide) (by decide), by decide, (by show 3 ≤ sizeLine; decide), fun t2 nt2 => ?_⟩
    have st4 := same_new (o := .tup [V.ref q, .ref dd, .str (pairD pl ss).shown]) nt2
    refine ⟨t2, _, rfl, .inl (.inl upd_same), rfl, _, _, rfl, _, _, rfl, _, _, rfl, rfl, ?_⟩
    have k6 := k2.same (sA.trans (st2.trans (st3.trans st4)))
    have B6 : Bar b H _ := B1.trans (B2'.trans (Same.bar (sA.trans (st2.trans (st3.trans st4)))))
    have t6 := hb.tabs hT B6
    have edd := (st3.trans st4) _ _ (upd_same (H := upd H3 t1 (.tup [V.ref q, .ref g])) (a := dd) (o := .dK []))
    have G6 := L.giv.same (st1.trans (st2.trans (st3.trans st4)))
    have T7 := T6.same st4
    have P7 := P6.same st4
    have db : dd ≠ b := (k2.same sA).some ndd
    have gdd : g ≠ dd := ne_of_none (st1 _ _ L.hl) ndd
    have asdd : ∀ a ∈ as, a ≠ dd := fun a ha => by
      obtain ⟨xs, z⟩ := L.rows.mem ha
      exact ne_of_none (st1 _ _ z) ndd
    have BN := B6.barN
    revert k6 t6 edd G6 T7 P7 BN
    clear B6 st4 T6 P6 st3 st2 nt2 nt
    generalize (upd _ t2 _) = H6
    intro k6 t6 edd G6 T7 P7 BN
    have nHd : H dd = none := B1.freeP k1 (B2'.freeP k2 (sA.free ndd))
    -- the first hundred days
    refine ⟨1, 101, rfl, ⟨by decide, by decide, by decide, by decide⟩, ?_⟩
    rw [show ((101 : Int) - 1).toNat = 100 from rfl]
    refine for_range (lo := 1) (n := 100) (fun i σ G => ∃ (y7 : Option V) (hq : Addr), σ = [some (.ref b), some (.ref p), some (.ref q), some (.ref g), some (.ref hq), some (.ref dd), some (.str (pairD pl ss).shown), y7, none, none, none] ∧ BarN dd H6 G ∧ Tabs T.tabW G ∧ TupF G hq ((dyn pl ss i).map V.int) ∧ hq ≠ dd ∧ G dd = some (.dK (daysK pl ss i)))
      ⟨none, q, rfl, .refl _ _, t6, T7, dq, edd⟩ (fun i σ G hi p1 => ?_) (fun σ G p1 => ?_)
    · obtain ⟨y7, hq, rfl, bG, tG, Th, hqd, eG⟩ := p1
      obtain ⟨dl, dn⟩ := dyn_len hs hn2 i
      have PG : PlantAt G p pl := ⟨bG.tup dp P7.at_, hP⟩
      have qG : StkAt G q ss := T7.stk.bar bG dq
      refine ⟨.ref p, rfl, .ref q, rfl, _, rfl, p, q, pl, ss, i, ?_, PG, qG, hs, hn2, by omega, tG, fun G2 x2 tt2 => ?_⟩
      · exact congrArg (fun z => [V.ref p, .ref q, .int z]) (by omega)
      have sm := sale_small hP so i (by omega)
      have Th2 := Th.kept fun o ho => x2 _ _ ho fun ps z => by subst z; obtain ⟨o2, e2, _⟩ := Th; rw [ho] at e2; cases e2
      refine ⟨_, _, _, rfl, rp_int _, nice_num sm, by decide, .ref hq, rfl, hq, _, 0, .int (bx (dyn pl ss i) 0), rfl, rfl, Th2.seq, atI_nat (j := 0) (by rw [List.getElem?_map, bx_at (ss := dyn pl ss i) (k := 0) (by omega)]; rfl), _, _, _, rfl, rp_int _, nice_num sm, by decide, rfl, _, rfl, iteNS rfl ?_⟩
      have e2 : G2 dd = some (.dK (daysK pl ss i)) := x2 _ _ eG fun ps z => by cases z
      refine ⟨_, rfl, .ref dd, rfl, .ref hq, rfl, hq, _, 0, .int (bx (dyn pl ss i) 0), rfl, rfl, Th2.seq, atI_nat (j := 0) (by rw [List.getElem?_map, bx_at (ss := dyn pl ss i) (k := 0) (by omega)]; rfl), dd, _, rfl, DPut.k (k := Sum.inl (bx (dyn pl ss i) 0)) e2 (by rw [daysK_len]; exact small300 (by omega)), ?_⟩
      have e3 : putK (daysK pl ss i) (Sum.inl (bx (dyn pl ss i) 0)) (V.int (1 + ((i : Nat) : Int))) = daysK pl ss (i + 1) := by
        rw [← daysK_put hP hs hn2 i]
        exact congrArg (fun z => putK (daysK pl ss i) (Sum.inl (bx (dyn pl ss i) 0)) (V.int z)) (by omega)
      rw [e3]
      have bG3 : BarN dd H6 (upd G2 dd (.dK (daysK pl ss (i + 1)))) := fun c o h1 h2 h3 => by
        rw [upd_ne h1]
        exact x2 c o (bG c o h1 h2 h3) h3
      have Th3 : TupF (upd G2 dd (.dK (daysK pl ss (i + 1)))) hq ((dyn pl ss i).map V.int) := Th2.kept fun o ho => by
        rw [upd_ne hqd]
        exact ho
      have G3 : GivAt (upd G2 dd (.dK (daysK pl ss (i + 1)))) g as pl := ⟨bG3.lst gdd G6.hl, G6.len, fun j a ea => bG3.lst (asdd a (List.mem_of_getElem? ea)) (G6.at_ j a ea)⟩
      refine ⟨.ref g, rfl, .ref hq, rfl, g, hq, as, pl, dyn pl ss i, rfl, G3, hP, Th3, dl, dn, fun H7 t7 c7 r7 s7 m7 mc e7 er et => ?_⟩
      have t3' : Tabs T.tabW (upd G2 dd (.dK (daysK pl ss (i + 1)))) := tabs_dic tt2 e2 bar_upd
      refine ⟨t7, _, 1, .ref r7, rfl, rfl, .inl (.inl et), rfl, _, r7, rfl, bG3.trans (Same.barN s7), tabs_same t3' s7, er, fun z => ?_, s7 _ _ upd_same⟩
      obtain ⟨o, e5, _⟩ := er
      rw [z, s7 _ _ upd_same] at e5
      cases e5
    · obtain ⟨y7, hq, rfl, bG, tG, Th, hqd, eG⟩ := p1
      have PG : PlantAt G p pl := ⟨bG.tup dp P7.at_, hP⟩
      have qG : StkAt G q ss := T7.stk.bar bG dq
      -- [item for item in days if ..] != []
      refine ⟨dd, .dK (daysK pl ss 100), eG, trivial, fun od => ?_⟩
      have tL : Tabs T.tabW (upd G dd (.frz od (.dK (daysK pl ss 100)))) := tabs_dic tG eG bar_upd
      have bL : BarN dd G (upd G dd (.frz od (.dK (daysK pl ss 100)))) := Bar.barN bar_upd
      have PL : PlantAt (upd G dd (.frz od (.dK (daysK pl ss 100)))) p pl := ⟨bL.tup dp PG.at_, hP⟩
      have qL : StkAt (upd G dd (.frz od (.dK (daysK pl ss 100)))) q ss := qG.bar bL dq
      have eL : (upd G dd (.frz od (.dK (daysK pl ss 100)))) dd = some (.frz od (.dK (daysK pl ss 100))) := upd_same
      revert tL bL PL qL eL
      generalize upd G dd (.frz od (.dK (daysK pl ss 100))) = GL
      intro tL bL PL qL eL
      refine ⟨.ref dd, rfl, dd, od, rfl, .inl ⟨_, eL, fun D nD => ?_⟩⟩
      have dD : dd ≠ D := ne_of_none eL nD
      refine lc_it (walk_keys (kvs := daysK pl ss 100)) (fun i H' => ExtN GL H' ∧ Tabs T.tabW H' ∧ H' D = some (.lst [])) ⟨same_extN (same_new nD), tabs_same tL (same_new nD), upd_same⟩ (fun i H' _ p1 => p1.1 _ _ eL fun ps z => by cases z) (fun i x G0 G' hi p1 y => ?_) (fun G' p1 => ?_)
      · obtain ⟨xL, t1', eD⟩ := p1
        obtain ⟨rfl, kk, vv, ek, rfl⟩ := y
        rw [daysK_len] at hi
        rw [daysK_at pl ss hi] at ek
        cases ek
        have sm : ((i + 1 : Nat) : Int).natAbs < 10 ^ 50 := by omega
        refine ⟨rfl, .ref p, rfl, .ref q, rfl, .int (bx (dyn pl ss i) 0), rfl, p, q, pl, ss, i, rfl, extN_plant xL PL, qL.ext xL, hs, hn2, by omega, t1', fun G2 x2 tt2 => ?_⟩
        have e2 : G2 dd = some (.frz od (.dK (daysK pl ss 100))) := x2 _ _ (xL _ _ eL fun ps z => by cases z) fun ps z => by cases z
        refine ⟨_, _, _, rfl, rp_int _, nice_num sm, by decide, .ref dd, rfl, .int (bx (dyn pl ss i) 0), rfl, dd, .int ((i + 1 : Nat) : Int), rfl, ?_, _, _, _, rfl, rp_int _, nice_num sm, by decide, rfl, _, rfl, iteNS rfl ?_⟩
        · have z := daysK_val hP hs hn2 i 100
          rw [if_pos hi] at z
          exact .inl ⟨_, Sum.inl (bx (dyn pl ss i) 0), .inr ⟨od, e2⟩, rfl, z.symm⟩
        · exact ⟨xL.trans x2, tt2, extN_lst x2 eD⟩
      · obtain ⟨xL, t1', eD⟩ := p1
        have e9 : G' dd = some (.frz od (.dK (daysK pl ss 100))) := xL _ _ eL fun ps z => by cases z
        refine ⟨e9, ?_⟩
        have bU : Bar dd G' (upd G' dd (.dK (daysK pl ss 100))) := bar_upd
        have BD : BarN dd H6 (upd G' dd (.dK (daysK pl ss 100))) := bG.trans (bL.trans ((extN_barN xL).trans bU.barN))
        have BB : BarN b H (upd G' dd (.dK (daysK pl ss 100))) := fun c o h1 h2 h3 => BD c o (ne_of_none h2 nHd) (BN c o h1 h2 h3) h3
        have tU : Tabs T.tabW (upd G' dd (.dK (daysK pl ss 100))) := by
          refine fun p2 hp2 => ?_
          obtain ⟨ps, h1, h2, h3⟩ := t1' p2 hp2
          refine ⟨ps, ?_, h2, fun pos cv hc => ?_⟩
          · rw [upd_ne (fun z => by rw [z, e9] at h1; cases h1)]
            exact h1
          · obtain ⟨c, e1, e2⟩ := h3 pos cv hc
            refine ⟨c, e1, ?_⟩
            rw [upd_ne (fun z => by rw [z, e9] at e2; unfold CodeO at e2; cases e2)]
            exact e2
        have PU : PlantAt (upd G' dd (.dK (daysK pl ss 100))) p pl := ⟨BD.tup dp P7.at_, hP⟩
        have qU : StkAt (upd G' dd (.dK (daysK pl ss 100))) q ss := T7.stk.bar BD dq
        have kU : PotAt (upd G' dd (.dK (daysK pl ss 100))) b (n + 150) := by
          obtain ⟨x, y, z, e, r⟩ := k6
          exact PotAt.mono (n := n + 50 + 100) ⟨x, y, z, BD.lst (Ne.symm db) e, r⟩ (by omega)
        have eDU : (upd G' dd (.dK (daysK pl ss 100))) D = some (.lst []) := by
          rw [upd_ne (Ne.symm dD)]
          exact eD
        revert BB tU PU qU kU eDU
        generalize upd G' dd (.dK (daysK pl ss 100)) = GU
        clear e9 bU BD eD t1' xL nD dD tL bL PL qL eL PG qG tG Th eG bG k6 t6 edd G6 T7 P7 BN
        intro BB tU PU qU kU eDU
        refine ⟨Nat.zero_le _, fun e ne => ⟨.list [], .list [], .lst (.inl (.inl (upd_at eDU ne))) .nil, .lst (.inl (.inl upd_same)) .nil, by decide, by decide, _, rfl, ?_⟩⟩
        rw [show (!PyData.eqv (.list []) (.list [])) = false from by decide +kernel]
        refine iteF ?_
        have s7 := same_new (o := .lst []) ne
        have P8 := PU.same s7
        have q8 := qU.same s7
        have k8 := kU.same s7
        have t8 := tabs_same tU s7
        have B8 := BB.trans (Same.barN s7)
        generalize upd GU e (.lst []) = H8 at P8 q8 k8 t8 B8
        clear BB tU PU qU kU eDU s7
        -- for day in [..]
        refine ⟨.ref b, rfl, 10, 9, rfl, rfl, ⟨by decide, by decide, by decide⟩, b, _, n + 150, rfl, by decide, by decide, k8, by omega, fun r1 G1 r10 r11 k9 B9 o9 => ?_⟩
        refine ⟨101, r1, rfl, rfl, .ref b, rfl, 10, 30, rfl, rfl, ⟨by decide, by decide, by decide⟩, _, 100, rfl, rfl, b, _, n + 150 + 1, rfl, by decide, by decide, k9, by omega, fun r2 G2 r20 r21 k10 B10 o10 => ?_⟩
        refine ⟨101, r2, rfl, rfl, 10, 30, rfl, rfl, ⟨by decide, by decide, by decide⟩, (by show 3 ≤ sizeLine; decide), fun l3 nl3 => ⟨l3, rfl, ⟨_, .inl (.inl upd_same)⟩, ?_⟩⟩
        have bb := B9.trans B10
        have st9 := same_new (o := .lst [V.int (101 + r1), .int (101 + r2), .int (10 ^ Int.toNat 30)]) nl3
        have P9 : PlantAt _ p pl := (P8.barP bb k8).same st9
        have q9 : StkAt _ q ss := (q8.bar bb.barN (by obtain ⟨x, y, z, e5, _⟩ := k8; exact q8.ne e5)).same st9
        have t9 := tabs_same (k8.tabs t8 bb) st9
        have k11 := k10.same st9
        have B11 := B8.trans (bb.barN.trans (Same.barN st9))
        obtain ⟨xs, exs, hxs, lxs⟩ : ∃ xs : List Int, [V.int (101 + r1), .int (101 + r2), .int (10 ^ Int.toNat 30)] = xs.map V.int ∧ (∀ x ∈ xs, 101 ≤ x ∧ x ≤ 10 ^ 30) ∧ xs.length = 3 := ⟨[101 + r1, 101 + r2, 10 ^ 30], rfl, fun x hx => by
          rcases List.mem_cons.mp hx with e1 | hx
          · have : (10 : Int) ^ Int.toNat 9 = 1000000000 := by decide
            omega
          · rcases List.mem_cons.mp hx with e1 | hx
            · have : (10 : Int) ^ Int.toNat 30 = 10 ^ 30 := by decide
              omega
            · rw [List.mem_singleton.mp hx]
              omega, rfl⟩
        have el3 := upd_same (H := G2) (a := l3) (o := .lst [V.int (101 + r1), .int (101 + r2), .int (10 ^ Int.toNat 30)])
        have nl3' : l3 ≠ b := k10.some nl3
        revert P9 q9 t9 k11 B11 el3
        generalize upd G2 l3 (.lst [V.int (101 + r1), .int (101 + r2), .int (10 ^ Int.toNat 30)]) = H9
        rw [exs]
        intro P9 q9 t9 k11 B11 el3
        clear st9 bb nl3 k10 B10 o10 r21 r20 k9 B9 o9 r10 r11 B8 t8 k8 q8 P8
        have hne : ss ≠ [] := fun z => by
          rw [z] at hs
          simp at hs
        refine for_list (xs := xs.map V.int) (fun i σ G => ∃ (y7 y8 : Option V) (hq : Addr), σ = [some (.ref b), some (.ref p), some (.ref q), some (.ref g), some (.ref hq), some (.ref dd), some (.str (pairD pl ss).shown), y7, y8, none, none] ∧ ExtN H9 G ∧ Tabs T.tabW G)
          ⟨_, none, _, rfl, fun _ _ z _ => z, t9⟩ (fun i σ G _ p1 => let ⟨_, _, _, _, x, _⟩ := p1; .inl (.inl (extN_lst x el3))) (fun i x σ G ex p1 => ?_) (fun σ G p1 => ?_)
        · obtain ⟨y7, y8, hq, rfl, xG, tG⟩ := p1
          obtain ⟨v, ev, rfl⟩ : ∃ v, xs[i]? = some v ∧ V.int v = x := by
            rw [List.getElem?_map] at ex
            cases q2 : xs[i]? with
            | none => rw [q2] at ex; cases ex
            | some v => rw [q2] at ex; cases ex; exact ⟨v, rfl, rfl⟩
          obtain ⟨v0, v1⟩ := hxs v (List.mem_of_getElem? ev)
          obtain ⟨d, rfl⟩ : ∃ d : Nat, v = ((d + 1 : Nat) : Int) := ⟨(v - 1).toNat, by omega⟩
          have PG := extN_plant xG P9
          have qG := q9.ext xG
          have lt := late_sold hP hs hn2 (d := d) (by omega)
          have sm := sale_small hP so d (by omega)
          refine ⟨.ref q, rfl, q, ss, rfl, qG.seq, hne, .int ((d + 1 : Nat) : Int), rfl, _, _, rfl, rfl, .ref q, rfl, q, _, rfl, .inr qG.seq, _, _, rfl, rfl, ?_⟩
          have em : mxv ss + ((d + 1 : Nat) : Int) - ((ss.map V.int).length : Int) = bx (dyn pl ss d) 0 := by
            rw [lt, List.length_map, hs]
            omega
          dsimp only
          rw [em]
          refine ⟨.ref p, rfl, .ref q, rfl, .int ((d + 1 : Nat) : Int), rfl, p, q, pl, ss, d, rfl, PG, qG, hs, hn2, by omega, tG, fun G2 x2 t2 => ?_⟩
          refine ⟨.ref p, rfl, .ref q, rfl, .int (bx (dyn pl ss d) 0), rfl, p, q, pl, ss, d, rfl, extN_plant x2 PG, qG.ext x2, hs, hn2, by omega, t2, fun G3 x3 t3 => ?_⟩
          have nS : Nice 270000 50 (.list ([bx (dyn pl ss d) 0, ((d + 1 : Nat) : Int)].map PyData.int)) := (nice_small (ns := [bx (dyn pl ss d) 0, ((d + 1 : Nat) : Int)]) (fun z hz => by
            rcases List.mem_cons.mp hz with e1 | hz
            · rw [e1]; exact sm
            · rw [List.mem_singleton.mp hz]; omega) (by show 2 ≤ 300; omega)).mono (by decide) (by decide)
          refine ⟨(by show 2 ≤ sizeLine; decide), fun u1 nu1 => ⟨.ref u1, _, _, rfl, .dp (.lst (.inl (.inl upd_same)) (dp_ints [bx (dyn pl ss d) 0, ((d + 1 : Nat) : Int)])), nS, by decide, ?_⟩⟩
          refine ⟨.int (bx (dyn pl ss d) 0), rfl, .int ((d + 1 : Nat) : Int), rfl, (by show 2 ≤ sizeLine; decide), fun u2 nu2 => ⟨.ref u2, _, _, rfl, .dp (.lst (.inl (.inl upd_same)) (dp_ints [bx (dyn pl ss d) 0, ((d + 1 : Nat) : Int)])), nS, by decide, rfl, _, rfl, iteNS rfl ?_⟩⟩
          have s12 := (same_new (o := .lst [V.int (bx (dyn pl ss d) 0), .int ((d + 1 : Nat) : Int)]) nu1).trans (same_new (o := .lst [V.int (bx (dyn pl ss d) 0), .int ((d + 1 : Nat) : Int)]) nu2)
          exact ⟨_, _, _, rfl, (xG.trans (x2.trans x3)).trans (same_extN s12), tabs_same t3 s12⟩
        · obtain ⟨y7, y8, hq, rfl, xG, tG⟩ := p1
          have PG := extN_plant xG P9
          have qG := q9.ext xG
          obtain ⟨d, ed⟩ : ∃ d : Nat, d = 10 ^ 30 + pl.length := ⟨_, rfl⟩
          have lt := late_sold hP hs hn2 (d := d) (by omega)
          refine ⟨.ref q, rfl, q, ss, rfl, qG.seq, hne, 10, 30, rfl, rfl, ⟨by decide, by decide, by decide⟩, _, _, rfl, rfl, ?_⟩
          have em : mxv ss + 10 ^ Int.toNat 30 = bx (dyn pl ss d) 0 := by
            have : (10 : Int) ^ Int.toNat 30 = 10 ^ 30 := by decide
            rw [lt]
            omega
          dsimp only
          rw [em]
          refine ⟨.ref p, rfl, .ref q, rfl, .int (bx (dyn pl ss d) 0), rfl, p, q, pl, ss, d, rfl, PG, qG, hs, hn2, by omega, tG, fun G2 x2 t2 => ?_⟩
          refine ⟨10, 30, rfl, rfl, ⟨by decide, by decide, by decide⟩, .ref q, rfl, q, _, rfl, .inr (qG.ext x2).seq, _, _, rfl, rfl, rfl, true, ?_, ?_⟩
          · refine congrArg V.bl (decide_eq_true (congrArg V.int ?_))
            have : (10 : Int) ^ Int.toNat 30 = 10 ^ 30 := by decide
            rw [List.length_map, hs]
            omega
          rw [if_pos rfl]
          refine ⟨.ref p, rfl, .ref q, rfl, (by show 2 ≤ sizeLine; decide), fun t11 n11 => ⟨.ref t11, pairD pl ss, 270000, rfl, rp_pair upd_same (seqT (same_new n11) (extN_plant x2 PG).seq) ((qG.ext x2).same (same_new n11)).seq, nice.mono (by decide) (by decide), by decide, .str (pairD pl ss).shown, rfl, rfl, ?_⟩⟩
          rw [decide_eq_true rfl]
          have x12 := xG.trans (x2.trans (same_extN (same_new (o := .lst [V.ref p, .ref q]) n11)))
          exact qq _ ((k11.ext x12).mono (by omega)) (B11.trans (extN_barN x12)) (tabs_same t2 (same_new n11))
end
end PT


set_option maxHeartbeats 4000000
/-! law 30: its body -/
namespace PT
open PySem PySem.Spec PyProof.Rows L2 LamX NdefX
section
variable {P : Program} {w : World} {K : PySem.W.Frag} {mg : Str → Option Value} {base : Heap}
theorem plant0 : Plant [] := ⟨by decide, fun i x h => by simp at h⟩
theorem sqL_bar {H0 H H' : Hp} {a b : Addr} {xs : List V} (h0 : SqL K H0 a xs) (n : H0 b = none) (h : SqL K H a xs) (e : BarN b H H') : SqL K H' a xs := by
  rcases h0 with h0 | h0
  · have ne : a ≠ b := by
      rcases h0 with h0 | ⟨o, h0⟩
      · exact ne_of_none h0 n
      · exact ne_of_none h0 n
    rcases h with (h | ⟨o, h⟩) | h
    · exact .inl (.inl (e _ _ ne h fun ps z => by cases z))
    · exact .inl (.inr ⟨o, e _ _ ne h fun ps z => by cases z⟩)
    · exact .inr h
  · exact .inr h0
theorem one_sold (j : Nat) : bx (dyn [] [7] j) 0 = 7 + (j : Int) := by
  rcases Nat.lt_or_ge j 1 with h | h
  · have : j = 0 := by omega
    subst this
    decide +kernel
  · have z := late_sold plant0 (ss := [7]) rfl (by decide) (d := j) h
    rw [z, show mxv [7] = 7 from by decide +kernel]
    show (7 : Int) + j + 1 - 1 = 7 + j
    omega
theorem law_body (T : Tx K mg) (B2 : TabB base mg T.c_oldest_giver T.P_oldest_giver) {f a : Addr} {cdv : Value} {st : Shared} {H : Hp} {ns : List Int} (hl : ns.length ≤ 63) (hS : SqL K H a (ns.map V.int)) (hT : Tabs T.tabW H) (hr : Room 9 (callerA.deeper (envOfC "law" (defScope sLaw) st.heap.objs.size f cdv))) :
    ∃ t, PSs (cxOf CX0 P w K mg base ["script", "k", "pot", "day"] "law" (defScope sLaw) f cdv callerA [] st H fun _ _ _ => False).nox (defBody sLaw) t ∧ t { nx := fun _ _ => V.non = .bl true, rt := fun v _ => v = .bl true } (start ["script", "k", "pot", "day"] [.ref a]) H := by
  have nd := scLaw.nd
  refine ⟨_, (pss_cons (ps_for PassesOwn.never rfl (pi_range1 (by rfl) T.n_range (pa_cons (pe_callB (call_max2 rfl) (by rfl) T.n_max (by decide +kernel) (pa_cons pe_int (pa_cons (pe_callB (call_min2 rfl) (by rfl) T.n_min (by decide +kernel) (pa_cons pe_int (pa_cons (pe_callB call_len_seq (by rfl) T.n_len PySem.boot_len (pa_cons (pv 0) pa_nil)) pa_nil))) pa_nil))) pa_nil)) (pg_name (i := 1) nd rfl (.inl rfl))
(pss_cons (ps_set (i := 2) nd rfl (.inl rfl) (pe_call (ok_pot T) (hr.mono (by omega)) (by rfl) T.g__law_pot T.F__law_pot.kp T.b__law_pot .nil pass0 (pa_cons (pv 0) (pa_cons (pv 1) pa_nil))))
(pss_one (ps_if (PW.pt (pw_or (pt_not (pt_val (pe_callG (ok_right T B2) rfl (hr.mono (by omega)) (by rfl) T.g__law_right T.F__law_right.kp T.b__law_right .nil (pa_cons (pv 2) pa_nil)))) (pw_or1 (pt_not (pt_val (pe_callG (ok_right T B2) rfl (hr.mono (by omega)) (by rfl) T.g__law_right T.F__law_right.kp T.b__law_right .nil (pa_cons (pv 2) pa_nil)))))))
(pss_one (ps_ret pe_bl)) pss_nil))))
(pss_one (ps_ret (pe_cmpR (op_eqD hr.units) (pe_lc (own := [("day", 3)]) (g := gName 3) (tt := tYes) (te := (tCall (spSoldOn T) [] E0 (tCons (tTup tNil) (tCons (tTup (tCons (tC (.int 7)) tNil)) (tCons (tVar 3) tNil))))) rfl nd (pi_range2 (by rfl) T.n_range (pa_cons pe_int (pa_cons pe_int pa_nil)))
(blkOk_by (N := ["script", "k", "pot", "day"]) (sc := defScope sLaw) (by decide +kernel)) (fun _ _ _ _ _ => (pg_name (i := 3) nd rfl (.inl rfl))) (fun _ _ _ _ _ => pts_nil) (fun _ _ _ _ _ => (pe_call (T.soldOn B2 (k := 0)) (hr.mono (by omega)) (by rfl) T.g_sold_on T.F_sold_on.kp T.b_sold_on .nil pass0 (pa_cons (pe_tup pa_nil) (pa_cons (pe_tup (pa_cons pe_int pa_nil)) (pa_cons (pv 3) pa_nil)))))) (pe_lst (pa_cons pe_int (pa_cons pe_int (pa_cons pe_int pa_nil)))) (nomark _))))), ?_⟩
  -- for k in range(..)
  refine ⟨.ref a, rfl, a, _, rfl, .inl hS, _, _, rfl, _, _, rfl, ?_⟩
  have hm : ∃ M : Int, (if (if ((ns.map V.int).length : Int) < 4 then ((ns.map V.int).length : Int) else 4) > 1 then (if ((ns.map V.int).length : Int) < 4 then ((ns.map V.int).length : Int) else 4) else 1) = M ∧ 1 ≤ M ∧ M ≤ 4 := ⟨_, rfl, by split <;> omega, by split <;> (try split) <;> omega⟩
  obtain ⟨M, eM, M1, M2⟩ := hm
  rw [eM]
  refine ⟨M, rfl, by omega, by omega, ?_⟩
  refine for_range (lo := 0) (n := M.toNat) (fun i σ H' => ∃ y1 y2 y3 : Option V, σ = [some (.ref a), y1, y2, y3] ∧ SqL K H' a (ns.map V.int) ∧ Tabs T.tabW H') ⟨none, none, none, rfl, hS, hT⟩ (fun i σ H' hi p1 => ?_) (fun σ H' p1 => ?_)
  · obtain ⟨y1, y2, y3, rfl, S1, t1⟩ := p1
    refine ⟨.ref a, rfl, .int (0 + ((i : Nat) : Int)), rfl, a, ns, i, congrArg (fun z => [V.ref a, V.int z]) (Int.zero_add _), S1, by omega, fun b o nb kb => ?_⟩
    have S2 := sqL_bar S1 nb S1 (Same.barN (same_new (o := o) nb))
    refine ⟨.ref b, rfl, b, 0, rfl, kb, by omega, tabs_same t1 (same_new nb), fun H3 k3 B3 t3 => ⟨true, rfl, ?_⟩⟩
    refine iteF ⟨.ref b, rfl, b, 300, rfl, k3.mono (by omega), by omega, t3, fun H4 k4 B4 t4 => ⟨true, rfl, ?_⟩⟩
    exact iteF ⟨_, _, _, rfl, sqL_bar S1 nb (sqL_bar S1 nb S2 B3) B4, t4⟩
  · obtain ⟨y1, y2, y3, rfl, S1, t1⟩ := p1
    -- [sold_on((), (7,), day) for day in range(1, 4)] == [7, 8, 9]
    refine ⟨1, 4, rfl, ⟨by decide, by decide, by decide, by decide⟩, fun D nD => ?_⟩
    rw [show ((4 : Int) - 1).toNat = 3 from rfl]
    refine lc_range (lo := 1) (n := 3) (fun i G => Tabs T.tabW G ∧ G D = some (.lst (((List.range i).map fun j : Nat => 7 + (j : Int)).map V.int))) ⟨tabs_same t1 (same_new nD), upd_same⟩ (fun i G hi p2 => ?_) (fun G p2 => ?_)
    · obtain ⟨t2, eD⟩ := p2
      refine ⟨rfl, tyes_if ⟨Nat.zero_le _, fun p np => ⟨(by show 1 ≤ sizeLine; decide), fun q nq => ⟨.int (1 + ((i : Nat) : Int)), rfl, p, q, [], [7], i, ?_, ⟨upd_at upd_same nq, plant0⟩, .inl upd_same, rfl, by decide, by omega, tabs_same (tabs_same t2 (same_new np)) (same_new nq), fun H2 x2 t3 => ?_⟩⟩⟩⟩
      · exact congrArg (fun z => [V.ref p, .ref q, .int z]) (by omega)
      · have eD2 := extN_lst x2 (upd_at (upd_at eD np) nq)
        refine ⟨_, eD2, ?_, ?_, ?_⟩
        · rw [List.length_map, List.length_map, List.length_range]
          exact small300 (by omega)
        · exact tabs_set t3 eD2
        · rw [upd_same, one_sold, List.range_succ, List.map_append, List.map_append]
          rfl
    · obtain ⟨t2, eD⟩ := p2
      refine ⟨(by show 3 ≤ sizeLine; decide), fun c nc => ?_⟩
      refine ⟨.list ([7, 8, 9].map PyData.int), .list ([7, 8, 9].map PyData.int), .lst (.inl (.inl (upd_at eD nc))) (dp_ints [7, 8, 9]), .lst (.inl (.inl upd_same)) (dp_ints [7, 8, 9]), shaped_ints _, shaped_ints _, ?_⟩
      exact congrArg V.bl (by decide +kernel)
end
end PT

set_option maxHeartbeats 8000000
/-! the end: what the top has left, and the law's call -/
namespace PT
open PySem PySem.Spec PyProof.Rows L2 LamX NdefX
theorem all_mk {l : PySem.W.OpenLaw} {w : World} {K : PySem.W.Frag} {mg : Str → Option Value} {fa a : Addr} {st : Shared} {ns : List Int} {p9 p10 p11 p12 p13 p14 p15 p17 p19 p21 p22 p23 p24 p26 p27 p28 p29 p30 p31 p32 p33 p34 : Addr} {t_MOST_STATIONS : Tok} {t_FARTHEST_DAY : Tok}
    (X : K.In st.heap) (G : st.heap.Ns mainGlobals mg) (hfa : mg "law" = some (.ref fa)) (hl : ns.length ≤ 63)
    {od9 an9 od10 an10 od11 an11 od12 an12 od13 an13 od14 an14 od15 an15 od17 an17 od19 an19 od21 an21 od22 an22 od23 an23 od24 an24 od26 an26 od27 an27 od28 an28 od29 an29 od30 an30 od31 an31 od32 an32 od33 an33 od34 an34 : Option Addr} {sl9 sl10 sl11 sl12 sl13 sl14 sl15 sl17 sl19 sl21 sl22 sl23 sl24 sl26 sl27 sl28 sl29 sl30 sl31 sl32 sl33 sl34 : Array (Option Value)} {oc9 kV9 dc9 pm9 ct9 cd9 oc10 kV10 dc10 pm10 ct10 cd10 oc11 kV11 dc11 pm11 ct11 cd11 oc12 kV12 dc12 pm12 ct12 cd12 oc13 kV13 dc13 pm13 ct13 cd13 oc14 kV14 dc14 pm14 ct14 cd14 oc15 kV15 dc15 pm15 ct15 cd15 oc17 kV17 dc17 pm17 ct17 cd17 oc19 kV19 dc19 pm19 ct19 oc21 kV21 dc21 pm21 ct21 cd21 oc22 kV22 dc22 pm22 ct22 cd22 oc23 kV23 dc23 pm23 ct23 cd23 oc24 kV24 dc24 pm24 ct24 cd24 oc26 kV26 dc26 pm26 ct26 cd26 oc27 kV27 dc27 pm27 ct27 cd27 oc28 kV28 dc28 pm28 ct28 cd28 oc29 kV29 dc29 pm29 ct29 cd29 oc30 kV30 dc30 pm30 ct30 cd30 oc31 kV31 dc31 pm31 ct31 cd31 oc32 kV32 dc32 pm32 ct32 cd32 oc33 kV33 dc33 pm33 ct33 cd33 oc34 kV34 dc34 pm34 ct34 cd34 : Value}
    {cc19 PP19 : Addr}
    (a9 : PySem.W.nsIn K mainGlobals "is_integer" = some (some (.ref p9))) (l9 : K.lookup p9 = some ⟨oc9, od9, .func (PySem.W.fnOf "is_integer" "is_integer" (defArgs sIsInteger) (defBody sIsInteger) (defScope sIsInteger) .none kV9 dc9 pm9 an9 cd9 ct9), sl9⟩) (c9 : PySem.W.codeIn K cd9 "is_integer" = true) (k9 : PySem.W.keepIn K (.ref p9) = true)
    (a10 : PySem.W.nsIn K mainGlobals "is_within" = some (some (.ref p10))) (l10 : K.lookup p10 = some ⟨oc10, od10, .func (PySem.W.fnOf "is_within" "is_within" (defArgs sIsWithin) (defBody sIsWithin) (defScope sIsWithin) .none kV10 dc10 pm10 an10 cd10 ct10), sl10⟩) (c10 : PySem.W.codeIn K cd10 "is_within" = true) (k10 : PySem.W.keepIn K (.ref p10) = true)
    (a11 : PySem.W.nsIn K mainGlobals "fits_plant" = some (some (.ref p11))) (l11 : K.lookup p11 = some ⟨oc11, od11, .func (PySem.W.fnOf "fits_plant" "fits_plant" (defArgs sFitsPlant) (defBody sFitsPlant) (defScope sFitsPlant) .none kV11 dc11 pm11 an11 cd11 ct11), sl11⟩) (c11 : PySem.W.codeIn K cd11 "fits_plant" = true) (k11 : PySem.W.keepIn K (.ref p11) = true)
    (a12 : PySem.W.nsIn K mainGlobals "fits_stock" = some (some (.ref p12))) (l12 : K.lookup p12 = some ⟨oc12, od12, .func (PySem.W.fnOf "fits_stock" "fits_stock" (defArgs sFitsStock) (defBody sFitsStock) (defScope sFitsStock) .none kV12 dc12 pm12 an12 cd12 ct12), sl12⟩) (c12 : PySem.W.codeIn K cd12 "fits_stock" = true) (k12 : PySem.W.keepIn K (.ref p12) = true)
    (a13 : PySem.W.nsIn K mainGlobals "check_plant" = some (some (.ref p13))) (l13 : K.lookup p13 = some ⟨oc13, od13, .func (PySem.W.fnOf "check_plant" "check_plant" (defArgs sCheckPlant) (defBody sCheckPlant) (defScope sCheckPlant) .none kV13 dc13 pm13 an13 cd13 ct13), sl13⟩) (c13 : PySem.W.codeIn K cd13 "check_plant" = true) (k13 : PySem.W.keepIn K (.ref p13) = true)
    (a14 : PySem.W.nsIn K mainGlobals "check_stock" = some (some (.ref p14))) (l14 : K.lookup p14 = some ⟨oc14, od14, .func (PySem.W.fnOf "check_stock" "check_stock" (defArgs sCheckStock) (defBody sCheckStock) (defScope sCheckStock) .none kV14 dc14 pm14 an14 cd14 ct14), sl14⟩) (c14 : PySem.W.codeIn K cd14 "check_stock" = true) (k14 : PySem.W.keepIn K (.ref p14) = true)
    (a15 : PySem.W.nsIn K mainGlobals "check_days" = some (some (.ref p15))) (l15 : K.lookup p15 = some ⟨oc15, od15, .func (PySem.W.fnOf "check_days" "check_days" (defArgs sCheckDays) (defBody sCheckDays) (defScope sCheckDays) .none kV15 dc15 pm15 an15 cd15 ct15), sl15⟩) (c15 : PySem.W.codeIn K cd15 "check_days" = true) (k15 : PySem.W.keepIn K (.ref p15) = true)
    (a17 : PySem.W.nsIn K mainGlobals "supplier_lists" = some (some (.ref p17))) (l17 : K.lookup p17 = some ⟨oc17, od17, .func (PySem.W.fnOf "supplier_lists" "supplier_lists" (defArgs sSupplierLists) (defBody sSupplierLists) (defScope sSupplierLists) .none kV17 dc17 pm17 an17 cd17 ct17), sl17⟩) (c17 : PySem.W.codeIn K cd17 "supplier_lists" = true) (k17 : PySem.W.keepIn K (.ref p17) = true)
    (a19 : PySem.W.nsIn K mainGlobals "oldest_giver" = some (some (.ref p19))) (l19 : K.lookup p19 = some ⟨oc19, od19, .func (PySem.W.fnOf "oldest_giver" "oldest_giver" (defArgs sOldestGiver) (defBody sOldestGiver) (defScope sOldestGiver) .none kV19 dc19 pm19 an19 (.ref cc19) ct19), sl19⟩) (c19 : PySem.W.codeIn K (.ref cc19) "oldest_giver" = true) (k19 : PySem.W.keepIn K (.ref p19) = true)
    (a21 : PySem.W.nsIn K mainGlobals "sold_on" = some (some (.ref p21))) (l21 : K.lookup p21 = some ⟨oc21, od21, .func (PySem.W.fnOf "sold_on" "sold_on" (defArgs sSoldOn) (defBody sSoldOn) (defScope sSoldOn) .none kV21 dc21 pm21 an21 cd21 ct21), sl21⟩) (c21 : PySem.W.codeIn K cd21 "sold_on" = true) (k21 : PySem.W.keepIn K (.ref p21) = true)
    (a22 : PySem.W.nsIn K mainGlobals "day_sold" = some (some (.ref p22))) (l22 : K.lookup p22 = some ⟨oc22, od22, .func (PySem.W.fnOf "day_sold" "day_sold" (defArgs sDaySold) (defBody sDaySold) (defScope sDaySold) .none kV22 dc22 pm22 an22 cd22 ct22), sl22⟩) (c22 : PySem.W.codeIn K cd22 "day_sold" = true) (k22 : PySem.W.keepIn K (.ref p22) = true)
    (a23 : PySem.W.nsIn K mainGlobals "check_box" = some (some (.ref p23))) (l23 : K.lookup p23 = some ⟨oc23, od23, .func (PySem.W.fnOf "check_box" "check_box" (defArgs sCheckBox) (defBody sCheckBox) (defScope sCheckBox) .none kV23 dc23 pm23 an23 cd23 ct23), sl23⟩) (c23 : PySem.W.codeIn K cd23 "check_box" = true) (k23 : PySem.W.keepIn K (.ref p23) = true)
    (a24 : PySem.W.nsIn K mainGlobals "sales_of_first" = some (some (.ref p24))) (l24 : K.lookup p24 = some ⟨oc24, od24, .func (PySem.W.fnOf "sales_of_first" "sales_of_first" (defArgs sSalesOfFirst) (defBody sSalesOfFirst) (defScope sSalesOfFirst) .none kV24 dc24 pm24 an24 cd24 ct24), sl24⟩) (c24 : PySem.W.codeIn K cd24 "sales_of_first" = true) (k24 : PySem.W.keepIn K (.ref p24) = true)
    (a26 : PySem.W.nsIn K mainGlobals "_law_pot" = some (some (.ref p26))) (l26 : K.lookup p26 = some ⟨oc26, od26, .func (PySem.W.fnOf "_law_pot" "_law_pot" (defArgs sLawPot) (defBody sLawPot) (defScope sLawPot) .none kV26 dc26 pm26 an26 cd26 ct26), sl26⟩) (c26 : PySem.W.codeIn K cd26 "_law_pot" = true) (k26 : PySem.W.keepIn K (.ref p26) = true)
    (a27 : PySem.W.nsIn K mainGlobals "_law_draw" = some (some (.ref p27))) (l27 : K.lookup p27 = some ⟨oc27, od27, .func (PySem.W.fnOf "_law_draw" "_law_draw" (defArgs sLawDraw) (defBody sLawDraw) (defScope sLawDraw) .none kV27 dc27 pm27 an27 cd27 ct27), sl27⟩) (c27 : PySem.W.codeIn K cd27 "_law_draw" = true) (k27 : PySem.W.keepIn K (.ref p27) = true)
    (a28 : PySem.W.nsIn K mainGlobals "_law_mixed" = some (some (.ref p28))) (l28 : K.lookup p28 = some ⟨oc28, od28, .func (PySem.W.fnOf "_law_mixed" "_law_mixed" (defArgs sLawMixed) (defBody sLawMixed) (defScope sLawMixed) .none kV28 dc28 pm28 an28 cd28 ct28), sl28⟩) (c28 : PySem.W.codeIn K cd28 "_law_mixed" = true) (k28 : PySem.W.keepIn K (.ref p28) = true)
    (a29 : PySem.W.nsIn K mainGlobals "_law_plant" = some (some (.ref p29))) (l29 : K.lookup p29 = some ⟨oc29, od29, .func (PySem.W.fnOf "_law_plant" "_law_plant" (defArgs sLawPlant) (defBody sLawPlant) (defScope sLawPlant) .none kV29 dc29 pm29 an29 cd29 ct29), sl29⟩) (c29 : PySem.W.codeIn K cd29 "_law_plant" = true) (k29 : PySem.W.keepIn K (.ref p29) = true)
    (a30 : PySem.W.nsIn K mainGlobals "_law_stock" = some (some (.ref p30))) (l30 : K.lookup p30 = some ⟨oc30, od30, .func (PySem.W.fnOf "_law_stock" "_law_stock" (defArgs sLawStock) (defBody sLawStock) (defScope sLawStock) .none kV30 dc30 pm30 an30 cd30 ct30), sl30⟩) (c30 : PySem.W.codeIn K cd30 "_law_stock" = true) (k30 : PySem.W.keepIn K (.ref p30) = true)
    (a31 : PySem.W.nsIn K mainGlobals "_law_givers" = some (some (.ref p31))) (l31 : K.lookup p31 = some ⟨oc31, od31, .func (PySem.W.fnOf "_law_givers" "_law_givers" (defArgs sLawGivers) (defBody sLawGivers) (defScope sLawGivers) .none kV31 dc31 pm31 an31 cd31 ct31), sl31⟩) (c31 : PySem.W.codeIn K cd31 "_law_givers" = true) (k31 : PySem.W.keepIn K (.ref p31) = true)
    (a32 : PySem.W.nsIn K mainGlobals "_law_day" = some (some (.ref p32))) (l32 : K.lookup p32 = some ⟨oc32, od32, .func (PySem.W.fnOf "_law_day" "_law_day" (defArgs sLawDay) (defBody sLawDay) (defScope sLawDay) .none kV32 dc32 pm32 an32 cd32 ct32), sl32⟩) (c32 : PySem.W.codeIn K cd32 "_law_day" = true) (k32 : PySem.W.keepIn K (.ref p32) = true)
    (a33 : PySem.W.nsIn K mainGlobals "_law_right" = some (some (.ref p33))) (l33 : K.lookup p33 = some ⟨oc33, od33, .func (PySem.W.fnOf "_law_right" "_law_right" (defArgs sLawRight) (defBody sLawRight) (defScope sLawRight) .none kV33 dc33 pm33 an33 cd33 ct33), sl33⟩) (c33 : PySem.W.codeIn K cd33 "_law_right" = true) (k33 : PySem.W.keepIn K (.ref p33) = true)
    (a34 : PySem.W.nsIn K mainGlobals "law" = some (some (.ref p34))) (l34 : K.lookup p34 = some ⟨oc34, od34, .func (PySem.W.fnOf "law" "law" (defArgs sLaw) (defBody sLaw) (defScope sLaw) .none kV34 dc34 pm34 an34 cd34 ct34), sl34⟩) (c34 : PySem.W.codeIn K cd34 "law" = true) (k34 : PySem.W.keepIn K (.ref p34) = true)
    (aM_MOST_STATIONS : PySem.W.nsIn K mainGlobals "MOST_STATIONS" = some (some (.int 40 t_MOST_STATIONS)))
    (aM_FARTHEST_DAY : PySem.W.nsIn K mainGlobals "FARTHEST_DAY" = some (some (.int 1000000000000000000000000000000 t_FARTHEST_DAY)))
    (z_all : PySem.W.nsIn K mainGlobals "all" = some none)
    (z_bool : PySem.W.nsIn K mainGlobals "bool" = some none)
    (z_enumerate : PySem.W.nsIn K mainGlobals "enumerate" = some none)
    (z_int : PySem.W.nsIn K mainGlobals "int" = some none)
    (z_isinstance : PySem.W.nsIn K mainGlobals "isinstance" = some none)
    (z_len : PySem.W.nsIn K mainGlobals "len" = some none)
    (z_list : PySem.W.nsIn K mainGlobals "list" = some none)
    (z_max : PySem.W.nsIn K mainGlobals "max" = some none)
    (z_min : PySem.W.nsIn K mainGlobals "min" = some none)
    (z_range : PySem.W.nsIn K mainGlobals "range" = some none)
    (z_repr : PySem.W.nsIn K mainGlobals "repr" = some none)
    (z_set : PySem.W.nsIn K mainGlobals "set" = some none)
    (z_tuple : PySem.W.nsIn K mainGlobals "tuple" = some none)
    (t19 : st.heap.get? PP19 = some (PySem.W.tabObj #[])) (h19 : PySem.W.codeHdIn K cc19 PP19 = true) (z19 : K.lookup PP19 = none) :
    ∃ cs : List (Addr × Addr), (∀ p ∈ cs, st.heap.get? p.2 = some (PySem.W.tabObj #[])) ∧ (∀ p ∈ cs, K.lookup p.2 = none) ∧ (∀ p ∈ cs, PySem.W.CodeHd st.heap p.1 p.2) ∧
      ∀ (base : Heap) (H : Hp), K.In base → base.Ns mainGlobals mg → (∀ p ∈ cs, TabB base mg p.1 p.2) → (∀ p ∈ cs, H p.2 = some (.tbl #[])) → SqL K H a (ns.map V.int) → Env0 l.prog w K mg base callerA [] st H →
      codeAny (model l.prog w) callerA (.call (.ref fa) ⟨[.ref a], []⟩) (CR CX0 [] l.prog w H st (fun v _ => v = .bl true) fun _ _ _ => False) st := by
  have e := hfa.symm.trans (PySem.W.mg_of X G a34)
  cases e
  have F9 := fun_mk (st := sIsInteger) l9 c9 k9
  have b9 := F9.binds (ps := ["value"]) fun _ _ _ _ _ _ us hl => match us, hl with | [_], _ => rfl
  have F10 := fun_mk (st := sIsWithin) l10 c10 k10
  have b10 := F10.binds (ps := ["value", "least", "most"]) fun _ _ _ _ _ _ us hl => match us, hl with | [_, _, _], _ => rfl
  have F11 := fun_mk (st := sFitsPlant) l11 c11 k11
  have b11 := F11.binds (ps := ["value"]) fun _ _ _ _ _ _ us hl => match us, hl with | [_], _ => rfl
  have F12 := fun_mk (st := sFitsStock) l12 c12 k12
  have b12 := F12.binds (ps := ["plant", "value"]) fun _ _ _ _ _ _ us hl => match us, hl with | [_, _], _ => rfl
  have F13 := fun_mk (st := sCheckPlant) l13 c13 k13
  have b13 := F13.binds (ps := ["plant"]) fun _ _ _ _ _ _ us hl => match us, hl with | [_], _ => rfl
  have F14 := fun_mk (st := sCheckStock) l14 c14 k14
  have b14 := F14.binds (ps := ["plant", "stock"]) fun _ _ _ _ _ _ us hl => match us, hl with | [_, _], _ => rfl
  have F15 := fun_mk (st := sCheckDays) l15 c15 k15
  have b15 := F15.binds (ps := ["days", "least", "most"]) fun _ _ _ _ _ _ us hl => match us, hl with | [_, _, _], _ => rfl
  have F17 := fun_mk (st := sSupplierLists) l17 c17 k17
  have b17 := F17.binds (ps := ["plant"]) fun _ _ _ _ _ _ us hl => match us, hl with | [_], _ => rfl
  have C19 := funC_mk (st := sOldestGiver) l19 c19 k19
  have F19 := C19.fun
  have b19 := F19.binds (ps := ["stations", "boxes"]) fun _ _ _ _ _ _ us hl => match us, hl with | [_, _], _ => rfl
  have F21 := fun_mk (st := sSoldOn) l21 c21 k21
  have b21 := F21.binds (ps := ["plant", "stock", "day"]) fun _ _ _ _ _ _ us hl => match us, hl with | [_, _, _], _ => rfl
  have F22 := fun_mk (st := sDaySold) l22 c22 k22
  have b22 := F22.binds (ps := ["plant", "stock", "box"]) fun _ _ _ _ _ _ us hl => match us, hl with | [_, _, _], _ => rfl
  have F23 := fun_mk (st := sCheckBox) l23 c23 k23
  have b23 := F23.binds (ps := ["stock", "box"]) fun _ _ _ _ _ _ us hl => match us, hl with | [_, _], _ => rfl
  have F24 := fun_mk (st := sSalesOfFirst) l24 c24 k24
  have b24 := F24.binds (ps := ["plant", "stock"]) fun _ _ _ _ _ _ us hl => match us, hl with | [_, _], _ => rfl
  have F26 := fun_mk (st := sLawPot) l26 c26 k26
  have b26 := F26.binds (ps := ["script", "k"]) fun _ _ _ _ _ _ us hl => match us, hl with | [_, _], _ => rfl
  have F27 := fun_mk (st := sLawDraw) l27 c27 k27
  have b27 := F27.binds (ps := ["pot", "bound"]) fun _ _ _ _ _ _ us hl => match us, hl with | [_, _], _ => rfl
  have F28 := fun_mk (st := sLawMixed) l28 c28 k28
  have b28 := F28.binds (ps := ["pot", "things"]) fun _ _ _ _ _ _ us hl => match us, hl with | [_, _], _ => rfl
  have F29 := fun_mk (st := sLawPlant) l29 c29 k29
  have b29 := F29.binds (ps := ["pot", "most"]) fun _ _ _ _ _ _ us hl => match us, hl with | [_, _], _ => rfl
  have F30 := fun_mk (st := sLawStock) l30 c30 k30
  have b30 := F30.binds (ps := ["pot", "plant"]) fun _ _ _ _ _ _ us hl => match us, hl with | [_, _], _ => rfl
  have F31 := fun_mk (st := sLawGivers) l31 c31 k31
  have b31 := F31.binds (ps := ["plant"]) fun _ _ _ _ _ _ us hl => match us, hl with | [_], _ => rfl
  have F32 := fun_mk (st := sLawDay) l32 c32 k32
  have b32 := F32.binds (ps := ["givers", "stock"]) fun _ _ _ _ _ _ us hl => match us, hl with | [_, _], _ => rfl
  have F33 := fun_mk (st := sLawRight) l33 c33 k33
  have b33 := F33.binds (ps := ["pot"]) fun _ _ _ _ _ _ us hl => match us, hl with | [_], _ => rfl
  obtain ⟨T, eC19, eP19⟩ : ∃ T : Tx K mg, T.c_oldest_giver = cc19 ∧ T.P_oldest_giver = PP19 := ⟨{ f_is_integer := p9, d_is_integer := _, F_is_integer := F9, b_is_integer := b9, g_is_integer := PySem.W.mg_of X G a9, f_is_within := p10, d_is_within := _, F_is_within := F10, b_is_within := b10, g_is_within := PySem.W.mg_of X G a10, f_fits_plant := p11, d_fits_plant := _, F_fits_plant := F11, b_fits_plant := b11, g_fits_plant := PySem.W.mg_of X G a11, f_fits_stock := p12, d_fits_stock := _, F_fits_stock := F12, b_fits_stock := b12, g_fits_stock := PySem.W.mg_of X G a12, f_check_plant := p13, d_check_plant := _, F_check_plant := F13, b_check_plant := b13, g_check_plant := PySem.W.mg_of X G a13, f_check_stock := p14, d_check_stock := _, F_check_stock := F14, b_check_stock := b14, g_check_stock := PySem.W.mg_of X G a14, f_check_days := p15, d_check_days := _, F_check_days := F15, b_check_days := b15, g_check_days := PySem.W.mg_of X G a15, f_supplier_lists := p17, d_supplier_lists := _, F_supplier_lists := F17, b_supplier_lists := b17, g_supplier_lists := PySem.W.mg_of X G a17, f_oldest_giver := p19, d_oldest_giver := _, F_oldest_giver := F19, b_oldest_giver := b19, g_oldest_giver := PySem.W.mg_of X G a19, c_oldest_giver := cc19, P_oldest_giver := PP19, C_oldest_giver := C19, f_sold_on := p21, d_sold_on := _, F_sold_on := F21, b_sold_on := b21, g_sold_on := PySem.W.mg_of X G a21, f_day_sold := p22, d_day_sold := _, F_day_sold := F22, b_day_sold := b22, g_day_sold := PySem.W.mg_of X G a22, f_check_box := p23, d_check_box := _, F_check_box := F23, b_check_box := b23, g_check_box := PySem.W.mg_of X G a23, f_sales_of_first := p24, d_sales_of_first := _, F_sales_of_first := F24, b_sales_of_first := b24, g_sales_of_first := PySem.W.mg_of X G a24, f__law_pot := p26, d__law_pot := _, F__law_pot := F26, b__law_pot := b26, g__law_pot := PySem.W.mg_of X G a26, f__law_draw := p27, d__law_draw := _, F__law_draw := F27, b__law_draw := b27, g__law_draw := PySem.W.mg_of X G a27, f__law_mixed := p28, d__law_mixed := _, F__law_mixed := F28, b__law_mixed := b28, g__law_mixed := PySem.W.mg_of X G a28, f__law_plant := p29, d__law_plant := _, F__law_plant := F29, b__law_plant := b29, g__law_plant := PySem.W.mg_of X G a29, f__law_stock := p30, d__law_stock := _, F__law_stock := F30, b__law_stock := b30, g__law_stock := PySem.W.mg_of X G a30, f__law_givers := p31, d__law_givers := _, F__law_givers := F31, b__law_givers := b31, g__law_givers := PySem.W.mg_of X G a31, f__law_day := p32, d__law_day := _, F__law_day := F32, b__law_day := b32, g__law_day := PySem.W.mg_of X G a32, f__law_right := p33, d__law_right := _, F__law_right := F33, b__law_right := b33, g__law_right := PySem.W.mg_of X G a33, t_MOST_STATIONS := t_MOST_STATIONS, g_MOST_STATIONS := PySem.W.mg_of X G aM_MOST_STATIONS, t_FARTHEST_DAY := t_FARTHEST_DAY, g_FARTHEST_DAY := PySem.W.mg_of X G aM_FARTHEST_DAY, n_all := PySem.W.mg_none_of X G z_all, n_bool := PySem.W.mg_none_of X G z_bool, n_enumerate := PySem.W.mg_none_of X G z_enumerate, n_int := PySem.W.mg_none_of X G z_int, n_isinstance := PySem.W.mg_none_of X G z_isinstance, n_len := PySem.W.mg_none_of X G z_len, n_list := PySem.W.mg_none_of X G z_list, n_max := PySem.W.mg_none_of X G z_max, n_min := PySem.W.mg_none_of X G z_min, n_range := PySem.W.mg_none_of X G z_range, n_repr := PySem.W.mg_none_of X G z_repr, n_set := PySem.W.mg_none_of X G z_set, n_tuple := PySem.W.mg_none_of X G z_tuple }, rfl, rfl⟩
  refine ⟨[(cc19, PP19)], (List.forall_mem_cons.mpr ⟨t19, fun _ h => nomatch h⟩), (List.forall_mem_cons.mpr ⟨z19, fun _ h => nomatch h⟩), (List.forall_mem_cons.mpr ⟨PySem.W.codeHd_of_K X h19, fun _ h => nomatch h⟩), fun base H kb gb tb th hS en => ?_⟩
  have B19 : TabB base mg T.c_oldest_giver T.P_oldest_giver := by rw [eC19, eP19]; exact tb (cc19, PP19) (by simp)
  have H19 : H T.P_oldest_giver = some (.tbl #[]) := by rw [eP19]; exact th (cc19, PP19) (by simp)
  have tabs : Tabs T.tabW H := by
    intro p hp
    simp only [Tx.tabW, List.mem_cons, List.not_mem_nil, or_false] at hp
    rcases hp with rfl
    · exact .nil H19
  have room : Room 10 callerA := ⟨rfl, by decide, by decide⟩
  obtain ⟨t, ht, hq⟩ := law_body (P := l.prog) (w := w) (base := base) (f := fa) (cdv := cd34) (st := st) T B19 hl hS tabs (room.deeper _)
  exact at_body (us := [.ref a]) (vs := [.ref a]) l34 c34 scLaw room en (.of_eq rfl) (.cons rfl .nil) rfl ⟨t, ht.nox, hq⟩
end PT
open PySem PySem.W PyProof.Rows
set_option maxHeartbeats 0 in
theorem PySem.Challenge.cw_pulltree_k30_days_of_sales_holds : PySem.Challenge.rw_pulltree_k30_days_of_sales.Holds := by
  w_on; o_law; k_head; (case hw => w_witness2)
  k_fill
  refine PT.walk_GT (l := PySem.Challenge.rw_pulltree_k30_days_of_sales) (n := 63) rfl (by decide) rfl (fun w h Y => ⟨PySem.W.km_in_of Y, PySem.W.km_tabs_of Y⟩) ?F
  case F =>
    intro w mg fa a st ns kin gl hmg hl ht
    refine' PT.all_mk kin gl hmg hl ?a9 ?l9 ?c9 ?k9 ?a10 ?l10 ?c10 ?k10 ?a11 ?l11 ?c11 ?k11 ?a12 ?l12 ?c12 ?k12 ?a13 ?l13 ?c13 ?k13 ?a14 ?l14 ?c14 ?k14 ?a15 ?l15 ?c15 ?k15 ?a17 ?l17 ?c17 ?k17 ?a19 ?l19 ?c19 ?k19 ?a21 ?l21 ?c21 ?k21 ?a22 ?l22 ?c22 ?k22 ?a23 ?l23 ?c23 ?k23 ?a24 ?l24 ?c24 ?k24 ?a26 ?l26 ?c26 ?k26 ?a27 ?l27 ?c27 ?k27 ?a28 ?l28 ?c28 ?k28 ?a29 ?l29 ?c29 ?k29 ?a30 ?l30 ?c30 ?k30 ?a31 ?l31 ?c31 ?k31 ?a32 ?l32 ?c32 ?k32 ?a33 ?l33 ?c33 ?k33 ?a34 ?l34 ?c34 ?k34 ?aM_MOST_STATIONS ?aM_FARTHEST_DAY ?z_all ?z_bool ?z_enumerate ?z_int ?z_isinstance ?z_len ?z_list ?z_max ?z_min ?z_range ?z_repr ?z_set ?z_tuple ?t19 ?h19 ?z19
    (case a9 => k_is); (case l9 => k_is); (case c9 => k_is); (case k9 => k_is); (case a10 => k_is); (case l10 => k_is); (case c10 => k_is); (case k10 => k_is); (case a11 => k_is); (case l11 => k_is); (case c11 => k_is); (case k11 => k_is); (case a12 => k_is); (case l12 => k_is); (case c12 => k_is); (case k12 => k_is); (case a13 => k_is); (case l13 => k_is); (case c13 => k_is); (case k13 => k_is); (case a14 => k_is); (case l14 => k_is); (case c14 => k_is); (case k14 => k_is); (case a15 => k_is); (case l15 => k_is); (case c15 => k_is); (case k15 => k_is); (case a17 => k_is); (case l17 => k_is); (case c17 => k_is); (case k17 => k_is); (case a19 => k_is); (case l19 => k_is); (case c19 => k_is); (case k19 => k_is); (case a21 => k_is); (case l21 => k_is); (case c21 => k_is); (case k21 => k_is); (case a22 => k_is); (case l22 => k_is); (case c22 => k_is); (case k22 => k_is); (case a23 => k_is); (case l23 => k_is); (case c23 => k_is); (case k23 => k_is); (case a24 => k_is); (case l24 => k_is); (case c24 => k_is); (case k24 => k_is); (case a26 => k_is); (case l26 => k_is); (case c26 => k_is); (case k26 => k_is); (case a27 => k_is); (case l27 => k_is); (case c27 => k_is); (case k27 => k_is); (case a28 => k_is); (case l28 => k_is); (case c28 => k_is); (case k28 => k_is); (case a29 => k_is); (case l29 => k_is); (case c29 => k_is); (case k29 => k_is); (case a30 => k_is); (case l30 => k_is); (case c30 => k_is); (case k30 => k_is); (case a31 => k_is); (case l31 => k_is); (case c31 => k_is); (case k31 => k_is); (case a32 => k_is); (case l32 => k_is); (case c32 => k_is); (case k32 => k_is); (case a33 => k_is); (case l33 => k_is); (case c33 => k_is); (case k33 => k_is); (case a34 => k_is); (case l34 => k_is); (case c34 => k_is); (case k34 => k_is); (case aM_MOST_STATIONS => k_is); (case aM_FARTHEST_DAY => k_is); (case z_all => k_is); (case z_bool => k_is); (case z_enumerate => k_is); (case z_int => k_is); (case z_isinstance => k_is); (case z_len => k_is); (case z_list => k_is); (case z_max => k_is); (case z_min => k_is); (case z_range => k_is); (case z_repr => k_is); (case z_set => k_is); (case z_tuple => k_is); (case t19 => exact ht _ List.mem_cons_self); (case h19 => kernel_rfl); (case z19 => kernel_rfl)


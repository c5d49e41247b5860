import PyProof.Rows.All
import Wide.All
import OpenK.AllK
import Wide.FinOn
import HandS.ForMost
import HandS.IsInst
import HandS.TupAny
import HandS.TupMul
import HandS.Conv
import HandS.Style
import HandS.Flow
import HandS.Walk
import KE.GoesEnum
import KE.KRevSl
import HandS.RaiseMore
import HandS.ForExc
import HandS.SetFor
import HandS.Strs
import HandS.Nested
import HandS.ExcValue
import KE.SortKeyHeap
import KE.SortData
import KE.DataMinMax
import KE.DatumOrd
import HandS.SortRule
import HandS.HotCalls
import HandS.ExcIs
import HandS.ExcCtx
import KE.KExcIs
import HandS.EndTab
import KE.KNestM
import HandS.Defaults
import HandS.FStr
import HandS.Text
import KE.GoesZip
import HandS.Zip
import PyProof.ReprBulk
import HandS.Wide
import HandS.Evl
import PySem.Challenge.RW_pulltree_k54_plants_not_shown
set_option Elab.async false
set_option linter.all false
set_option maxRecDepth 100000
set_option maxHeartbeats 4000000
/-! rules that the layer lacks: enumerate over a tuple, a list read and stored at one place, a tuple the other way round, repr of data -/
namespace PT
open PySem PySem.Spec PyProof.Rows L2

/-! ### enumerate(v) with one argument, v anything that begins -/
theorem meets_enum1 {v : Value} {o : Obj} {H : Heap → Prop} (B : Begins v o H) :
    Meets (Builtin.«enumerate.__new__» ⟨[.type "enumerate", v], []⟩) (fun _ R st => H st.heap ∧
      R (.ok (.ret (.ref (st.heap.push o).objs.size))) { st with heap := (st.heap.push o).push { cls := .type "enumerate", data := .fields #[.none, .bool false, .ref st.heap.objs.size, rawInt 0, .none, .none] } }) :=
  .of_wp fun prog w A R st hh => by
    obtain ⟨hp, gg, dd, tt, oo⟩ := st
    obtain ⟨b1, b2⟩ := hh
    have se := sub_enumerate
    have go : ∀ {A' : Around} {E' : Value → Shared → Prop} {Q' : Value → Shared → Prop}, Q' (.ref hp.objs.size) ⟨hp.push o, gg, dd, tt, oo⟩ → wpAny (model prog w) A' (pyIter v) Q' E' ⟨hp, gg, dd, tt, oo⟩ :=
      fun z => B.iter prog w _ _ ⟨hp, gg, dd, tt, oo⟩ _ b1 z
    wp_walk using go
    refine wpAny_stack_any fun frs => wpAny_pure ?_
    split
    · rename_i cc _ _ _ _ _
      cases (cc == Value.type "enumerate") <;> (wp_walk using go; exact ⟨_, rfl, b2⟩)
    · wp_walk using go
      exact ⟨_, rfl, b2⟩
theorem enum_call1 {prog : Program} {w : World} {A : Around} {E : Value → Shared → Prop} {st : Shared} {v : Value} {o : Obj} {H : Heap → Prop} {Q : Value → Shared → Prop} (B : Begins v o H) (b1 : H st.heap)
    (fin : ∀ h2, IsEnum h2 (st.heap.objs.size + 1) st.heap.objs.size 0 .none → h2.get? st.heap.objs.size = some o → (∀ b u, st.heap.get? b = some u → h2.get? b = some u) → Q (.ref (st.heap.objs.size + 1)) { st with heap := h2 }) :
    wpAny (model prog w) A (call (.type "enumerate") [v]) Q E st := by
  refine callType_new F.called_enumerate (by decide) (F.typeCall_enumerate_1 _) (F.newCall_enumerate_1 _) (fun ob => F.args_object_init_2 ob _) F.entry_enumerate_new (meets_enum1 B) ⟨b1, ?_⟩
  have sz : (st.heap.push o).objs.size = st.heap.objs.size + 1 := Heap.size_push ..
  show _ ∧ _
  rw [sz]
  have en : IsEnum ((st.heap.push o).push { cls := .type "enumerate", data := .fields #[.none, .bool false, .ref st.heap.objs.size, rawInt 0, .none, .none] }) (st.heap.objs.size + 1) st.heap.objs.size 0 .none := by
    have z := Heap.get?_push_size (st.heap.push o) (o := { cls := .type "enumerate", data := .fields #[.none, .bool false, .ref st.heap.objs.size, rawInt 0, .none, .none] }) rfl
    rw [sz] at z
    exact z
  exact ⟨⟨_, en, rfl⟩, fin _ en (Heap.get?_push_of_some _ (Heap.get?_push_size _ B.free)) fun b u y => Heap.get?_push_of_some _ (Heap.get?_push_of_some _ y)⟩

/-- the tuple at a, each item in a new pair with its place -/
def ItE (K : PySem.W.Frag) (a : Addr) : It :=
  ⟨fun i H => ∃ (xs : List V) (x : V), SqT K H a xs ∧ xs[i]? = some x,
   fun i H v H' => ∃ T x, v = .ref T ∧ H T = none ∧ H' = upd H T (.tup [.int (i : Nat), x]) ∧ ∀ xs, SqT K H a xs → xs[i]? = some x,
   fun i H => ∃ xs : List V, SqT K H a xs ∧ xs.length ≤ i⟩
theorem turn_E {P : Program} {w : World} {K : PySem.W.Frag} {elts : List Expr} {kk : Nat} {tpos : Pos} (a e it : Addr) :
    Turn P w K (.Tuple elts kk tpos) (ItE K a) [e, it] e (fun i h => (∃ old, IsEnum h e it ((i : Nat) : Int) old) ∧ h.IsTupleIter it a i ∧ e ≠ it) where
  mem := by simp
  obj := fun i h st b hb => by
    obtain ⟨⟨old, he⟩, ⟨o, ho, hc, hd⟩, _⟩ := st
    rcases List.mem_cons.mp hb with z | z
    · rw [z]
      exact ⟨_, he, fun v q => nomatch q⟩
    · rw [List.mem_singleton.mp z]
      exact ⟨o, ho, fun v q => by rw [hd] at q; cases q⟩
  keep := fun i h h' st k => ⟨let ⟨old, he⟩ := st.1; ⟨old, k e (by simp) _ he⟩, st.2.1.at fun o q => k it (by simp) o q, st.2.2⟩
  item := by
    intro X hP hw hK hc i pins st σ H E I hf tn hg
    subst hP hw hK
    obtain ⟨⟨old, he⟩, hit, hne⟩ := tn
    obtain ⟨xs, x, hq, hx⟩ := hg
    obtain ⟨its, rv, p, hz⟩ := I.tuple hq
    obtain ⟨u, hu, ru⟩ := rv.get hx
    have le : e < st.heap.objs.size := Heap.lt_size he
    have li : it < st.heap.objs.size := let ⟨_, q, _⟩ := hit; Heap.lt_size q
    have hta : a ≠ it := fun z => by
      obtain ⟨o1, q1, c1, _⟩ := hit
      obtain ⟨o2, q2, c2, _⟩ := p
      rw [z, q1] at q2
      cases q2
      rw [c1] at c2
      exact absurd (Value.type.inj c2) (by decide)
    have D := Draws.tuple (prog := X.prog) (w := X.w) (A := X.A.in1) (I.ok.hd hc) it a hta its.toArray
    have hi : i < its.length := by
      obtain ⟨h1, _⟩ := List.getElem?_eq_some_iff.mp hu
      exact h1
    refine wpAny_pyNext_enum_itemD D he ⟨hit, p⟩ (by simpa using hi) hne ?_ fun y h2 tk hy ho sn hT hsz hk => ?_
    · intro hm
      rcases List.mem_cons.mp hm with z | z
      · exact hne z
      · have z2 := List.mem_singleton.mp z
        obtain ⟨o2, q2, c2, _⟩ := p
        have q3 : st.heap.get? e = some _ := he
        rw [z2, q2] at q3
        cases q3
        exact absurd (Value.type.inj c2) (by decide)
    have ey : y = u := by
      have e1 : its.toArray[i]? = some u := by simpa using hu
      exact Option.some.inj (hy.symm.trans e1)
    subst ey
    refine ⟨_, rfl, wpAny_letOwnedTupleGo_enum (s := { st with heap := h2, toks := tk + 1 }) ho fun h3 he3 sb => ?_⟩
    have hT3 : h3.get? st.heap.objs.size = some { cls := .type "tuple", data := .seq #[.int i tk, y] } := (sb.2 _ (Nat.ne_of_gt le)).trans hT
    have nw : ObjOk X.prog X.w (upd H st.heap.objs.size (.tup [.int (i : Nat), x])) h3 st.heap.objs.size (.tup [.int (i : Nat), x]) :=
      ⟨by show 2 ≤ sizeLine; decide, [.int i tk, y], .cons ⟨_, rfl⟩ (.cons ru .nil), ⟨_, hT3, rfl, _, rfl⟩⟩
    have I1 : Inv X pins σ (upd H st.heap.objs.size (.tup [.int (i : Nat), x])) { st with heap := h3, toks := tk + 1 } :=
      I.turnedNew (ch := [e, it]) (fun b ob hb q => (sb.2 b (fun z => hb (by simp [z]))).trans (hk b ob (fun z => hb (by simp [z])) (fun z => hb (by simp [z])) q)) hf (Nat.le_refl _) nw
    refine ⟨.ref st.heap.objs.size, _, I1, rfl, ⟨_, x, rfl, I.hok.fresh (Nat.le_refl _), rfl, fun ys hy => by rw [I.tuple_inj hy hq]; exact hx⟩, ⟨⟨y, ?_⟩, sn.1.at fun o q => (sb.2 it (Ne.symm hne)).trans q, hne⟩, fun b hb => ?_⟩
    · have e1 : ((i + 1 : Nat) : Int) = (i : Int) + 1 := by omega
      exact e1 ▸ he3
    · have hb' : b < st.heap.objs.size := by
        rcases List.mem_cons.mp hb with z | z
        · exact z ▸ le
        · exact (List.mem_singleton.mp z) ▸ li
      rw [upd_ne (Nat.ne_of_lt hb')]
      exact (hf b hb).1
  done := by
    intro X hP hw hK hc i pins st σ H E I hf tn hg
    subst hP hw hK
    obtain ⟨⟨old, he⟩, hit, hne⟩ := tn
    obtain ⟨xs, hq, hx⟩ := hg
    obtain ⟨its, rv, p, hz⟩ := I.tuple hq
    obtain ⟨f0, f1, f2, f3, f4, f5⟩ := hf it (by simp)
    have hl := rv.length
    have hT : st.TypeIs (.ref e) "enumerate" := ⟨_, he, rfl⟩
    unfold pyNext
    refine wpAny_bind (wpAny_attempt (wpAny_callSpecial?_slot (name := Str.ofString "__next__") hT F.slot_enumerate_next (wpAny_call_entry F.slot_enumerate_next hT F.entry_enumerate_next ?_ (F.args_enumerate_next_1 _))))
    show wpAny _ _ (field (.ref e) 2 >>= _) _ _ _
    refine wpAny_bind (wpAny_field he rfl (x := .ref it) rfl ?_)
    refine wpAny_bind (wpAny_nextOf_tuple_end (I.ok.hd hc) hit p (by simp; omega) fun h2 x e1 hx2 => ?_)
    obtain ⟨o, ho, hcc⟩ := hx2
    refine wpAny_bind (wpAny_isInstance (T := "StopIteration") (b := true) ⟨o, ho, hcc⟩ isSubtype_stop ?_)
    exact wpAny_pure ⟨rfl, I.turned (t' := st.toks) (fun b o hb q => e1 b o hb q) f0 f1 f3 f4 f5⟩
  self := fun A i s Q E tn h => let ⟨⟨_, he⟩, _⟩ := tn; wpAny_pyIter_enum he h
def iE (K : PySem.W.Frag) (ta : TA) : TI := fun σ H R => ta σ H fun vs H1 => ∃ a xs, vs = [.ref a] ∧ SqT K H1 a xs ∧ R (ItE K a) H1
theorem pi_E {X : Cx} {e : Expr} {ta : TA} {p pos tpos : Pos} {elts : List Expr} {kk : Nat} (hg : Gl X "enumerate") (hm : X.mg "enumerate" = none) (ha : PA X [e] ta) (hs : starEach [e] X.env = [(false, eval e X.env)] := by rfl) :
    PI X (.Tuple elts kk tpos) (.Call (.Name "enumerate" p) [e] [] pos) (iE X.K ta) := by
  refine ⟨fun pins st σ H R I h => Call_ (ld_blt I hg hm boot_enumerate (PyProof.Rows.callWith_type1 (thn (ha.run pos pins st σ H _ I h) fun us s1 ⟨vs, H1, I1, r1, q1⟩ => ?_) hs rfl))⟩
  obtain ⟨a, xs, ex, hq, q⟩ := q1
  subst ex
  cases r1 with
  | cons r rr =>
    cases rr
    cases r
    obtain ⟨its, rv, pp, hz⟩ := I1.tuple hq
    refine enum_call1 (begins_tuple a its.toArray) pp fun h2 he hi hk => wpAny_pyIter_enum he ?_
    have I2 : Inv X pins σ H1 { s1 with heap := h2 } := I1.kept (t' := s1.toks) hk
    refine ⟨s1.heap.objs.size + 1, [s1.heap.objs.size + 1, s1.heap.objs.size], _, _, H1, rfl, I2, turn_E a (s1.heap.objs.size + 1) s1.heap.objs.size, ⟨⟨.none, he⟩, ⟨_, hi, rfl, rfl⟩, Nat.succ_ne_self _⟩, fun b hb => ?_, q⟩
    have hle : s1.heap.objs.size ≤ b := by
      rcases List.mem_cons.mp hb with z | z
      · rw [z]
        exact Nat.le_add_right _ _
      · rw [List.mem_singleton.mp z]
        exact Nat.le_refl _
    exact I1.fpOk hle (I1.hok.fresh hle)
theorem walk_E {K : PySem.W.Frag} {a : Addr} {xs : List V} : Walk (ItE K a) xs.length (fun H => SqT K H a xs) (YPair (fun i => some (.int (i : Nat))) (fun i => xs[i]?)) := by
  refine ⟨fun i _ hi q => ⟨xs, xs[i], q, by simp [hi]⟩, fun _ q => ⟨xs, q, Nat.le_refl _⟩, fun i H v H' _ q y => ?_⟩
  obtain ⟨T, x, h1, h2, h3, h4⟩ := y
  exact ⟨T, .int (i : Nat), x, h1, h2, h3, rfl, h4 xs q⟩

/-! ### a list's item read for o[i] op= v -/
theorem get_lst {X : Cx} : PGet X (fun o i H Q => ∃ p xs j v, o = .ref p ∧ i = .int ((j : Nat) : Int) ∧ SqL X.K H p xs ∧ xs[j]? = some v ∧ Q v H) := by
  intro pins st σ H o i ov iv Q I ro ri h
  obtain ⟨p, xs, j, v, rfl, rfl, hq, hv, q⟩ := h
  cases ro
  obtain ⟨t, rfl⟩ := ri
  obtain ⟨its, r, pl, hz⟩ := I.list hq
  obtain ⟨u, hu, ru⟩ := r.get hv
  have hn := line63
  have hl := r.length
  have hj : j < its.length := (List.getElem?_eq_some_iff.mp hu).1
  exact wpAny_getItem_list pl.isList (by omega) (by omega) (x := u) (by simpa using hu) ⟨v, H, I, ru, q⟩

end PT

set_option maxHeartbeats 4000000
/-! repr of data that the law shows: scalars, rows of ints, tuples of such items and of one odd thing -/
namespace PT
open PySem PySem.Spec PyProof.Rows L2

/-! ### t[::-1] of a tuple -/
theorem adj_back (n : Nat) : Builtin.Slice.sliceAdjust none none (-1) (n : Int) = ((n : Int) - 1, -1) := by
  unfold Builtin.Slice.sliceAdjust
  simp
theorem pl_back (n : Nat) : Builtin.Slice.slicePlaces ((n : Int) - 1) (-1) (-1) = n := by
  unfold Builtin.Slice.slicePlaces
  have h1 : ¬ ((-1 : Int) > 0) := by omega
  simp only [h1, if_false]
  split
  · rw [show (- -1 : Int) = 1 from rfl, Int.ediv_one]
    omega
  · omega
theorem fm_congr {α β : Type} {f g : α → Option β} : ∀ (l : List α), (∀ x ∈ l, f x = g x) → l.filterMap f = l.filterMap g
  | [], _ => rfl
  | x :: r, h => by
    rw [List.filterMap_cons, List.filterMap_cons, h x (List.mem_cons_self ..), fm_congr r fun y hy => h y (List.mem_cons_of_mem _ hy)]
theorem pick_back (xs : Array Value) : ((List.range xs.size).filterMap fun (k : Nat) => xs[(((xs.size : Int) - 1) + (k : Int) * (-1)).toNat]?) = xs.toList.reverse := by
  have e : ∀ (l : List Value) (n : Nat), n = l.length → ((List.range n).filterMap fun (k : Nat) => l[(((n : Int) - 1) + (k : Int) * (-1)).toNat]?) = l.reverse := by
    intro l
    induction l with
    | nil => intro n hn; subst hn; rfl
    | cons x r ih =>
      intro n hn
      subst hn
      have step : ∀ m, m ≤ r.length → ((List.range m).filterMap fun (k : Nat) => (x :: r)[((((x :: r).length : Nat) : Int) - 1 + (k : Int) * (-1)).toNat]?) = ((List.range m).filterMap fun (k : Nat) => r[(((r.length : Int) - 1) + (k : Int) * (-1)).toNat]?) := by
        intro m hm
        refine fm_congr _ fun k hk => ?_
        have hk' : k < m := List.mem_range.mp hk
        have e1 : ((((x :: r).length : Nat) : Int) - 1 + (k : Int) * (-1)).toNat = (((r.length : Int) - 1) + (k : Int) * (-1)).toNat + 1 := by
          rw [List.length_cons]
          omega
        rw [e1, List.getElem?_cons_succ]
      rw [List.length_cons, List.range_succ, List.filterMap_append]
      have s := step r.length (Nat.le_refl _)
      rw [List.length_cons] at s
      rw [s, ih r.length rfl, List.reverse_cons]
      congr 1
      have e2 : (((r.length + 1 : Nat) : Int) - 1 + (r.length : Int) * (-1)).toNat = 0 := by omega
      simp only [List.filterMap_cons, List.filterMap_nil, e2, List.getElem?_cons_zero]
  have := e xs.toList xs.size (by simp)
  simpa using this
section
variable {prog : Program} {w : World} {A : Around} {E : Value → Shared → Prop} {st : Shared}
theorem part_int {i : Int} {u : Tok} {Q : Option Int → Shared → Prop} (h : Q (some i) st) : wpAny (model prog w) A (Builtin.Slice.slicePartIndex (.int i u)) Q E st := slicePart_int h
theorem applied_back {sl : Addr} {n : Nat} {u : Tok} {Q : Int × Int × Nat → Shared → Prop} (hs : st.heap.IsSliceOf sl .none .none (.int (-1) u)) (h : Q ((n : Int) - 1, -1, n) st) :
    wpAny (model prog w) A (Builtin.Slice.sliceApplied (.ref sl) (pure (n : Int))) Q E st := by
  obtain ⟨ob, e1, e2, e3⟩ := id hs
  unfold Builtin.Slice.sliceApplied Builtin.Slice.sliceFields
  refine wpAny_bind (wpAny_bind (wpAny_field e1 e3 (x := .none) rfl (wpAny_bind (wpAny_field e1 e3 (x := .none) rfl (wpAny_bind (wpAny_field e1 e3 (x := .int (-1) u) rfl (wpAny_pure ?_)))))))
  refine wpAny_bind (part_int ?_)
  show wpAny _ _ (if ((-1 : Int) == 0) = true then _ else _) _ _ st
  rw [if_neg (by decide)]
  refine wpAny_bind (slicePart_none (wpAny_bind (slicePart_none (wpAny_bind (wpAny_pure ?_)))))
  show wpAny _ _ (match Builtin.Slice.sliceAdjust none none (-1) (n : Int) with | (lo, hi) => pure (lo, (-1 : Int), Builtin.Slice.slicePlaces lo hi (-1))) _ _ st
  rw [adj_back n]
  show wpAny _ _ (pure ((n : Int) - 1, (-1 : Int), Builtin.Slice.slicePlaces ((n : Int) - 1) (-1) (-1))) _ _ st
  rw [pl_back n]
  exact wpAny_pure h
theorem tup_back {t sl : Addr} {items : Array Value} {u : Tok} {Q : Value → Shared → Prop} (ht : IsTup st.heap t items) (hs : st.heap.IsSliceOf sl .none .none (.int (-1) u)) (hz : items.size ≤ sizeLine)
    (h : Q (.ref st.heap.objs.size) { st with heap := st.heap.push { cls := .type "tuple", data := .seq items.toList.reverse.toArray } }) : wpAny (model prog w) A (getItem (.ref t) (.ref sl)) Q E st := by
  have ok : sizeOk (.seq items.toList.reverse.toArray) := by
    show items.toList.reverse.toArray.size ≤ sizeLine
    rw [List.size_toArray, List.length_reverse, Array.length_toList]
    exact hz
  obtain ⟨ob, e1, e2, e3⟩ := id hs
  have ts : st.TypeIs (.ref sl) "slice" := ⟨ob, e1, e2⟩
  unfold getItem
  try with_reducible refine wpAny_holding ?_
  first | refine wpAny_bind (wpAny_pure ?_) | skip
  refine wpAny_bind (wpAny_sequenceKey ht.typeIs (by decide) (wpAny_bind (wpAny_callSpecial?_slot (name := Str.ofString "__getitem__") ht.typeIs PyProof.Rows.slot_tuple_getitem
    (wpAny_call_entry PyProof.Rows.slot_tuple_getitem ht.typeIs entry_tuple_getitem ?_ (args_tuple_getitem _ _)))))
  show wpAny _ _ (Builtin.Tuple.tupleItemsOf (.ref t) >>= _) _ _ st
  refine wpAny_bind (tupleItemsOf_ ht (wpAny_bind (wpAny_typeOf ts ?_)))
  rw [if_pos (by decide)]
  refine wpAny_bind (applied_back hs ?_)
  have no1 : ((-1 : Int) == 1) = false := by decide
  show wpAny _ _ (if (((items.size : Int) - 1) == 0 && (-1 : Int) == 1 && items.size == items.size) = true then _ else _) _ _ st
  rw [if_neg (by rw [no1, Bool.and_false, Bool.false_and]; exact Bool.false_ne_true), pick_back]
  first
    | exact wpAny_bind (m := Builtin.Tuple.tupleExact _) (wpAny_newObj_type (wpAny_pure ⟨_, rfl, wpAny_pure h⟩) ok)
    | exact wpAny_bind (m := Builtin.Tuple.tupleExact _) (wpAny_newObj_type (wpAny_bind (wpAny_pure (wpAny_pure ⟨_, rfl, wpAny_pure h⟩))) ok)
    | exact wpAny_bind (wpAny_bind (m := Builtin.Tuple.tupleExact _) (wpAny_newObj_type (wpAny_pure (wpAny_pure ⟨_, rfl, wpAny_pure h⟩)) ok))
    | exact wpAny_bind (wpAny_bind (m := Builtin.Tuple.tupleExact _) (wpAny_newObj_type (wpAny_pure ⟨_, rfl, wpAny_pure h⟩) ok))
end
section
variable {X : Cx}
def tRevT (K : PySem.W.Frag) (te : TE) : TE := fun σ H Q => te σ H fun x H1 => ∃ a xs, x = .ref a ∧ SqT K H1 a xs ∧ ∀ p, H1 p = none → Q (.ref p) (upd H1 p (.tup xs.reverse))
theorem pe_revT {e : Expr} {te : TE} {k : Nat} {p1 p2 p3 pos : Pos} (he : PE X e te) : PE X (.Subscript e (.Slice none none (some (.UnaryOp .USub (.Constant (.int 1) k p1) p2)) p3) pos) (tRevT X.K te) := by
  refine ⟨fun pins st σ H Q I h => Subscript_ (thn (he.run pins st σ H _ I h) fun v s1 ⟨x, H1, I1, r1, q1⟩ => ?_)⟩
  obtain ⟨a, xs, ex, hx, q⟩ := q1
  subst ex
  cases r1
  have minus : PO X (some (.UnaryOp .USub (.Constant (.int 1) k p1) p2)) (tPart (tUn (rU fun i => .int (-i)) (tC (.int 1)))) := po_some (pe_un un_neg pe_int)
  refine wpAny_Slice (thn (po_none.run pins s1 σ H1 (fun o H2 => o = none ∧ H2 = H1) I1 ⟨rfl, rfl⟩) fun vl s2 ⟨l, H2, I2, pl, el, e2⟩ => ?_)
  subst el e2
  refine thn (po_none.run pins s2 σ H2 (fun o H3 => o = none ∧ H3 = H2) I2 ⟨rfl, rfl⟩) fun vu s3 ⟨u, H3, I3, pu, eu, e3⟩ => ?_
  subst eu e3
  refine thn (minus.run pins s3 σ H3 (fun o H4 => o = some (-1) ∧ H4 = H3) I3 ⟨1, rfl, -1, rfl, rfl, rfl⟩) fun vs s4 ⟨o, H4, I4, ps, eo, e4⟩ => ?_
  subst eo e4
  have I5 : Inv X pins σ H4 { s4 with heap := s4.heap.push { cls := .type "slice", data := .fields #[vl, vu, vs] } } := I4.kept (t' := s4.toks) fun b ob q => Heap.get?_push_of_some _ q
  obtain ⟨its, r, ht, hz⟩ := I5.tuple hx
  have hlen := r.length
  cases pl
  cases pu
  cases ps
  show wpAny (model X.prog X.w) X.A (subscriptTail e (.Slice none none (some (.UnaryOp .USub (.Constant (.int 1) k p1) p2)) p3) (.ref a) (.ref s4.heap.objs.size)) (EP X pins σ Q) X.xe { s4 with heap := s4.heap.push { cls := .type "slice", data := .fields #[.none, .none, .int (-1) _] } }
  refine tail_any (ops := [.ref a, .ref s4.heap.objs.size]) ht.typeIs (PyProof.Rows.slot_tuple_getitem.lookup) ?_ (by with_unfolding_all rfl)
  refine tup_back ht (Heap.IsSliceOf.new _ _ _ _) (by rw [List.size_toArray]; omega) ?_
  exact ⟨.ref _, _, I5.laid (t' := s4.toks) (o := .tup xs.reverse) (fun b ob q => Heap.get?_push_of_some _ q) (Nat.le_refl _) ⟨by rw [List.length_reverse]; exact hz, _, r.reverse, IsTup.new _ _⟩, rfl, q _ (I5.hok.fresh (Nat.le_refl _))⟩
end
end PT

set_option maxHeartbeats 4000000
/-! repr of data that stands in the heap -/
namespace PT
open PySem PySem.Spec PyProof.Rows L2

/-! ### data in the heap -/
inductive Si (H : Hp) : V → PyData → Prop
  | non : Si H .non .none
  | bl (b : Bool) : Si H (.bl b) (.bool b)
  | int (i : Int) : Si H (.int i) (.int i)
  | str (x : Str) : Si H (.str x) (.str x)
  | dic {a : Addr} : H a = some (.dK []) → Si H (.ref a) (.dict [])
inductive Rp (K : PySem.W.Frag) (H : Hp) : V → PyData → Prop
  | dp {v : V} {d : PyData} : Dp K H v d → Rp K H v d
  | dic {a : Addr} : H a = some (.dK []) → Rp K H (.ref a) (.dict [])
  | tup {a : Addr} {xs : List V} {ds : List PyData} : SqT K H a xs → Paired (Si H) xs ds → Rp K H (.ref a) (.tuple ds)

theorem seqT {K : PySem.W.Frag} {H H' : Hp} {a : Addr} {xs : List V} (e : Same H H') (h : SqT K H a xs) : SqT K H' a xs := by
  rcases h with (h | ⟨o, h⟩) | h
  · exact .inl (.inl (e _ _ h))
  · exact .inl (.inr ⟨o, e _ _ h⟩)
  · exact .inr h
mutual
theorem dp_same {K : PySem.W.Frag} {H H' : Hp} (e : Same H H') : ∀ (d : PyData) (v : V), Dp K H v d → Dp K H' v d
  | .none, _, h => by cases h; exact .non
  | .bool b, _, h => by cases h; exact .bl b
  | .int i, _, h => by cases h; exact .int i
  | .str x, _, h => by cases h; exact .str x
  | .list ds, _, h => by
    cases h with
    | lst a b => exact .lst (e.seq a) (dps_same e ds _ b)
  | .tuple ds, _, h => by
    cases h with
    | tup a b => exact .tup (seqT e a) (dps_same e ds _ b)
  | .dict _, _, h => by cases h
theorem dps_same {K : PySem.W.Frag} {H H' : Hp} (e : Same H H') : ∀ (ds : List PyData) (vs : List V), DpAll K H vs ds → DpAll K H' vs ds
  | [], _, h => by cases h; exact .nil
  | d :: ds, _, h => by
    cases h with
    | cons a b => exact .cons (dp_same e d _ a) (dps_same e ds _ b)
end
mutual
theorem dp_nd {K : PySem.W.Frag} {H : Hp} : ∀ (d : PyData) (v : V), Dp K H v d → d.hasDict = false
  | .none, _, _ => rfl
  | .bool _, _, _ => rfl
  | .int _, _, _ => rfl
  | .str _, _, _ => rfl
  | .list ds, _, h => by
    cases h with
    | lst a b => simp only [PyData.hasDict]; exact dps_nd ds _ b
  | .tuple ds, _, h => by
    cases h with
    | tup a b => simp only [PyData.hasDict]; exact dps_nd ds _ b
  | .dict _, _, h => by cases h
theorem dps_nd {K : PySem.W.Frag} {H : Hp} : ∀ (ds : List PyData) (vs : List V), DpAll K H vs ds → PyData.hasDictAll ds = false
  | [], _, _ => rfl
  | d :: ds, _, h => by
    cases h with
    | cons a b => simp only [PyData.hasDictAll, dp_nd d _ a, dps_nd ds _ b, Bool.or_self]
end
theorem si_same {H H' : Hp} (e : Same H H') {v : V} {d : PyData} (h : Si H v d) : Si H' v d := by
  cases h with
  | non => exact .non
  | bl b => exact .bl b
  | int i => exact .int i
  | str x => exact .str x
  | dic q => exact .dic (e _ _ q)
theorem rp_same {K : PySem.W.Frag} {H H' : Hp} (e : Same H H') {v : V} {d : PyData} (h : Rp K H v d) : Rp K H' v d := by
  cases h with
  | dp q => exact .dp (dp_same e _ _ q)
  | dic q => exact .dic (e _ _ q)
  | tup a b => exact .tup (seqT e a) (Paired.mapP b fun _ _ z => si_same e z)
theorem dp_ints {K : PySem.W.Frag} {H : Hp} : ∀ ns : List Int, DpAll K H (ns.map V.int) (ns.map PyData.int)
  | [] => .nil
  | n :: ns => .cons (.int n) (dp_ints ns)

section
variable {X : Cx} {pins : List (Addr × Obj)} {σ : List (Option V)} {H : Hp} {st : Shared}
theorem dic_reads {a : Addr} (I : Inv X pins σ H st) (q : H a = some (.dK [])) : Reads st.heap (.ref a) (.dict []) ([a] ++ []) ∧ sysModules ≠ a := by
  obtain ⟨_, hs, vs, rel, dd⟩ := dk_of I.hok q
  obtain ⟨o, es, ep, e1, e2, e3, e4⟩ := dd
  cases rel
  have hes : es.toList = [] := by
    have z := e4.2.1.length
    exact List.eq_nil_of_length_eq_zero z
  refine ⟨.dict e1 e2.1 e3 ?_ ?_, fun z => ?_⟩
  · rw [hes]; exact .nil
  · rw [hes]; exact .nil
  · rw [← z] at hs
    simp at hs
theorem si_reads (I : Inv X pins σ H st) {v : V} {u : Value} {d : PyData} (h : Si H v d) (r : RelV v u) : ∃ as, Reads st.heap u d as ∧ sysModules ∉ as := by
  cases h with
  | non => cases r; exact ⟨_, .none, by simp⟩
  | bl b => cases r; exact ⟨_, .bool b, by simp⟩
  | int i => obtain ⟨t, rfl⟩ := r; exact ⟨_, .int i t, by simp⟩
  | str x => obtain ⟨t, rfl⟩ := r; exact ⟨_, .str x t, by simp⟩
  | dic q =>
    cases r
    obtain ⟨z, ne⟩ := dic_reads I q
    exact ⟨_, z, by simp [ne]⟩
theorem sis_reads (I : Inv X pins σ H st) : ∀ {xs : List V} {us : List Value} {ds : List PyData}, Paired (Si H) xs ds → Vals xs us → ∃ as, ReadsAll st.heap us ds as ∧ sysModules ∉ as
  | _, _, _, .nil, .nil => ⟨_, .nil, by simp⟩
  | _, _, _, .cons a b, .cons r t => by
    obtain ⟨as, h1, n1⟩ := si_reads I a r
    obtain ⟨bs, h2, n2⟩ := sis_reads I b t
    exact ⟨_, .cons h1 h2, by simp [n1, n2]⟩
theorem rp_reads (I : Inv X pins σ H st) {v : V} {u : Value} {d : PyData} (h : Rp X.K H v d) (r : RelV v u) : ∃ as, Reads st.heap u d as ∧ (d.hasDict = true → sysModules ∉ as) := by
  cases h with
  | dp q =>
    obtain ⟨as, z⟩ := Dp.reads I d v u q r
    exact ⟨as, z, fun e => by rw [dp_nd d v q] at e; cases e⟩
  | dic q =>
    cases r
    obtain ⟨z, ne⟩ := dic_reads I q
    exact ⟨_, z, fun _ => by simp [ne]⟩
  | tup a b =>
    cases r
    obtain ⟨its, rv, ⟨o, ho, hc, n, hd⟩, _⟩ := I.tuple a
    obtain ⟨as, z, ne⟩ := sis_reads I b rv
    exact ⟨_, .tuple ho hc hd z, fun _ => ne⟩
end

/-! ### what is short enough to be shown -/
structure Nice (W k : Nat) (d : PyData) : Prop where
  sh : d.showable = true
  dp : d.depth ≤ k
  lv : d.leavesShort 60 = true
  wt : d.weight ≤ W
theorem Nice.shown {W k : Nat} {d : PyData} (n : Nice W k d) (hW : W ≤ 270000 := by decide) : d.shown.length ≤ sizeLine := by
  have h1 := PyData.shown_le 60 (by decide) d n.lv
  have h2 := n.wt
  have h3 := sizeLine_eq
  have h4 : (60 + 2) * d.weight ≤ (60 + 2) * W := Nat.mul_le_mul_left _ h2
  have h5 : (60 + 2) * W ≤ (60 + 2) * 270000 := Nat.mul_le_mul_left _ hW
  omega
theorem Nice.mono {W W' k k' : Nat} {d : PyData} (n : Nice W k d) (hW : W ≤ W' := by decide) (hk : k ≤ k' := by decide) : Nice W' k' d := ⟨n.sh, Nat.le_trans n.dp hk, n.lv, Nat.le_trans n.wt hW⟩
theorem nice_none : Nice 0 0 .none := ⟨rfl, Nat.le_refl _, rfl, Nat.le_refl _⟩
theorem nice_bl (b : Bool) : Nice 0 0 (.bool b) := ⟨rfl, Nat.le_refl _, rfl, Nat.le_refl _⟩
theorem nice_int {i : Int} (h : i.natAbs < 10 ^ 50) : Nice 170 0 (.int i) := by
  have hl : i.natAbs.log2 < 169 := by
    by_cases z : i.natAbs = 0
    · rw [z]; decide
    · exact (Nat.log2_lt z).mpr (Nat.lt_trans h (by decide))
  refine ⟨by simp only [PyData.showable, decide_eq_true_eq]; omega, Nat.le_refl _, ?_, ?_⟩
  · simp only [PyData.leavesShort, decide_eq_true_eq]
    have z := int_text_length_le10 (k := 50) (by decide) h
    have z2 : (PyData.shown (.int i)).length = (toString i).length := by
      show (Str.ofString (toString i)).length = _
      exact PySem.ofString_length _
    omega
  · simp only [PyData.weight]
    split <;> omega
theorem nice_str {x : Str} (h : x.cps.size ≤ 170) (hc : ∀ c ∈ x.cps.toList, c < 16 ^ 8) : Nice 170 0 (.str x) :=
  ⟨rfl, Nat.le_refl _, by simp only [PyData.leavesShort, List.all_eq_true, decide_eq_true_eq]; exact hc, h⟩
theorem nice_all {W k : Nat} : ∀ {ds : List PyData}, (∀ d ∈ ds, Nice W k d) → PyData.showableAll ds = true ∧ PyData.depthAll ds ≤ k ∧ PyData.leavesShortAll 60 ds = true ∧ PyData.weightAll ds ≤ ds.length * (W + 1)
  | [], _ => ⟨rfl, Nat.zero_le _, rfl, Nat.zero_le _⟩
  | d :: ds, h => by
    obtain ⟨a1, a2, a3, a4⟩ := h d (List.mem_cons_self ..)
    obtain ⟨b1, b2, b3, b4⟩ := nice_all fun e he => h e (List.mem_cons_of_mem _ he)
    refine ⟨by simp only [PyData.showableAll, a1, b1, Bool.and_self], by simp only [PyData.depthAll]; omega, by simp only [PyData.leavesShortAll, a3, b3, Bool.and_self], ?_⟩
    simp only [PyData.weightAll, List.length_cons, Nat.add_mul, Nat.one_mul]
    omega
theorem nice_tup {W k L : Nat} {ds : List PyData} (h : ∀ d ∈ ds, Nice W k d) (hl : ds.length ≤ L) : Nice (L * (W + 1)) (k + 1) (.tuple ds) := by
  obtain ⟨b1, b2, b3, b4⟩ := nice_all h
  have z : ds.length * (W + 1) ≤ L * (W + 1) := Nat.mul_le_mul_right _ hl
  exact ⟨by simpa only [PyData.showable] using b1, by simp only [PyData.depth]; omega, by simpa only [PyData.leavesShort] using b3, by simp only [PyData.weight]; omega⟩
theorem nice_lst {W k L : Nat} {ds : List PyData} (h : ∀ d ∈ ds, Nice W k d) (hl : ds.length ≤ L) : Nice (L * (W + 1)) (k + 1) (.list ds) := by
  obtain ⟨b1, b2, b3, b4⟩ := nice_all h
  have z : ds.length * (W + 1) ≤ L * (W + 1) := Nat.mul_le_mul_right _ hl
  exact ⟨by simpa only [PyData.showable] using b1, by simp only [PyData.depth]; omega, by simpa only [PyData.leavesShort] using b3, by simp only [PyData.weight]; omega⟩
theorem nice_ints {ns : List Int} (h : ∀ n ∈ ns, n.natAbs < 10 ^ 50) : ∀ d ∈ ns.map PyData.int, Nice 170 0 d := fun d hd => by
  obtain ⟨n, hn, rfl⟩ := List.mem_map.mp hd
  exact nice_int (h n hn)

/-! ### repr(v) -/
section
variable {X : Cx}
theorem call_reprD (hg : X.A.guards = some []) (hu : X.A.units + 64 < cLine) : CallR X (.builtin "repr") (fun xs H Q => ∃ v d W, xs = [v] ∧ Rp X.K H v d ∧ Nice W 50 d ∧ W ≤ 270000 ∧ Q (.str d.shown) H) := by
  intro pins st σ H xs us Q I r h
  obtain ⟨v, d, W, rfl, hr, hn, hW, q⟩ := h
  obtain ⟨u, rfl, ru⟩ := vals1 r
  obtain ⟨as, hR, hs⟩ := rp_reads I hr ru
  have hz := hn.shown hW
  have hd := hn.dp
  have fin : ∀ t, EP X pins σ Q (.str d.shown t) { st with toks := st.toks + 1 } := fun t => ⟨.str d.shown, H, I.tok _, ⟨t, rfl⟩, q⟩
  cases hR with
  | none => exact PySem.P.repr_of_none (fin _)
  | bool b => exact PySem.P.repr_of_bool (fin _)
  | int i t => exact PySem.P.repr_of_int (by have := hn.sh; simpa only [PyData.showable, decide_eq_true_eq] using this) (fin _)
  | str x t => exact PySem.P.repr_of_str (fin _) hz
  | list a b c e => exact repr_of_reads' (.list a b c e) hn.sh hs hg (by omega) (fun _ _ z => z) (fun h' t tk hk => ⟨.str _, H, I.kept hk, ⟨t, rfl⟩, q⟩) hz
  | tuple a b c e => exact repr_of_reads' (.tuple a b c e) hn.sh hs hg (by omega) (fun _ _ z => z) (fun h' t tk hk => ⟨.str _, H, I.kept hk, ⟨t, rfl⟩, q⟩) hz
  | dict a b c e f => exact repr_of_reads' (.dict a b c e f) hn.sh hs hg (by omega) (fun _ _ z => z) (fun h' t tk hk => ⟨.str _, H, I.kept hk, ⟨t, rfl⟩, q⟩) hz
end
end PT

set_option maxHeartbeats 4000000
/-! the law's own call, where it is known that nothing is being shown: its body may use repr of data -/
namespace PT
open PySem PySem.Spec PyProof.Rows L2

section
variable {CX : CXT} {P : Program} {w : World} {K : PySem.W.Frag} {mg : Str → Option Value} {base : Heap}
/-- a def's call at one Around, from the reading of its body there -/
theorem at_body {k : Nat} {f : Addr} {name qual : Str} {params : Arguments} {body : List Stmt} {scope : Scope} {dV kV doc pm cdv ct oc : Value} {an od : Option Addr} {osl : Array (Option Value)} {N ps : List Str} {A : Around} {outer : List Env} {st : Shared} {H : Hp} {args : Args} {us : List Value} {vs : List V} {Q : VK} {E : XK}
    (lk : K.lookup f = some ⟨oc, od, .func (PySem.W.fnOf name qual params body scope dV kV doc pm an cdv ct), osl⟩) (cd : PySem.W.codeIn K cdv qual = true) (S : FnScope N ps scope) (room : Room (k + 1) A) (e0 : Env0 P w K mg base A outer st H)
    (bd : BindsTo st (PySem.W.fnOf name qual params body scope dV kV doc pm an cdv ct) args (ps.zip us)) (rv : Vals vs us) (ln : vs.length = ps.length)
    (rd : ∃ t, PSs (cxOf CX P w K mg base N qual scope f cdv A outer st H E) body t ∧ t { nx := fun _ H' => Q .non H', rt := Q } (start N vs) H) :
    codeAny (model P w) A (.call (.ref f) args) (CR CX outer P w H st Q E) st := by
  have kin : K.In st.heap := e0.mod.kin.keeps fun b o z => (e0.bs b o z).1
  have nol : st.heap.NoLimit := e0.mod.nolimit.keeps fun b o z => (e0.bs b o z).1
  have kinds : ∀ y ∈ ps.zip us, scope.names.lookup y.1 = some .local ∨ (scope.names.lookup y.1 = some .cell ∧ ((cellsFrom (st.heap.objs.size + 1) scope.names []).lookup y.1).isSome = true) := by
    rintro ⟨n, v⟩ hy
    exact (S.par n (List.of_mem_zip hy).1).imp id fun z => ⟨z, PySem.W.cellsFrom_some _ _ _ (.inl z)⟩
  refine codeAny_call_function room.depth (kin _ _ lk) rfl S.co S.gen rfl (PySem.W.codeRec_of kin cd) (bd _ _ _ _ (wpAny_newFunctionEnv_cells S.kind kinds fun env ee s1 x => ?_))
  subst ee
  refine ⟨nol.keeps x.toInCall.keep, codeAny_func ?_⟩
  obtain ⟨t, ht, hq⟩ := rd
  have I : Inv (cxOf CX P w K mg base N qual scope f cdv A outer st H E) [] (start N vs) H s1 := inv_start S room.hd e0 ln rv x
  refine wpAny_mono (ht.run [] s1 (start N vs) H _ I hq) (fun fl s2 z => ?_) fun _ _ z => z
  cases fl with
  | ret u =>
    obtain ⟨v, σ2, H2, J, rr, q⟩ := z
    exact ⟨v, H2, J.os, J.bare, J.base, J.hok, rr, q⟩
  | next =>
    obtain ⟨σ2, H2, J, q⟩ := z
    exact ⟨V.non, H2, J.os, J.bare, J.base, J.hok, rfl, q⟩
  | brk =>
    obtain ⟨_, _, _, q⟩ := z
    cases q
  | cont =>
    obtain ⟨_, _, _, q⟩ := z
    cases q
end

/-- the law's call behind the top: only the script may be tracked, and it is known -/
theorem law_atG {P : Program} {w : World} {K : PySem.W.Frag} {mg mb : Str → Option Value} {fa a : Addr} {s₁ : Shared} {vs : List Value} {ns : List Int}
    (kin : K.In s₁.heap) (gl : s₁.heap.Ns mainGlobals mg) (bl : s₁.heap.Ns builtinsNs mb) (bb : ∀ x : Str, x ≠ "__name__" → mb x = bootBuiltins x) (nl : s₁.heap.NoLimit) (gn : s₁.gens = #[])
    (ha : s₁.heap.get? a = some { cls := .type "list", data := .seq vs.toArray }) (hi : IntsAre vs ns) (hl : ns.length ≤ sizeLine)
    (F : ∀ (base : Heap) (H : Hp), K.In base → base.Ns mainGlobals mg → Only H → SqL K H a (ns.map V.int) → Env0 P w K mg base callerA [] s₁ H →
      codeAny (model P w) callerA (.call (.ref fa) ⟨[.ref a], []⟩) (CR CX0 [] P w H s₁ (fun v _ => v = .bl true) fun _ _ _ => False) s₁) :
    codeAny (model P w) callerA (.call (.ref fa) ⟨[.ref a], []⟩) (fun r s' => r = .ok (.ret (.bool true)) ∧ OldK s₁.heap s'.heap ∧ s'.os = s₁.os ∧ AllBare s'.gens) s₁ := by
  have rv := vals_ints hi
  have ln := hi.length
  suffices main : ∃ H : Hp, Only H ∧ SqL K H a (ns.map V.int) ∧ HOk P w H s₁.heap ∧ (∀ b, H b ≠ none → b = a ∧ K.lookup a = none) by
    obtain ⟨H, o1, o2, ok, tr⟩ := main
    have keepH : ∀ {b : Addr} {o : Obj}, s₁.heap.get? b = some o → H b = none → (hidT s₁.heap H).get? b = some o := fun z n => hidT_get z n
    have seqNot : ∀ {b : Addr} {o : Obj} {es : Array DictEntry} {ep : Nat}, s₁.heap.get? b = some o → o.data = .dict es ep → H b = none := by
      intro b o es ep z1 z2
      by_cases n : H b = none
      · exact n
      · rw [(tr b n).1, ha] at z1
        cases z1
        cases z2
    have nss : ∀ {b : Addr} {m : Str → Option Value}, s₁.heap.Ns b m → (hidT s₁.heap H).Ns b m := by
      rintro b m ⟨o, es, ep, z1, z2, r⟩
      exact ⟨o, es, ep, keepH z1 (seqNot z1 z2), z2, r⟩
    have kb : K.In (hidT s₁.heap H) := by
      intro b o z
      refine keepH (kin b o z) ?_
      by_cases n : H b = none
      · exact n
      · obtain ⟨z1, z2⟩ := tr b n
        rw [z1, z2] at z
        cases z
    have md : Mod K mg (hidT s₁.heap H) := by
      obtain ⟨mc, c1, c2⟩ := nl
      exact ⟨kb, nss gl, ⟨mb, nss bl, bb⟩, ⟨mc, nss c1, c2⟩⟩
    have en : Env0 P w K mg (hidT s₁.heap H) callerA [] s₁ H :=
      ⟨rfl, md, fun _ _ z => of_hidT z, Nat.le_of_eq (hidT_size _ _), trivial, fun b z => absurd (show b ∈ ([] : List Addr) from z) (by simp), ok, .of_eq gn⟩
    refine codeAny_mono (F _ H kb (nss gl) o1 o2 en) fun r s2 z => ?_
    match r, z with
    | .error _, z => exact False.elim z
    | .ok .next, z => exact False.elim z
    | .ok .brk, z => exact False.elim z
    | .ok .cont, z => exact False.elim z
    | .ok (.ret u), z =>
      obtain ⟨v, H2, os, bare, un, ok2, rr, q⟩ := z
      have q2 : v = .bl true := q
      subst q2
      obtain rfl : u = Value.bool true := rr
      refine ⟨rfl, .of_keep fun b o z => ?_, os, bare⟩
      by_cases n : H b = none
      · exact un.keep b o z n (fun y => absurd (show b ∈ ([] : List Addr) from y) (by simp)) (by simp)
      · rcases o1 b with y | ⟨ob, xs, y⟩
        · exact absurd y n
        · obtain ⟨y1, _⟩ := ok b _ y
          obtain ⟨y2, _⟩ := ok2 b _ (un.frzs b ob _ y)
          rw [z] at y1
          cases y1
          exact y2
  cases hk : K.lookup a with
  | some o =>
    have z := kin a o hk
    rw [ha] at z
    cases z
    exact ⟨fun _ => none, fun _ => .inl rfl, .inr ⟨_, vs.toArray, _, hk, rfl, rfl, rfl, by rw [List.size_toArray, ln]; exact hl, by simpa using rv⟩, fun _ u y => absurd (show (none : Option HO) = some u from y) (by simp), fun _ y => absurd rfl y⟩
  | none =>
    let scr : HO := .frz { cls := .type "list", data := .seq vs.toArray } (.lst (ns.map V.int))
    refine ⟨fun b => if b = a then some scr else none, fun b => ?_, .inl (.inr ⟨_, if_pos rfl⟩), fun b u z => ?_, fun b z => ?_⟩
    · by_cases e : b = a
      · exact .inr ⟨_, _, if_pos e⟩
      · exact .inl (if_neg e)
    · by_cases e : b = a
      · have z2 : some scr = some u := (if_pos e).symm.trans z
        cases z2
        rw [e]
        exact ⟨ha, by rw [List.length_map]; exact hl, vs, _, rv, ha⟩
      · exact absurd (show (none : Option HO) = some u from (if_neg e).symm.trans z) (by simp)
    · by_cases e : b = a
      · exact ⟨e, rfl⟩
      · exact absurd (if_neg e) z
/-- what k_head leaves, from such a call -/
theorem walk_G {l : PySem.W.OpenLaw} {n : Nat} {q : Program} {loose : List Str} {XP : (Str → Option Value) → Heap → Prop} {YP : World → Heap → Prop} {d : DefRec} {K : Params → PySem.W.Frag}
    (hn : l.most = some n) (hn2 : n ≤ sizeLine) (hdf : d.params.defaults = []) (hY : ∀ (w : World) (h : Heap), YP w h → (K w.params).In h)
    (F : ∀ (w : World) (mg : Str → Option Value) (fa a : Addr) (st : Shared) (base : Heap) (H : Hp) (ns : List Int), (K w.params).In st.heap → st.heap.Ns mainGlobals mg → mg d.name = some (.ref fa) → (K w.params).In base → base.Ns mainGlobals mg → ns.length ≤ n → Only H → SqL (K w.params) H a (ns.map V.int) →
      Env0 l.prog w (K w.params) mg base callerA [] st H → codeAny (model l.prog w) callerA (.call (.ref fa) ⟨[.ref a], []⟩) (CR CX0 [] l.prog w H st (fun v _ => v = .bl true) fun _ _ _ => False) st) :
    PySem.W.WalkO q loose XP YP l.row.toRowW d [] (fun f vs => PySem.call f vs) := by
  refine Att.attach_call hn hdf fun w s₀ s₁ mg mb fa o pm cd doc a vs ns G Y ho hd hcd hmg hobj hints hlen hg => ?_
  have kin := hY w _ Y
  exact law_atG kin G.T.g G.T.b G.T.builtins G.T.nolimit hg hobj hints (Nat.le_trans hlen hn2) fun base H kb gb o1 o2 en => F w mg fa a s₁ base H ns kin G.T.g hmg kb gb hlen o1 o2 en
end PT

/-! classes of errors that a program has written -/
namespace PT
open PySem PySem.Spec PyProof.Rows L2
/-- a class of errors that the program has written, without an __init__ of its own -/
structure ExcC (K : PySem.W.Frag) (mg : Str → Option Value) (x : Str) (C : Addr) : Prop where
  g : mg x = some (.ref C)
  e : PySem.W.excIn K C [.type "ValueError", .type "Exception", .type "BaseException", .type "object"] "ValueError.__new__" = true
  k : PySem.W.keepIn K (.ref C) = true
  s : PySem.W.subIn K (.ref C) (.type "BaseException") = some true
  t : PySem.W.typeIn K (.ref C) = some (.type "type")
end PT

/-! plants as lists of ints: customers, paths, suppliers, sizes -/
namespace PT

structure Plant (pl : List Int) : Prop where
  len : pl.length ≤ 39
  ok : ∀ (i : Nat) (x : Int), pl[i]? = some x → 0 ≤ x ∧ x ≤ i
/-- the customer of a station that is not 0 -/
def cu (pl : List Int) (k : Nat) : Nat := min (pl.getD (k - 1) 0).toNat (k - 1)
theorem cu_lt (pl : List Int) {k : Nat} (h : 0 < k) : cu pl k < k := by
  unfold cu
  omega
theorem Plant.at {pl : List Int} (p : Plant pl) {i : Nat} (hi : i < pl.length) : pl[i]? = some ((cu pl (i + 1) : Nat) : Int) := by
  have e : pl[i]? = some pl[i] := List.getElem?_eq_getElem hi
  obtain ⟨h0, h1⟩ := p.ok i _ e
  rw [e]
  unfold cu
  rw [Nat.add_sub_cancel, List.getD_eq_getElem?_getD, e, Option.getD_some]
  congr 1
  omega
/-- the way to station 0 -/
def path (pl : List Int) (k : Nat) : List Nat := if h : 0 < k then k :: path pl (cu pl k) else [k]
termination_by k
decreasing_by exact cu_lt pl h
theorem path_zero (pl : List Int) : path pl 0 = [0] := by
  rw [path]
  rfl
theorem path_pos (pl : List Int) {k : Nat} (h : 0 < k) : path pl k = k :: path pl (cu pl k) := by
  rw [path, dif_pos h]
theorem path_head (pl : List Int) (k : Nat) : (path pl k)[0]? = some k := by
  by_cases h : 0 < k
  · rw [path_pos pl h]; rfl
  · have : k = 0 := by omega
    subst this
    rw [path_zero]; rfl
theorem path_le (pl : List Int) : ∀ (k m : Nat), m ∈ path pl k → m ≤ k := by
  intro k
  induction k using Nat.strongRecOn with
  | ind k ih =>
    intro m hm
    by_cases h : 0 < k
    · rw [path_pos pl h] at hm
      rcases List.mem_cons.mp hm with e | e
      · omega
      · have := ih _ (cu_lt pl h) m e
        have := cu_lt pl h
        omega
    · have e : k = 0 := by omega
      subst e
      rw [path_zero] at hm
      simp at hm
      omega
theorem path_len (pl : List Int) : ∀ (k : Nat), (path pl k).length ≤ k + 1 := by
  intro k
  induction k using Nat.strongRecOn with
  | ind k ih =>
    by_cases h : 0 < k
    · rw [path_pos pl h, List.length_cons]
      have := ih _ (cu_lt pl h)
      have := cu_lt pl h
      omega
    · have e : k = 0 := by omega
      subst e
      rw [path_zero]
      simp
/-- the first station of the way that is at most m -/
def anc (pl : List Int) (m k : Nat) : Nat := if h : m < k then anc pl m (cu pl k) else k
termination_by k
decreasing_by exact cu_lt pl (by omega)
theorem anc_gt (pl : List Int) {m k : Nat} (h : m < k) : anc pl m k = anc pl m (cu pl k) := by
  rw [anc, dif_pos h]
theorem anc_le (pl : List Int) {m k : Nat} (h : k ≤ m) : anc pl m k = k := by
  rw [anc, dif_neg (by omega)]
theorem anc_mem (pl : List Int) (m : Nat) : ∀ k, anc pl m k = m ↔ m ∈ path pl k := by
  intro k
  induction k using Nat.strongRecOn with
  | ind k ih =>
    by_cases h : m < k
    · rw [anc_gt pl h, path_pos pl (by omega), List.mem_cons, ih _ (cu_lt pl (by omega))]
      constructor
      · exact .inr
      · rintro (e | e)
        · omega
        · exact e
    · rw [anc_le pl (by omega)]
      constructor
      · intro e
        subst e
        exact List.mem_of_getElem? (path_head pl k)
      · intro e
        have := path_le pl k m e
        omega
theorem anc_step (pl : List Int) {m : Nat} (hm : 0 < m) : ∀ k, anc pl (m - 1) k = if anc pl m k = m then cu pl m else anc pl m k := by
  intro k
  induction k using Nat.strongRecOn with
  | ind k ih =>
    by_cases h : m < k
    · rw [anc_gt pl h, anc_gt pl (by omega), ih _ (cu_lt pl (by omega))]
    · by_cases e : k = m
      · subst e
        have c := cu_lt pl hm
        rw [anc_gt pl (by omega), anc_le pl (Nat.le_refl k), if_pos rfl, anc_le pl (by omega)]
      · rw [anc_le pl (by omega), anc_le pl (by omega), if_neg e]
/-- how many stations come to j when all above m are passed on -/
def cnt (pl : List Int) (m j : Nat) : Nat := (List.range (pl.length + 1)).countP fun k => decide (anc pl m k = j)
theorem countP_or {α : Type} {p q r : α → Bool} (h : ∀ x, r x = (p x || q x)) (d : ∀ x, p x = true → q x = false) : ∀ l : List α, l.countP r = l.countP p + l.countP q
  | [] => rfl
  | x :: l => by
    rw [List.countP_cons, List.countP_cons, List.countP_cons, countP_or h d l, h x]
    cases ep : p x with
    | true =>
      rw [d x ep]
      simp
      omega
    | false =>
      cases q x <;> simp <;> omega
theorem countP_none {α : Type} {p : α → Bool} (h : ∀ x, p x = false) : ∀ l : List α, l.countP p = 0
  | [] => rfl
  | x :: l => by rw [List.countP_cons, countP_none h l, h x]; rfl
theorem cnt_step (pl : List Int) {m j : Nat} (hm : 0 < m) (hj : j < m) : cnt pl (m - 1) j = cnt pl m j + if cu pl m = j then cnt pl m m else 0 := by
  unfold cnt
  by_cases c : cu pl m = j
  · rw [if_pos c]
    refine countP_or (fun k => ?_) (fun k h => ?_) _
    · rw [anc_step pl hm k]
      by_cases e : anc pl m k = m
      · rw [if_pos e, c]
        simp [e]
      · rw [if_neg e]
        simp [e]
    · have := of_decide_eq_true h
      exact decide_eq_false (by omega)
  · rw [if_neg c, Nat.add_zero]
    congr 1
    funext k
    rw [anc_step pl hm k]
    by_cases e : anc pl m k = m
    · rw [if_pos e]
      have h1 : ¬ anc pl m k = j := by omega
      simp [c, h1]
    · rw [if_neg e]
theorem countP_one (j : Nat) : ∀ n, (List.range n).countP (fun k => decide (k = j)) = if j < n then 1 else 0
  | 0 => rfl
  | n + 1 => by
    rw [List.range_succ, List.countP_append, countP_one j n]
    simp only [List.countP_cons, List.countP_nil]
    by_cases e : n = j
    · subst e
      simp
    · by_cases h : j < n
      · have h2 : j < n + 1 := by omega
        simp [e, h, h2]
      · have h2 : ¬ j < n + 1 := by omega
        simp [e, h, h2]
theorem cnt_top (pl : List Int) {j : Nat} (hj : j ≤ pl.length) : cnt pl pl.length j = 1 := by
  unfold cnt
  have e : (List.range (pl.length + 1)).countP (fun k => decide (anc pl pl.length k = j)) = (List.range (pl.length + 1)).countP (fun k => decide (k = j)) := by
    refine List.countP_congr fun k hk => ?_
    have : k ≤ pl.length := by have := List.mem_range.mp hk; omega
    rw [anc_le pl this]
  rw [e, countP_one, if_pos (by omega)]
/-- the size of a station -/
def sz (pl : List Int) (j : Nat) : Nat := (List.range (pl.length + 1)).countP fun k => decide (j ∈ path pl k)
theorem cnt_sz (pl : List Int) (j : Nat) : cnt pl j j = sz pl j := by
  unfold cnt sz
  refine List.countP_congr fun k _ => ?_
  simp only [decide_eq_true_eq]
  exact anc_mem pl j k
/-- the list of sizes when the stations above m are passed on -/
def szs (pl : List Int) (m : Nat) : List Int := (List.range (pl.length + 1)).map fun j => if j ≤ m then ((cnt pl m j : Nat) : Int) else ((sz pl j : Nat) : Int)
theorem szs_len (pl : List Int) (m : Nat) : (szs pl m).length = pl.length + 1 := by
  unfold szs
  rw [List.length_map, List.length_range]
theorem szs_at (pl : List Int) (m : Nat) {j : Nat} (hj : j ≤ pl.length) : (szs pl m)[j]? = some (if j ≤ m then ((cnt pl m j : Nat) : Int) else ((sz pl j : Nat) : Int)) := by
  unfold szs
  rw [List.getElem?_map, List.getElem?_range (by omega)]
  rfl
theorem szs_top (pl : List Int) : szs pl pl.length = List.replicate (pl.length + 1) 1 := by
  refine List.ext_getElem? fun j => ?_
  by_cases hj : j ≤ pl.length
  · rw [szs_at pl _ hj, if_pos hj, cnt_top pl hj, List.getElem?_replicate, if_pos (by omega)]
    rfl
  · rw [List.getElem?_eq_none (by rw [szs_len]; omega), List.getElem?_eq_none (by rw [List.length_replicate]; omega)]
theorem szs_step (pl : List Int) {m : Nat} (hm : 0 < m) (hn : m ≤ pl.length) : szs pl (m - 1) = (szs pl m).set (cu pl m) (((cnt pl m (cu pl m) : Nat) : Int) + ((cnt pl m m : Nat) : Int)) := by
  have hc := cu_lt pl hm
  refine List.ext_getElem? fun j => ?_
  by_cases hj : j ≤ pl.length
  · rw [szs_at pl _ hj]
    by_cases e : cu pl m = j
    · subst e
      rw [List.getElem?_set_self (by rw [szs_len]; omega), if_pos (by omega), cnt_step pl hm hc, if_pos rfl]
      congr 1
    · rw [List.getElem?_set_ne e, szs_at pl _ hj]
      by_cases h1 : j ≤ m - 1
      · rw [if_pos h1, if_pos (by omega), cnt_step pl hm (by omega), if_neg e, Nat.add_zero]
      · rw [if_neg h1]
        by_cases h2 : j ≤ m
        · have : j = m := by omega
          subst this
          rw [if_pos (Nat.le_refl _), cnt_sz]
        · rw [if_neg h2]
  · rw [List.getElem?_eq_none (by rw [szs_len]; omega), List.getElem?_eq_none (by rw [List.length_set, szs_len]; omega)]
theorem szs_zero (pl : List Int) {j : Nat} (hj : j ≤ pl.length) : (szs pl 0)[j]? = some ((sz pl j : Nat) : Int) := by
  rw [szs_at pl 0 hj]
  by_cases h : j ≤ 0
  · have : j = 0 := by omega
    subst this
    rw [if_pos (Nat.le_refl _), cnt_sz]
  · rw [if_neg h]
theorem cnt_le (pl : List Int) (m j : Nat) : cnt pl m j ≤ pl.length + 1 := by
  unfold cnt
  exact Nat.le_trans List.countP_le_length (by rw [List.length_range]; exact Nat.le_refl _)
theorem sz_le (pl : List Int) (j : Nat) : sz pl j ≤ pl.length + 1 := by
  rw [← cnt_sz]
  exact cnt_le pl j j

/-- the suppliers of j among the first i stations that have a customer -/
def sup (pl : List Int) (i j : Nat) : List Int := ((List.range i).filter fun k => decide (pl.getD k 0 = (j : Int))).map fun k => ((k : Nat) : Int) + 1
theorem sup_zero (pl : List Int) (j : Nat) : sup pl 0 j = [] := rfl
theorem sup_step {pl : List Int} {i : Nat} {x : Int} (j : Nat) (h : pl[i]? = some x) : sup pl (i + 1) j = if x = (j : Int) then sup pl i j ++ [((i : Nat) : Int) + 1] else sup pl i j := by
  unfold sup
  rw [List.range_succ, List.filter_append, List.map_append]
  have e : pl[i]?.getD 0 = x := by rw [h]; rfl
  by_cases c : x = (j : Int)
  · rw [if_pos c]
    simp [e, c]
  · rw [if_neg c]
    simp [e, c]
theorem sup_len (pl : List Int) (i j : Nat) : (sup pl i j).length ≤ i := by
  unfold sup
  rw [List.length_map]
  exact Nat.le_trans (List.length_filter_le ..) (by rw [List.length_range]; exact Nat.le_refl _)
theorem sup_small (pl : List Int) (i j : Nat) : ∀ n ∈ sup pl i j, 0 ≤ n ∧ n ≤ i := by
  intro n hn
  unfold sup at hn
  obtain ⟨k, hk, rfl⟩ := List.mem_map.mp hn
  have := List.mem_range.mp (List.mem_filter.mp hk).1
  omega
theorem sup_nil {pl : List Int} (j : Nat) : sup pl pl.length j = [] ↔ (j : Int) ∉ pl := by
  constructor
  · intro h hm
    obtain ⟨k, hk, e⟩ := List.getElem_of_mem hm
    have : ((k : Nat) : Int) + 1 ∈ sup pl pl.length j := by
      unfold sup
      refine List.mem_map.mpr ⟨k, List.mem_filter.mpr ⟨List.mem_range.mpr hk, ?_⟩, rfl⟩
      rw [decide_eq_true_eq, List.getD_eq_getElem?_getD, List.getElem?_eq_getElem hk, Option.getD_some]
      exact e
    rw [h] at this
    cases this
  · intro h
    unfold sup
    rw [List.map_eq_nil_iff, List.filter_eq_nil_iff]
    intro k hk c
    have hk' := List.mem_range.mp hk
    have e := of_decide_eq_true c
    rw [List.getD_eq_getElem?_getD, List.getElem?_eq_getElem hk', Option.getD_some] at e
    exact h (e ▸ List.getElem_mem hk')
/-- the makers -/
def mks (pl : List Int) (i : Nat) : List Int := ((List.range i).filter fun (j : Nat) => decide ((j : Int) ∉ pl)).map fun (j : Nat) => (j : Int)
theorem mks_step (pl : List Int) (i : Nat) : mks pl (i + 1) = if (i : Int) ∈ pl then mks pl i else mks pl i ++ [((i : Nat) : Int)] := by
  unfold mks
  rw [List.range_succ, List.filter_append, List.map_append]
  by_cases c : (i : Int) ∈ pl
  · rw [if_pos c]
    simp [c]
  · rw [if_neg c]
    simp [c]
theorem mks_len (pl : List Int) (i : Nat) : (mks pl i).length ≤ i := by
  unfold mks
  rw [List.length_map]
  exact Nat.le_trans (List.length_filter_le ..) (by rw [List.length_range]; exact Nat.le_refl _)
theorem mks_small (pl : List Int) (i : Nat) : ∀ n ∈ mks pl i, 0 ≤ n ∧ n ≤ i := by
  intro n hn
  unfold mks at hn
  obtain ⟨k, hk, rfl⟩ := List.mem_map.mp hn
  have := List.mem_range.mp (List.mem_filter.mp hk).1
  omega
end PT

/-! a day of a plant, as a function on lists -/
namespace PT

theorem sup_gt {pl : List Int} (hP : Plant pl) {j : Nat} {n : Int} (h : n ∈ sup pl pl.length j) : ∃ k : Nat, n = (k : Int) ∧ j < k ∧ k ≤ pl.length := by
  unfold sup at h
  obtain ⟨k, hk, rfl⟩ := List.mem_map.mp h
  obtain ⟨h1, h2⟩ := List.mem_filter.mp hk
  have hk' := List.mem_range.mp h1
  have e : pl[k]? = some pl[k] := List.getElem?_eq_getElem hk'
  obtain ⟨a, b⟩ := hP.ok k _ e
  have c := of_decide_eq_true h2
  rw [List.getD_eq_getElem?_getD, e, Option.getD_some] at c
  exact ⟨k + 1, by omega, by omega, by omega⟩
/-- the number of the box at a station -/
def bx (ss : List Int) (k : Int) : Int := ss.getD k.toNat 0
/-- the first of the stations with the oldest box -/
def pickB (ss : List Int) (b : Int) (l : List Int) : Int := l.foldl (fun b o => if bx ss o < bx ss b then o else b) b
theorem pickB_mem (ss : List Int) : ∀ (l : List Int) (b : Int), pickB ss b l ∈ b :: l
  | [], b => List.mem_cons_self
  | o :: l, b => by
    have ih := pickB_mem ss l (if bx ss o < bx ss b then o else b)
    show pickB ss (if bx ss o < bx ss b then o else b) l ∈ b :: o :: l
    rcases List.mem_cons.mp ih with e | e
    · rw [e]
      by_cases c : bx ss o < bx ss b
      · rw [if_pos c]; simp
      · rw [if_neg c]; simp
    · exact List.mem_cons_of_mem _ (List.mem_cons_of_mem _ e)
theorem pickB_le (ss : List Int) : ∀ (l : List Int) (b : Int), ∀ x ∈ b :: l, bx ss (pickB ss b l) ≤ bx ss x
  | [], b, x, h => by
    rw [List.mem_singleton.mp h]
    exact Int.le_refl _
  | o :: l, b, x, h => by
    have ih := pickB_le ss l (if bx ss o < bx ss b then o else b)
    show bx ss (pickB ss (if bx ss o < bx ss b then o else b) l) ≤ bx ss x
    have h0 := ih _ List.mem_cons_self
    rcases List.mem_cons.mp h with e | e
    · subst e
      by_cases c : bx ss o < bx ss x
      · rw [if_pos c] at h0 ⊢
        omega
      · rw [if_neg c] at h0 ⊢
        exact h0
    · rcases List.mem_cons.mp e with e | e
      · subst e
        by_cases c : bx ss x < bx ss b
        · rw [if_pos c] at h0 ⊢
          exact h0
        · rw [if_neg c] at h0 ⊢
          omega
      · exact ih x (List.mem_cons_of_mem _ e)
/-- the supplier that gives to j; 0 for a maker -/
def bst (pl ss : List Int) (j : Nat) : Nat := match sup pl pl.length j with
  | [] => 0
  | h :: r => (pickB ss h (h :: r)).toNat
theorem bst_nil {pl ss : List Int} {j : Nat} (h : sup pl pl.length j = []) : bst pl ss j = 0 := by
  unfold bst
  rw [h]
theorem bst_cons {pl ss : List Int} {j : Nat} {h : Int} {r : List Int} (hP : Plant pl) (e : sup pl pl.length j = h :: r) : pickB ss h (h :: r) = ((bst pl ss j : Nat) : Int) ∧ pickB ss h (h :: r) ∈ sup pl pl.length j ∧ j < bst pl ss j ∧ bst pl ss j ≤ pl.length := by
  have hm : pickB ss h (h :: r) ∈ sup pl pl.length j := by
    rw [e]
    rcases List.mem_cons.mp (pickB_mem ss (h :: r) h) with z | z
    · rw [z]
      exact List.mem_cons_self
    · exact z
  obtain ⟨k, ek, h1, h2⟩ := sup_gt hP hm
  have eb : bst pl ss j = k := by
    unfold bst
    rw [e]
    show (pickB ss h (h :: r)).toNat = k
    omega
  rw [eb]
  exact ⟨ek, hm, h1, h2⟩
/-- the greatest number -/
def mxv : List Int → Int
  | [] => 0
  | x :: r => r.foldl max x
theorem fold_max : ∀ (r : List Int) (x : Int), r.foldl max x ∈ x :: r ∧ ∀ y ∈ x :: r, y ≤ r.foldl max x
  | [], x => ⟨List.mem_cons_self, fun y h => by rw [List.mem_singleton.mp h]; exact Int.le_refl _⟩
  | z :: r, x => by
    obtain ⟨h1, h2⟩ := fold_max r (max x z)
    rw [List.foldl_cons]
    refine ⟨?_, fun y h => ?_⟩
    · rcases List.mem_cons.mp h1 with e | e
      · rw [e]
        by_cases c : x ≤ z
        · rw [Int.max_eq_right c]; simp
        · rw [Int.max_eq_left (by omega)]; simp
      · exact List.mem_cons_of_mem _ (List.mem_cons_of_mem _ e)
    · have h0 := h2 _ List.mem_cons_self
      rcases List.mem_cons.mp h with e | e
      · subst e
        omega
      · rcases List.mem_cons.mp e with e | e
        · subst e
          omega
        · exact h2 y (List.mem_cons_of_mem _ e)
theorem mxv_mem {l : List Int} (h : l ≠ []) : mxv l ∈ l ∧ ∀ y ∈ l, y ≤ mxv l := by
  cases l with
  | nil => exact absurd rfl h
  | cons x r => exact fold_max r x
theorem mxv_of {l : List Int} {m : Int} (h : m ∈ l) (u : ∀ y ∈ l, y ≤ m) : m = mxv l := by
  have hn : l ≠ [] := fun e => by
    rw [e] at h
    cases h
  obtain ⟨a, b⟩ := mxv_mem hn
  have := u _ a
  have := b _ h
  omega
/-- the day from a row, where the chain has come to c -/
def go (pl ss row : List Int) (pre : List Nat) (c : Nat) : List Nat × List Int :=
  if h : c < bst pl ss c ∧ bst pl ss c ≤ pl.length then go pl ss (row.set c (bx ss (bst pl ss c))) (pre ++ [c]) (bst pl ss c) else (pre ++ [c], row.set c (mxv ss + 1))
termination_by pl.length - c
decreasing_by omega
theorem go_on {pl ss row : List Int} {pre : List Nat} {c : Nat} (h : c < bst pl ss c ∧ bst pl ss c ≤ pl.length) : go pl ss row pre c = go pl ss (row.set c (bx ss (bst pl ss c))) (pre ++ [c]) (bst pl ss c) := by
  rw [go, dif_pos h]
theorem go_end {pl ss row : List Int} {pre : List Nat} {c : Nat} (h : ¬ (c < bst pl ss c ∧ bst pl ss c ≤ pl.length)) : go pl ss row pre c = (pre ++ [c], row.set c (mxv ss + 1)) := by
  rw [go, dif_neg h]
/-- a day that begins at j: the chain, the row behind it -/
def day (pl ss : List Int) (j : Nat) : List Nat × List Int := go pl ss ss [] j
theorem perm_set {α : Type} : ∀ {l : List α} {i : Nat} {a : α} (x : α), l[i]? = some a → (a :: l.set i x).Perm (x :: l)
  | [], _, _, _, h => by simp at h
  | y :: r, 0, a, x, h => by
    have e : y = a := Option.some.inj h
    subst e
    exact List.Perm.swap x y r
  | y :: r, i + 1, a, x, h => by
    have ih := perm_set (l := r) (i := i) (a := a) x (by simpa using h)
    show (a :: y :: r.set i x).Perm (x :: y :: r)
    exact ((List.Perm.swap y a (r.set i x)).trans (ih.cons y)).trans (List.Perm.swap x y r)
/-- what a row has to do with the stock while the chain stands at c -/
structure Row (pl ss row : List Int) (s0 : Int) (c : Nat) : Prop where
  len : row.length = ss.length
  top : ∀ k, c ≤ k → row[k]? = ss[k]?
  pm : (s0 :: row).Perm (bx ss c :: ss)
theorem bx_at {ss : List Int} {k : Nat} (h : k < ss.length) : ss[k]? = some (bx ss k) := by
  unfold bx
  rw [Int.toNat_natCast, List.getD_eq_getElem?_getD, List.getElem?_eq_getElem h, Option.getD_some]
theorem Row.start {pl ss : List Int} {c : Nat} (h : c < ss.length) : Row pl ss ss (bx ss c) c := ⟨rfl, fun _ _ => rfl, .refl _⟩
theorem Row.next {pl ss row : List Int} {s0 : Int} {c d : Nat} (h : Row pl ss row s0 c) (hc : c < ss.length) (hd : c < d) : Row pl ss (row.set c (bx ss d)) s0 d := by
  have ec : row[c]? = some (bx ss c) := by
    rw [h.top c (Nat.le_refl _)]
    exact bx_at hc
  refine ⟨by rw [List.length_set]; exact h.len, fun k hk => ?_, ?_⟩
  · rw [List.getElem?_set_ne (by omega)]
    exact h.top k (by omega)
  · have p1 := perm_set (bx ss d) ec
    have p2 : (bx ss c :: s0 :: row.set c (bx ss d)).Perm (bx ss c :: bx ss d :: ss) :=
      (List.Perm.swap s0 (bx ss c) _).trans ((p1.cons s0).trans ((List.Perm.swap (bx ss d) s0 row).trans ((h.pm.cons (bx ss d)).trans (List.Perm.swap (bx ss c) (bx ss d) ss))))
    exact p2.cons_inv
theorem go_ok {pl ss : List Int} (hs : ss.length = pl.length + 1) : ∀ (n : Nat) (row : List Int) (pre : List Nat) (c : Nat) (s0 : Int), pl.length - c = n → c ≤ pl.length → Row pl ss row s0 c →
    (go pl ss row pre c).2.length = ss.length ∧ (s0 :: (go pl ss row pre c).2).Perm ((mxv ss + 1) :: ss) ∧ (∀ x ∈ (go pl ss row pre c).1, x ∈ pre ∨ x ≤ pl.length) ∧ (go pl ss row pre c).1.length ≤ pre.length + (pl.length + 1 - c) ∧ ∃ r, (go pl ss row pre c).1 = pre ++ c :: r := by
  intro n
  induction n using Nat.strongRecOn with
  | ind n ih =>
    intro row pre c s0 hn hc hR
    have hc' : c < ss.length := by omega
    by_cases h : c < bst pl ss c ∧ bst pl ss c ≤ pl.length
    · rw [go_on h]
      obtain ⟨a1, a2, a3, a4, r, a5⟩ := ih (pl.length - bst pl ss c) (by omega) (row.set c (bx ss (bst pl ss c))) (pre ++ [c]) (bst pl ss c) s0 rfl h.2 (hR.next hc' h.1)
      refine ⟨a1, a2, fun x hx => ?_, ?_, bst pl ss c :: r, by rw [a5, List.append_assoc]; rfl⟩
      · rcases a3 x hx with z | z
        · rcases List.mem_append.mp z with z | z
          · exact .inl z
          · exact .inr (by rw [List.mem_singleton.mp z]; exact hc)
        · exact .inr z
      · rw [List.length_append] at a4
        have z : ([c] : List Nat).length = 1 := rfl
        omega
    · rw [go_end h]
      have ec : row[c]? = some (bx ss c) := by
        rw [hR.top c (Nat.le_refl _)]
        exact bx_at hc'
      refine ⟨by rw [List.length_set]; exact hR.len, ?_, fun x hx => ?_, ?_, [], rfl⟩
      · have p1 := perm_set (mxv ss + 1) ec
        have p2 : (bx ss c :: s0 :: row.set c (mxv ss + 1)).Perm (bx ss c :: (mxv ss + 1) :: ss) :=
          (List.Perm.swap s0 (bx ss c) _).trans ((p1.cons s0).trans ((List.Perm.swap (mxv ss + 1) s0 row).trans ((hR.pm.cons (mxv ss + 1)).trans (List.Perm.swap (bx ss c) (mxv ss + 1) ss))))
        exact p2.cons_inv
      · rcases List.mem_append.mp hx with z | z
        · exact .inl z
        · exact .inr (by rw [List.mem_singleton.mp z]; exact hc)
      · rw [List.length_append]
        have z : ([c] : List Nat).length = 1 := rfl
        omega
/-- a day keeps a stock a stock -/
theorem day_ok {pl ss : List Int} (hs : ss.length = pl.length + 1) (hn : ss.Nodup) {j : Nat} (hj : j ≤ pl.length) :
    (day pl ss j).2.length = pl.length + 1 ∧ (day pl ss j).2.Nodup ∧ (∀ x ∈ (day pl ss j).2, x ∈ ss ∨ x = mxv ss + 1) ∧ (∀ x ∈ (day pl ss j).1, x ≤ pl.length) ∧ (day pl ss j).1.length ≤ pl.length + 1 := by
  obtain ⟨a1, a2, a3, a4, _⟩ := go_ok hs _ ss [] j (bx ss j) rfl hj (Row.start (by omega))
  have hne : ss ≠ [] := fun e => by
    rw [e] at hs
    simp at hs
  obtain ⟨m1, m2⟩ := mxv_mem hne
  have nd : ((mxv ss + 1) :: ss).Nodup := List.nodup_cons.mpr ⟨fun h => by have := m2 _ h; omega, hn⟩
  have nd2 := a2.nodup_iff.mpr nd
  refine ⟨by unfold day; rw [a1]; exact hs, (List.nodup_cons.mp nd2).2, fun x hx => ?_, fun x hx => ?_, ?_⟩
  · have z := a2.mem_iff.mp (List.mem_cons_of_mem _ hx)
    rcases List.mem_cons.mp z with e | e
    · exact .inr e
    · exact .inl e
  · rcases a3 x hx with z | z
    · cases z
    · exact z
  · unfold day
    have z : ([] : List Nat).length = 0 := rfl
    omega
end PT

/-! stocks that are ordered: a day keeps them, and each stock becomes one -/
namespace PT

theorem sup_cu {pl : List Int} (hP : Plant pl) {j k : Nat} : ((k : Nat) : Int) ∈ sup pl pl.length j ↔ 0 < k ∧ k ≤ pl.length ∧ cu pl k = j := by
  unfold sup
  rw [List.mem_map]
  constructor
  · rintro ⟨i, hi, e⟩
    obtain ⟨h1, h2⟩ := List.mem_filter.mp hi
    have hi' := List.mem_range.mp h1
    have ek : k = i + 1 := by omega
    subst ek
    have e2 := hP.at hi'
    have c := of_decide_eq_true h2
    rw [List.getD_eq_getElem?_getD, e2, Option.getD_some] at c
    exact ⟨by omega, by omega, by omega⟩
  · rintro ⟨h1, h2, h3⟩
    refine ⟨k - 1, List.mem_filter.mpr ⟨List.mem_range.mpr (by omega), decide_eq_true ?_⟩, by omega⟩
    have e2 := hP.at (i := k - 1) (by omega)
    rw [show k - 1 + 1 = k by omega] at e2
    rw [List.getD_eq_getElem?_getD, e2, Option.getD_some, h3]
/-- does a station give to j? -/
def gives (pl ss : List Int) (j : Nat) : Prop := j < bst pl ss j ∧ bst pl ss j ≤ pl.length
instance (pl ss : List Int) (j : Nat) : Decidable (gives pl ss j) := inferInstanceAs (Decidable (_ ∧ _))
theorem gives_of {pl ss : List Int} (hP : Plant pl) {k : Nat} (h0 : 0 < k) (h1 : k ≤ pl.length) : gives pl ss (cu pl k) ∧ bx ss (bst pl ss (cu pl k)) ≤ bx ss k := by
  have hm := (sup_cu hP).mpr ⟨h0, h1, rfl⟩
  cases e : sup pl pl.length (cu pl k) with
  | nil => rw [e] at hm; cases hm
  | cons h r =>
    obtain ⟨b1, b2, b3, b4⟩ := bst_cons (ss := ss) hP e
    rw [e] at hm
    have z := pickB_le ss (h :: r) h k (List.mem_cons_of_mem _ hm)
    rw [b1] at z
    exact ⟨⟨b3, b4⟩, z⟩
theorem gives_cu {pl ss : List Int} (hP : Plant pl) {j : Nat} (h : gives pl ss j) : cu pl (bst pl ss j) = j := by
  cases e : sup pl pl.length j with
  | nil =>
    have z := bst_nil (ss := ss) e
    unfold gives at h
    omega
  | cons a r =>
    obtain ⟨b1, b2, b3, b4⟩ := bst_cons (ss := ss) hP e
    rw [b1] at b2
    exact ((sup_cu hP).mp b2).2.2
/-- the chain from c on -/
def chn (pl ss : List Int) (c : Nat) : List Nat := if h : c < bst pl ss c ∧ bst pl ss c ≤ pl.length then c :: chn pl ss (bst pl ss c) else [c]
termination_by pl.length - c
decreasing_by omega
theorem chn_on {pl ss : List Int} {c : Nat} (h : gives pl ss c) : chn pl ss c = c :: chn pl ss (bst pl ss c) := by
  rw [chn, dif_pos (show c < bst pl ss c ∧ bst pl ss c ≤ pl.length from h)]
theorem chn_end {pl ss : List Int} {c : Nat} (h : ¬ gives pl ss c) : chn pl ss c = [c] := by
  rw [chn, dif_neg (show ¬ (c < bst pl ss c ∧ bst pl ss c ≤ pl.length) from h)]
theorem chn_self {pl ss : List Int} (c : Nat) : c ∈ chn pl ss c := by
  by_cases h : gives pl ss c
  · rw [chn_on h]; exact List.mem_cons_self
  · rw [chn_end h]; exact List.mem_cons_self
theorem chn_le {pl ss : List Int} : ∀ (n c : Nat), pl.length - c = n → c ≤ pl.length → ∀ k ∈ chn pl ss c, c ≤ k ∧ k ≤ pl.length := by
  intro n
  induction n using Nat.strongRecOn with
  | ind n ih =>
    intro c hn hc k hk
    by_cases h : gives pl ss c
    · rw [chn_on h] at hk
      unfold gives at h
      rcases List.mem_cons.mp hk with z | z
      · omega
      · have := ih (pl.length - bst pl ss c) (by omega) (bst pl ss c) rfl h.2 k z
        omega
    · rw [chn_end h] at hk
      have := List.mem_singleton.mp hk
      omega
theorem chn_down {pl ss : List Int} : ∀ (n c : Nat), pl.length - c = n → ∀ k ∈ chn pl ss c, gives pl ss k → bst pl ss k ∈ chn pl ss c := by
  intro n
  induction n using Nat.strongRecOn with
  | ind n ih =>
    intro c hn k hk hg
    by_cases h : gives pl ss c
    · rw [chn_on h] at hk ⊢
      rcases List.mem_cons.mp hk with z | z
      · rw [z]
        exact List.mem_cons_of_mem _ (chn_self _)
      · unfold gives at h
        exact List.mem_cons_of_mem _ (ih (pl.length - bst pl ss c) (by omega) (bst pl ss c) rfl k z hg)
    · rw [chn_end h] at hk
      rw [List.mem_singleton.mp hk] at hg
      exact absurd hg h
theorem chn_up {pl ss : List Int} : ∀ (n c : Nat), pl.length - c = n → ∀ k ∈ chn pl ss c, k = c ∨ ∃ p ∈ chn pl ss c, gives pl ss p ∧ bst pl ss p = k := by
  intro n
  induction n using Nat.strongRecOn with
  | ind n ih =>
    intro c hn k hk
    by_cases h : gives pl ss c
    · rw [chn_on h] at hk ⊢
      rcases List.mem_cons.mp hk with z | z
      · exact .inl z
      · have h' := h
        unfold gives at h'
        rcases ih (pl.length - bst pl ss c) (by omega) (bst pl ss c) rfl k z with y | ⟨p, y, w⟩
        · exact .inr ⟨c, List.mem_cons_self, h, y.symm⟩
        · exact .inr ⟨p, List.mem_cons_of_mem _ y, w⟩
    · rw [chn_end h] at hk
      exact .inl (List.mem_singleton.mp hk)
/-- what comes to a station of the chain -/
def nxt (pl ss : List Int) (j : Nat) : Int := if gives pl ss j then bx ss (bst pl ss j) else mxv ss + 1
theorem go_chn {pl ss : List Int} : ∀ (n : Nat) (row : List Int) (pre : List Nat) (c : Nat), pl.length - c = n → (go pl ss row pre c).1 = pre ++ chn pl ss c := by
  intro n
  induction n using Nat.strongRecOn with
  | ind n ih =>
    intro row pre c hn
    by_cases h : gives pl ss c
    · have h' := h
      unfold gives at h'
      rw [go_on h', ih (pl.length - bst pl ss c) (by omega) _ _ _ rfl, chn_on h, List.append_assoc]
      rfl
    · rw [go_end h, chn_end h]
theorem go_at {pl ss : List Int} : ∀ (n : Nat) (row : List Int) (pre : List Nat) (c : Nat), pl.length - c = n → c ≤ pl.length → row.length = pl.length + 1 → ∀ j, j ≤ pl.length → (go pl ss row pre c).2[j]? = if j ∈ chn pl ss c then some (nxt pl ss j) else row[j]? := by
  intro n
  induction n using Nat.strongRecOn with
  | ind n ih =>
    intro row pre c hn hc hr j hj
    by_cases h : gives pl ss c
    · have h' := h
      unfold gives at h'
      rw [go_on h', ih (pl.length - bst pl ss c) (by omega) _ _ _ rfl h'.2 (by rw [List.length_set]; exact hr) j hj, chn_on h]
      by_cases hm : j ∈ chn pl ss (bst pl ss c)
      · rw [if_pos hm, if_pos (List.mem_cons_of_mem _ hm)]
      · rw [if_neg hm]
        by_cases e : j = c
        · subst e
          rw [if_pos List.mem_cons_self, List.getElem?_set_self (by omega)]
          unfold nxt
          rw [if_pos h]
        · rw [if_neg (fun z => (List.mem_cons.mp z).elim e hm), List.getElem?_set_ne (fun z => e z.symm)]
    · rw [go_end h, chn_end h]
      by_cases e : j = c
      · subst e
        rw [if_pos List.mem_cons_self, List.getElem?_set_self (by omega)]
        unfold nxt
        rw [if_neg h]
      · rw [if_neg (fun z => e (List.mem_singleton.mp z)), List.getElem?_set_ne (fun z => e z.symm)]
theorem bx_some {ss : List Int} {k : Nat} {v : Int} (h : ss[k]? = some v) : bx ss k = v := by
  unfold bx
  rw [Int.toNat_natCast, List.getD_eq_getElem?_getD, h, Option.getD_some]
theorem day_at {pl ss : List Int} (hs : ss.length = pl.length + 1) {j : Nat} (hj : j ≤ pl.length) : bx (day pl ss 0).2 j = if j ∈ chn pl ss 0 then nxt pl ss j else bx ss j := by
  have z := go_at (pl := pl) (ss := ss) _ ss [] 0 rfl (Nat.zero_le _) hs j hj
  by_cases h : j ∈ chn pl ss 0
  · rw [if_pos h] at z ⊢
    exact bx_some z
  · rw [if_neg h] at z ⊢
    rw [bx_at (ss := ss) (k := j) (by omega)] at z
    exact bx_some z
theorem day_chn {pl ss : List Int} (j : Nat) : (day pl ss j).1 = chn pl ss j := go_chn _ ss [] j rfl
theorem bx_inj {ss : List Int} (hn : ss.Nodup) {i j : Nat} (hi : i < ss.length) (hj : j < ss.length) (h : bx ss i = bx ss j) : i = j := by
  have ei := bx_at hi
  have ej := bx_at hj
  rw [← h] at ej
  exact (List.getElem?_inj hi hn).mp (ei.trans ej.symm)
theorem bx_mem {ss : List Int} {k : Nat} (h : k < ss.length) : bx ss k ∈ ss := List.mem_of_getElem? (bx_at h)
theorem mxv_lt {ss : List Int} {k : Nat} (h : k < ss.length) : bx ss k < mxv ss + 1 := by
  have hne : ss ≠ [] := fun e => by
    rw [e] at h
    cases h
  have := (mxv_mem hne).2 _ (bx_mem h)
  omega
/-- boxes of a kind are older than those that wait below -/
def Waits (N : Int → Prop) (pl ss : List Int) : Prop := ∀ k : Nat, 0 < k → k ≤ pl.length → N (bx ss (cu pl k)) → bx ss (cu pl k) < bx ss k
theorem inv_day {N : Int → Prop} {pl ss : List Int} (hP : Plant pl) (hs : ss.length = pl.length + 1) (hn : ss.Nodup) (h : Waits N pl ss) : Waits N pl (day pl ss 0).2 := by
  intro k h0 h1 hN
  have hc := cu_lt pl h0
  rw [day_at hs (j := cu pl k) (by omega)] at hN ⊢
  rw [day_at hs h1]
  obtain ⟨g1, g2⟩ := gives_of (ss := ss) hP h0 h1
  by_cases hm : cu pl k ∈ chn pl ss 0
  · rw [if_pos hm] at hN ⊢
    have en : nxt pl ss (cu pl k) = bx ss (bst pl ss (cu pl k)) := by
      unfold nxt
      rw [if_pos g1]
    rw [en] at hN ⊢
    by_cases hk : k ∈ chn pl ss 0
    · rw [if_pos hk]
      have ek : bst pl ss (cu pl k) = k := by
        rcases chn_up _ 0 rfl k hk with z | ⟨p, _, gp, ep⟩
        · omega
        · have := gives_cu hP gp
          rw [ep] at this
          rw [this]
          exact ep
      rw [ek] at hN ⊢
      unfold nxt
      by_cases gk : gives pl ss k
      · rw [if_pos gk]
        have e2 := gives_cu hP gk
        have h3 := h (bst pl ss k) (by unfold gives at gk; omega) gk.2
        rw [e2] at h3
        exact h3 hN
      · rw [if_neg gk]
        exact mxv_lt (by omega)
    · rw [if_neg hk]
      have hne : bx ss (bst pl ss (cu pl k)) ≠ bx ss k := fun e => by
        have z := bx_inj hn (by have := g1.2; omega) (by omega) e
        exact hk (z ▸ chn_down _ 0 rfl _ hm g1)
      omega
  · rw [if_neg hm] at hN ⊢
    have hk : k ∉ chn pl ss 0 := fun z => by
      rcases chn_up _ 0 rfl k z with y | ⟨p, hp, gp, ep⟩
      · omega
      · have := gives_cu hP gp
        rw [ep] at this
        rw [this] at hm
        exact hm hp
    rw [if_neg hk]
    exact h k h0 h1 hN
/-- each station's box is older than those of its suppliers -/
def Ord (pl ss : List Int) : Prop := ∀ k : Nat, 0 < k → k ≤ pl.length → bx ss (cu pl k) < bx ss k
theorem ord_day {pl ss : List Int} (hP : Plant pl) (hs : ss.length = pl.length + 1) (hn : ss.Nodup) (h : Ord pl ss) : Ord pl (day pl ss 0).2 := fun k a b => inv_day (N := fun _ => True) hP hs hn (fun k a b _ => h k a b) k a b trivial
/-! ### within n - 1 days -/
theorem countP_two {α : Type} {p : α → Bool} : ∀ {l : List α} {i j : Nat} {a b : α}, i < j → l[i]? = some a → l[j]? = some b → p a = true → p b = true → 2 ≤ l.countP p
  | [], _, _, _, _, _, h, _, _, _ => by simp at h
  | x :: l, 0, j + 1, a, b, _, h, g, pa, pb => by
    have e : x = a := Option.some.inj h
    subst e
    rw [List.countP_cons_of_pos pa]
    have : 0 < l.countP p := List.countP_pos_iff.mpr ⟨b, List.mem_of_getElem? (by simpa using g), pb⟩
    omega
  | x :: l, i + 1, j + 1, a, b, hij, h, g, pa, pb => by
    have := countP_two (l := l) (i := i) (j := j) (by omega) (by simpa using h) (by simpa using g) pa pb
    exact Nat.le_trans this (List.Sublist.countP_le (List.sublist_cons_self x l))
/-- the stock after n days -/
def dyn (pl ss : List Int) : Nat → List Int
  | 0 => ss
  | n + 1 => (day pl (dyn pl ss n) 0).2
theorem dyn_len {pl ss : List Int} (hs : ss.length = pl.length + 1) (hn : ss.Nodup) : ∀ n, (dyn pl ss n).length = pl.length + 1 ∧ (dyn pl ss n).Nodup
  | 0 => ⟨hs, hn⟩
  | n + 1 => by
    obtain ⟨a, b⟩ := dyn_len hs hn n
    obtain ⟨a2, b2, _⟩ := day_ok a b (Nat.zero_le _) (j := 0)
    exact ⟨a2, b2⟩
theorem dyn_add (pl ss : List Int) (m : Nat) : ∀ n, dyn pl ss (m + n) = dyn pl (dyn pl ss m) n
  | 0 => rfl
  | n + 1 => by
    show (day pl (dyn pl ss (m + n)) 0).2 = (day pl (dyn pl (dyn pl ss m) n) 0).2
    rw [dyn_add pl ss m n]
theorem bx0 (ss : List Int) : bx ss ((0 : Nat) : Int) = bx ss 0 := rfl
theorem day_perm {pl ss : List Int} (hs : ss.length = pl.length + 1) : (bx ss 0 :: (day pl ss 0).2).Perm ((mxv ss + 1) :: ss) :=
  (go_ok hs _ ss [] 0 (bx ss ((0 : Nat) : Int)) rfl (Nat.zero_le _) (Row.start (pl := pl) (ss := ss) (c := 0) (by omega))).2.1
theorem day_mxv {pl ss : List Int} (hs : ss.length = pl.length + 1) : mxv (day pl ss 0).2 = mxv ss + 1 := by
  have hne : ss ≠ [] := fun e => by
    rw [e] at hs
    simp at hs
  obtain ⟨m1, m2⟩ := mxv_mem hne
  have p := day_perm hs
  have h0 := m2 _ (bx_mem (ss := ss) (k := 0) (by omega))
  rw [bx0] at h0
  refine (mxv_of ?_ fun y hy => ?_).symm
  · have z := p.mem_iff.mpr List.mem_cons_self
    rcases List.mem_cons.mp z with e | e
    · exact absurd e (by omega)
    · exact e
  · have z := p.mem_iff.mp (List.mem_cons_of_mem _ hy)
    rcases List.mem_cons.mp z with e | e
    · omega
    · have := m2 _ e
      omega
theorem dyn_mxv {pl ss : List Int} (hs : ss.length = pl.length + 1) (hn : ss.Nodup) : ∀ n : Nat, mxv (dyn pl ss n) = mxv ss + n
  | 0 => by show mxv ss = mxv ss + ((0 : Nat) : Int); omega
  | n + 1 => by
    show mxv (day pl (dyn pl ss n) 0).2 = _
    rw [day_mxv (dyn_len hs hn n).1, dyn_mxv hs hn n]
    omega
theorem inv_dyn {N : Int → Prop} {pl ss : List Int} (hP : Plant pl) (hs : ss.length = pl.length + 1) (hn : ss.Nodup) (h : Waits N pl ss) : ∀ n, Waits N pl (dyn pl ss n)
  | 0 => h
  | n + 1 => inv_day hP (dyn_len hs hn n).1 (dyn_len hs hn n).2 (inv_dyn hP hs hn h n)
theorem ord_dyn {pl ss : List Int} (hP : Plant pl) (hs : ss.length = pl.length + 1) (hn : ss.Nodup) (h : Ord pl ss) : ∀ n, Ord pl (dyn pl ss n) := fun n k a b => inv_dyn (N := fun _ => True) hP hs hn (fun k a b _ => h k a b) n k a b trivial
/-- once the box at the shop is a new one, all are -/
theorem all_new {t : Int} {pl ss : List Int} (h : Waits (t < ·) pl ss) (h0 : t < bx ss 0) : ∀ k : Nat, k ≤ pl.length → t < bx ss k := by
  intro k
  induction k using Nat.strongRecOn with
  | ind k ih =>
    intro hk
    by_cases e : k = 0
    · rw [e]; exact h0
    · have hc := cu_lt pl (show 0 < k by omega)
      have h1 := ih (cu pl k) hc (by omega)
      have := h k (by omega) hk h1
      omega
def olds (t : Int) (ss : List Int) : Nat := ss.countP fun x => decide (x ≤ t)
theorem olds_day {t : Int} {pl ss : List Int} (hs : ss.length = pl.length + 1) (ht : t ≤ mxv ss) (h : Waits (t < ·) pl ss) {m : Nat} (ho : olds t ss ≤ m + 1) : olds t (day pl ss 0).2 ≤ m := by
  have e := (day_perm hs).countP_eq fun x => decide (x ≤ t)
  have e2 : ((mxv ss + 1) :: ss).countP (fun x => decide (x ≤ t)) = olds t ss := List.countP_cons_of_neg (by rw [decide_eq_true_eq]; omega)
  rw [e2] at e
  by_cases c : bx ss 0 ≤ t
  · rw [List.countP_cons_of_pos (p := fun x => decide (x ≤ t)) (decide_eq_true c)] at e
    unfold olds at ho e ⊢
    omega
  · rw [List.countP_cons_of_neg (p := fun x => decide (x ≤ t)) (by rw [decide_eq_true_eq]; exact c)] at e
    have z : olds t ss = 0 := by
      unfold olds
      rw [List.countP_eq_zero]
      intro x hx
      obtain ⟨k, hk, rfl⟩ := List.getElem_of_mem hx
      have e3 := bx_at hk
      rw [List.getElem?_eq_getElem hk] at e3
      have := all_new h (by omega) k (by omega)
      rw [Option.some.inj e3, decide_eq_true_eq]
      omega
    rw [z] at e
    unfold olds
    omega
theorem olds_dyn {pl ss : List Int} (hP : Plant pl) (hs : ss.length = pl.length + 1) (hn : ss.Nodup) (hI : Waits (mxv ss < ·) pl ss) : ∀ n, n ≤ pl.length → olds (mxv ss) (dyn pl ss n) ≤ pl.length + 1 - n
  | 0, _ => by
    show olds _ ss ≤ _
    unfold olds
    have := List.countP_le_length (l := ss) (p := fun x => decide (x ≤ mxv ss))
    omega
  | n + 1, h => by
    have ih := olds_dyn hP hs hn hI n (by omega)
    show olds _ (day pl (dyn pl ss n) 0).2 ≤ _
    exact Nat.le_trans (olds_day (m := pl.length - n) (dyn_len hs hn n).1 (by rw [dyn_mxv hs hn]; omega) (inv_dyn hP hs hn hI n) (by omega)) (by omega)
/-- after n - 1 days a stock is ordered -/
theorem ord_end {pl ss : List Int} (hP : Plant pl) (hs : ss.length = pl.length + 1) (hn : ss.Nodup) : Ord pl (dyn pl ss pl.length) := by
  have hI : Waits (mxv ss < ·) pl ss := fun k a b c => by
    have := mxv_lt (ss := ss) (k := cu pl k) (by have := cu_lt pl a; omega)
    omega
  have ho := olds_dyn hP hs hn hI pl.length (Nat.le_refl _)
  have hI2 := inv_dyn hP hs hn hI pl.length
  obtain ⟨hl, hd⟩ := dyn_len hs hn pl.length
  intro k h0 h1
  have hc := cu_lt pl h0
  by_cases c : mxv ss < bx (dyn pl ss pl.length) (cu pl k)
  · exact hI2 k h0 h1 c
  · by_cases d : mxv ss < bx (dyn pl ss pl.length) k
    · omega
    · have := countP_two (p := fun x => decide (x ≤ mxv ss)) hc (bx_at (ss := dyn pl ss pl.length) (k := cu pl k) (by omega)) (bx_at (ss := dyn pl ss pl.length) (k := k) (by omega)) (decide_eq_true (by omega)) (decide_eq_true (by omega))
      unfold olds at ho
      omega
theorem dyn_bd {pl ss : List Int} (hs : ss.length = pl.length + 1) (hn : ss.Nodup) {l u : Int} (h : ∀ x ∈ ss, l ≤ x ∧ x ≤ u) : ∀ n : Nat, ∀ x ∈ dyn pl ss n, l ≤ x ∧ x ≤ u + n
  | 0 => fun x hx => by
    have := h x hx
    show l ≤ x ∧ x ≤ u + ((0 : Nat) : Int)
    omega
  | n + 1 => fun x hx => by
    obtain ⟨a, b⟩ := dyn_len hs hn n
    have ih := dyn_bd hs hn h n
    obtain ⟨_, _, c2, _, _⟩ := day_ok a b (Nat.zero_le _) (j := 0)
    have hne : dyn pl ss n ≠ [] := fun e => by
      rw [e] at a
      simp at a
    have m := ih _ (mxv_mem hne).1
    rcases c2 x hx with z | z
    · have := ih x z
      omega
    · omega
/-- the boxes sold on the first days -/
def sold (pl ss : List Int) (n : Nat) : List Int := (List.range n).map fun i => bx (dyn pl ss i) 0
theorem sold_step (pl ss : List Int) (n : Nat) : sold pl ss (n + 1) = sold pl ss n ++ [bx (dyn pl ss n) 0] := by
  unfold sold
  rw [List.range_succ, List.map_append]
  rfl
theorem sold_len (pl ss : List Int) (n : Nat) : (sold pl ss n).length = n := by
  unfold sold
  rw [List.length_map, List.length_range]
end PT

set_option maxHeartbeats 4000000
/-! kinds of values, plants in the heap: of no law's own text -/
namespace PT
open PySem PySem.Spec PyProof.Rows L2

/-! ### kinds of values -/
inductive Kd (H : Hp) : V → String → Prop
  | non : Kd H .non "NoneType"
  | bl (b : Bool) : Kd H (.bl b) "bool"
  | int (i : Int) : Kd H (.int i) "int"
  | str (x : Str) : Kd H (.str x) "str"
  | lst {a : Addr} {xs : List V} : H a = some (.lst xs) → Kd H (.ref a) "list"
  | tup {a : Addr} {xs : List V} : H a = some (.tup xs) → Kd H (.ref a) "tuple"
  | dic {a : Addr} {kvs : List (Key × V)} : H a = some (.dK kvs) → Kd H (.ref a) "dict"
theorem Kd.same {H H' : Hp} (e : Same H H') {v : V} {n : String} (h : Kd H v n) : Kd H' v n := by
  cases h with
  | non => exact .non
  | bl b => exact .bl b
  | int i => exact .int i
  | str x => exact .str x
  | lst q => exact .lst (e _ _ q)
  | tup q => exact .tup (e _ _ q)
  | dic q => exact .dic (e _ _ q)
theorem Kd.tyx {K : PySem.W.Frag} {H : Hp} {v : V} {n : String} (h : Kd H v n) : TyX K H v (.type n) := by
  cases h with
  | non => exact .base .non
  | bl b => exact .base (.bl b)
  | int i => exact .base (.int i)
  | str x => exact .base (.str x)
  | lst q => exact .base (.lst q)
  | tup q => exact .base (.tup q)
  | dic q => exact .base (.dK q)
def isI : V → Bool
  | .int _ => true
  | _ => false
def isB : V → Bool
  | .bl _ => true
  | _ => false
theorem kd_int {K : PySem.W.Frag} {H : Hp} {v : V} {n : String} (h : Kd H v n) : PySem.W.kitOne K (.type n) (.type "int") = some (isI v || isB v) := by
  cases h with
  | bl b => exact kit_ty (show kitB "bool" "int" = some true by decide +kernel)
  | int i => exact kit_ty (show kitB "int" "int" = some true by decide +kernel)
  | non => exact kit_ty (show kitB "NoneType" "int" = some false by decide +kernel)
  | str x => exact kit_ty (show kitB "str" "int" = some false by decide +kernel)
  | lst _ => exact kit_ty (show kitB "list" "int" = some false by decide +kernel)
  | tup _ => exact kit_ty (show kitB "tuple" "int" = some false by decide +kernel)
  | dic _ => exact kit_ty (show kitB "dict" "int" = some false by decide +kernel)
theorem kd_bool {K : PySem.W.Frag} {H : Hp} {v : V} {n : String} (h : Kd H v n) : PySem.W.kitOne K (.type n) (.type "bool") = some (isB v) := by
  cases h with
  | bl b => exact kit_ty (show kitB "bool" "bool" = some true by decide +kernel)
  | int i => exact kit_ty (show kitB "int" "bool" = some false by decide +kernel)
  | non => exact kit_ty (show kitB "NoneType" "bool" = some false by decide +kernel)
  | str x => exact kit_ty (show kitB "str" "bool" = some false by decide +kernel)
  | lst _ => exact kit_ty (show kitB "list" "bool" = some false by decide +kernel)
  | tup _ => exact kit_ty (show kitB "tuple" "bool" = some false by decide +kernel)
  | dic _ => exact kit_ty (show kitB "dict" "bool" = some false by decide +kernel)
theorem kd_tuple {K : PySem.W.Frag} {H : Hp} {v : V} {n : String} (h : Kd H v n) : PySem.W.kitOne K (.type n) (.type "tuple") = some (n == "tuple") := by
  cases h with
  | bl b => exact kit_ty (show kitB "bool" "tuple" = some false by decide +kernel)
  | int i => exact kit_ty (show kitB "int" "tuple" = some false by decide +kernel)
  | non => exact kit_ty (show kitB "NoneType" "tuple" = some false by decide +kernel)
  | str x => exact kit_ty (show kitB "str" "tuple" = some false by decide +kernel)
  | lst _ => exact kit_ty (show kitB "list" "tuple" = some false by decide +kernel)
  | tup _ => exact kit_ty (show kitB "tuple" "tuple" = some true by decide +kernel)
  | dic _ => exact kit_ty (show kitB "dict" "tuple" = some false by decide +kernel)
/-- an int between two bounds -/
def okV (lo hi : Int) : V → Bool
  | .int j => decide (lo ≤ j) && decide (j ≤ hi)
  | _ => false
/-- the tuple of a plant -/
def okVs (xs : List V) : List Bool := (List.range xs.length).map fun i => okV 0 (i : Nat) (xs.getD i .non)
def fitsV (xs : List V) : Bool := decide (xs.length < 40) && (okVs xs).all id

inductive FitsIs (H : Hp) : V → Bool → Prop
  | no {v : V} {n : String} : Kd H v n → n ≠ "tuple" → FitsIs H v false
  | tup {a : Addr} {xs : List V} : H a = some (.tup xs) → xs.length ≤ 300 → (∀ x ∈ xs, ∃ m, Kd H x m) → FitsIs H (.ref a) (fitsV xs)
theorem same_new {H : Hp} {p : Addr} {o : HO} (h : H p = none) : Same H (upd H p o) := fun b u z => by
  rw [upd_ne (ne_of_none z h)]
  exact z
theorem okVs_len (xs : List V) : (okVs xs).length = xs.length := by
  unfold okVs
  rw [List.length_map, List.length_range]
theorem okVs_at {xs : List V} {i : Nat} {x : V} (h : xs[i]? = some x) : (okVs xs)[i]? = some (okV 0 (i : Nat) x) := by
  have hi : i < xs.length := (List.getElem?_eq_some_iff.mp h).1
  unfold okVs
  rw [List.getElem?_map, List.getElem?_range hi, Option.map_some, List.getD_eq_getElem?_getD, h]
  rfl
theorem take_next {α : Type} {l : List α} {i : Nat} {x : α} (h : l[i]? = some x) : l.take (i + 1) = l.take i ++ [x] := by
  rw [List.take_add_one, h]
  rfl
/-- a comprehension's item without a test -/
theorem tyes_if {σ : List (Option V)} {H : Hp} {A B : Hp → Prop} (h : A H) : tYes σ H (fun b H3 => if b = true then A H3 else B H3) := by
  show (if true = true then A H else B H)
  rw [if_pos (rfl : true = true)]
  exact h
theorem small300 {n : Nat} (h : n ≤ 300) : n < sizeLine := small1000 (by omega)
/-! ### a plant that stands in the heap -/
structure PlantAt (H : Hp) (p : Addr) (pl : List Int) : Prop where
  at_ : H p = some (.tup (pl.map V.int))
  ok : Plant pl
theorem PlantAt.same {H H' : Hp} {p : Addr} {pl : List Int} (e : Same H H') (h : PlantAt H p pl) : PlantAt H' p pl := ⟨e _ _ h.at_, h.ok⟩
theorem PlantAt.seq {K : PySem.W.Frag} {H : Hp} {p : Addr} {pl : List Int} (h : PlantAt H p pl) : SqT K H p (pl.map V.int) := .inl (.inl h.at_)
theorem Plant.fits {pl : List Int} (h : Plant pl) : fitsV (pl.map V.int) = true := by
  unfold fitsV
  have hl := h.len
  rw [List.length_map, decide_eq_true (by omega), Bool.true_and, List.all_eq_true]
  intro b hb
  obtain ⟨i, hi, rfl⟩ := List.mem_map.mp hb
  have hi2 := List.mem_range.mp hi
  rw [List.length_map] at hi2
  have e : pl[i]? = some pl[i] := List.getElem?_eq_getElem hi2
  obtain ⟨h0, h1⟩ := h.ok i _ e
  rw [List.getD_eq_getElem?_getD, List.getElem?_map, e]
  show (decide (0 ≤ pl[i]) && decide (pl[i] ≤ (i : Int))) = true
  rw [decide_eq_true h0, decide_eq_true h1]
  rfl
theorem PlantAt.fits {H : Hp} {p : Addr} {pl : List Int} (h : PlantAt H p pl) : FitsIs H (.ref p) true := by
  have z := FitsIs.tup (H := H) h.at_ (by rw [List.length_map]; have := h.ok.len; omega) fun x hx => by
    obtain ⟨n, _, rfl⟩ := List.mem_map.mp hx
    exact ⟨_, .int n⟩
  rw [h.ok.fits] at z
  exact z
theorem upd_at {H : Hp} {a b : Addr} {o u : HO} (h : H b = some u) (n : H a = none) : upd H a o b = some u := by
  rw [upd_ne (ne_of_none h n)]
  exact h

theorem ixN_at {n j : Nat} (hj : j < n) : ixN n (j : Int) = some j := by
  unfold ixN
  rw [if_pos (by omega), if_pos (by omega), Int.toNat_natCast]
/-- all but b is as it was -/
def Bar (b : Addr) (H H' : Hp) : Prop := ∀ c o, c ≠ b → H c = some o → H' c = some o
theorem Bar.refl (b : Addr) (H : Hp) : Bar b H H := fun _ _ _ h => h
theorem Bar.trans {b : Addr} {H H1 H2 : Hp} (u : Bar b H H1) (v : Bar b H1 H2) : Bar b H H2 := fun c o n h => v c o n (u c o n h)
theorem Same.bar {b : Addr} {H H' : Hp} (e : Same H H') : Bar b H H' := fun c o _ h => e c o h
theorem bar_upd {b : Addr} {H : Hp} {o : HO} : Bar b H (upd H b o) := fun c u n h => by
  rw [upd_ne n]
  exact h
/-- a heap is forgotten but for what is said of it -/
theorem heap_cut {P R : Hp → Prop} {G : Hp} (h : P G) (k : ∀ G', P G' → R G') : R G := k G h
/-! ### stocks, rows in another order, items of short lists -/
theorem erase_map {α β : Type} (f : α → β) : ∀ (l : List α) (i : Nat), (l.map f).eraseIdx i = (l.eraseIdx i).map f
  | [], _ => rfl
  | x :: r, 0 => rfl
  | x :: r, i + 1 => by
    rw [List.map_cons, List.eraseIdx_cons_succ, List.eraseIdx_cons_succ, List.map_cons, erase_map f r i]
theorem perm_pick {α : Type} : ∀ {l : List α} {i : Nat} {x : α}, l[i]? = some x → (x :: l.eraseIdx i).Perm l
  | [], _, _, h => by simp at h
  | y :: r, 0, x, h => by
    have e : y = x := Option.some.inj h
    rw [e]
    exact .refl _
  | y :: r, i + 1, x, h => by
    have ih := perm_pick (l := r) (i := i) (x := x) (by simpa using h)
    exact (List.Perm.swap y x (r.eraseIdx i)).trans (ih.cons y)
structure StockOk (pl ss : List Int) : Prop where
  len : ss.length = pl.length + 1
  nd : ss.Nodup
  sm : ∀ n ∈ ss, -(10 ^ 36) ≤ n ∧ n ≤ 10 ^ 36
theorem four_at {u0 u1 u2 u3 : V} {r : Int} (h0 : 0 ≤ r) (h4 : r < 4) : ∃ v, atI [u0, u1, u2, u3] r = some v ∧ (v = u0 ∨ v = u1 ∨ v = u2 ∨ v = u3) := by
  have c : r = 0 ∨ r = 1 ∨ r = 2 ∨ r = 3 := by omega
  rcases c with rfl | rfl | rfl | rfl
  · exact ⟨u0, rfl, .inl rfl⟩
  · exact ⟨u1, rfl, .inr (.inl rfl)⟩
  · exact ⟨u2, rfl, .inr (.inr (.inl rfl))⟩
  · exact ⟨u3, rfl, .inr (.inr (.inr rfl))⟩
theorem nodup_lt {l : List Int} (h : l.Pairwise (· < ·)) : l.Nodup := h.imp fun a b => by omega
theorem StockOk.perm {pl ss ts : List Int} (h : StockOk pl ss) (p : ts.Perm ss) : StockOk pl ts := ⟨by rw [p.length_eq]; exact h.len, p.nodup_iff.mpr h.nd, fun n hn => h.sm n (p.mem_iff.mp hn)⟩
theorem three_at {u0 u1 u2 : V} {r : Int} (h0 : 0 ≤ r) (h3 : r < 3) : ∃ v, atI [u0, u1, u2] r = some v ∧ (v = u0 ∨ v = u1 ∨ v = u2) := by
  have c : r = 0 ∨ r = 1 ∨ r = 2 := by omega
  rcases c with rfl | rfl | rfl
  · exact ⟨u0, rfl, .inl rfl⟩
  · exact ⟨u1, rfl, .inr (.inl rfl)⟩
  · exact ⟨u2, rfl, .inr (.inr rfl)⟩
theorem Plant.snoc {pl : List Int} (hP : Plant pl) {u : Int} (hl : pl.length < 39) (u0 : 0 ≤ u) (u1 : u ≤ pl.length) : Plant (pl ++ [u]) := by
  refine ⟨by rw [List.length_append]; show pl.length + 1 ≤ 39; omega, fun k x e => ?_⟩
  by_cases hk : k < pl.length
  · rw [List.getElem?_append_left hk] at e
    exact hP.ok k x e
  · have hk2 : k = pl.length := by
      have z := (List.getElem?_eq_some_iff.mp e).1
      rw [List.length_append] at z
      have z2 : k < pl.length + 1 := z
      omega
    subst hk2
    rw [List.getElem?_append_right (Nat.le_refl _), Nat.sub_self] at e
    cases e
    exact ⟨u0, u1⟩
theorem five_at {u0 u1 u2 u3 u4 : V} {r : Int} (h0 : 0 ≤ r) (h5 : r < 5) : ∃ v, atI [u0, u1, u2, u3, u4] r = some v ∧ (v = u0 ∨ v = u1 ∨ v = u2 ∨ v = u3 ∨ v = u4) := by
  have c : r = 0 ∨ r = 1 ∨ r = 2 ∨ r = 3 ∨ r = 4 := by omega
  rcases c with rfl | rfl | rfl | rfl | rfl
  · exact ⟨u0, rfl, .inl rfl⟩
  · exact ⟨u1, rfl, .inr (.inl rfl)⟩
  · exact ⟨u2, rfl, .inr (.inr (.inl rfl))⟩
  · exact ⟨u3, rfl, .inr (.inr (.inr (.inl rfl)))⟩
  · exact ⟨u4, rfl, .inr (.inr (.inr (.inr rfl)))⟩
/-- a new list of new lists, the suppliers so far -/
structure ListsAt (H H' : Hp) (l : Addr) (as : List Addr) (pl : List Int) (i : Nat) : Prop where
  sm : Same H H'
  nl : H l = none
  hl : H' l = some (.lst (as.map V.ref))
  len : as.length = pl.length + 1
  new : ∀ a ∈ as, H a = none
  out : l ∉ as
  nd : as.Nodup
  at_ : ∀ (j : Nat) (a : Addr), as[j]? = some a → H' a = some (.lst ((sup pl i j).map V.int))
end PT

set_option maxHeartbeats 4000000
/-! rules that round 3's code asks for: is True of ints and bools, set(t), count of bools, enumerate from a start -/
namespace PT
open PySem PySem.Spec PyProof.Rows L2

section
variable {X : Cx}
/-! ### x is True, x an int or a bool -/
def isTV (b : Bool) : V → Bool
  | .bl a => decide (a = b)
  | _ => false
def rIsK : V → V → Hp → (V → Hp → Prop) → Prop := fun x y H Q => ∃ b, y = .bl b ∧ ((∃ a, x = .bl a) ∨ ∃ i, x = .int i) ∧ Q (.bl (isTV b x)) H
theorem op_isK : OpR X (compareOp .Is) rIsK := by
  intro pins st σ H x y v u Q I rx ry h
  obtain ⟨b, rfl, hx, q⟩ := h
  cases (show u = Value.bool b from ry)
  rcases hx with ⟨a, rfl⟩ | ⟨i, rfl⟩
  · cases (show v = Value.bool a from rx)
    by_cases c : a = b
    · subst c
      exact wpAny_is_self rfl ⟨.bl true, H, I, rfl, by simpa [isTV] using q⟩
    · exact wpAny_is_other rfl (fun z => c (Value.bool.inj z)) ⟨.bl false, H, I, rfl, by simpa [isTV, c] using q⟩
  · obtain ⟨t, rfl⟩ := rx
    exact wpAny_is_other rfl (fun z => nomatch z) ⟨.bl false, H, I, rfl, q⟩
/-! ### set(t), t a tuple of ints -/
def rSetT (K : PySem.W.Frag) (w : World) : List V → Hp → (V → Hp → Prop) → Prop := fun vs H Q => ∃ (l : Addr) (ns : List Int), vs = [.ref l] ∧ SqT K H l (ns.map V.int) ∧ ns.length ≤ 1000 ∧
  ∀ p n, H p = none → Q (.ref p) (upd H p (SetO w p (fun j => decide (j ∈ ns)) n))
theorem cr_setT (hc : X.calm = true) : CallR X (.type "set") (rSetT X.K X.w) := by
  intro pins st σ H vs us Q I r h
  obtain ⟨l, ns, rfl, hq, hl, q⟩ := h
  rw [Vals.ref1 r]
  obtain ⟨its, rv, pl, hz⟩ := I.tuple hq
  have hi : IntsAre its.toArray.toList ns := by simpa using ints_of_vals rv
  refine call_set_tupI ns (I.ok.hd hc) pl hi (by unfold scanBound; omega) fun h' tk c R hcn k => ?_
  exact ⟨.ref _, upd H st.heap.objs.size (SetO X.w st.heap.objs.size (fun j => decide (j ∈ ns)) c), I.laid (t' := tk) k (Nat.le_refl _) (setO_new R), rfl, q _ c (I.hok.fresh (Nat.le_refl _))⟩
/-! ### xs.count(True), xs of bools -/
theorem flat_bls (bs : List Bool) : (bs.map V.bl).all flatV = true := by
  rw [List.all_eq_true]
  intro x hx
  obtain ⟨b, _, rfl⟩ := List.mem_map.mp hx
  rfl
theorem count_bls {b : Bool} : ∀ {bs : List Bool} {us : List Value}, Vals (bs.map V.bl) us → us.countP (eqU (.bl b)) = bs.count b
  | [], _, .nil => rfl
  | a :: bs, _, .cons r t => by
    have ih := count_bls (b := b) t
    have e := eqU_of (x := .bl b) r rfl
    rw [List.countP_cons, List.count_cons, ih, e]
    cases a <;> cases b <;> rfl
def rCntB (K : PySem.W.Frag) : V → List V → Hp → (V → Hp → Prop) → Prop := fun x xs H Q => ∃ (p : Addr) (bs : List Bool) (b : Bool), x = .ref p ∧ xs = [.bl b] ∧ SqL K H p (bs.map V.bl) ∧ Q (.int ((bs.count b : Nat) : Int)) H
theorem mt_countB : MtR X "list.count" (rCntB X.K) := by
  intro pins st σ H x xs v us Q I rx rxs h
  obtain ⟨p, bs, b, rfl, rfl, hs, q⟩ := h
  cases rx
  obtain ⟨u, rfl, ru⟩ := rxs.one
  obtain ⟨its, rv, ⟨⟨cls, dd, data, sl⟩, n, ho, hc, hdn, hd⟩, hlen⟩ := I.list hs
  simp only at hc hd
  subst hc hd
  refine call_meets PySem.F.slot_list_count ⟨_, ho, rfl⟩ PySem.F.entry_list_count (PySem.F.args_list_count_2 _ _)
    (SeqAt.list_countAt p its.toArray n dd sl u (eqU (.bl b))) ⟨ho, fun y hy => mem_eqAt ru rfl rv (flat_bls bs) y (by simpa using hy), ?_⟩
  have ec : its.toArray.toList.countP (eqU (.bl b)) = bs.count b := count_bls rv
  refine ⟨.int ((bs.count b : Nat) : Int), H, I.tok _, ⟨st.toks, ?_⟩, q⟩
  show Value.int ((its.toArray.toList.countP (eqU (.bl b)) : Nat) : Int) st.toks = Value.int ((bs.count b : Nat) : Int) st.toks
  rw [ec]
end

/-! ### len(set(t)), t a tuple of different ints -/
section
variable {X : Cx}
theorem setR_len {w : World} {h : Heap} {a : Addr} {ns : List Int} {c : Nat} (R : SetR w h a (fun j => decide (j ∈ ns)) c) (nd : ns.Nodup) : c = ns.length := by
  obtain ⟨o, es, ep, t, ho, hx, hd, g, nk, hm, hb, hf, hn, _⟩ := R
  have p : (es.toList.map keyOf).Perm ns := (List.perm_ext_iff_of_nodup nk nd).mpr fun k => by
    rw [← hm k]
    exact decide_eq_true_iff
  have e := p.length_eq
  rw [List.length_map, Array.length_toList] at e
  omega
def tLenSetT (K : PySem.W.Frag) (ta : TE) : TE := fun σ H Q => ta σ H fun x H1 => ∃ (l : Addr) (ns : List Int), x = .ref l ∧ SqT K H1 l (ns.map V.int) ∧ ns.Nodup ∧ ns.length ≤ 1000 ∧ Q (.int (ns.length : Nat)) H1
theorem pe_lenSetT {a : Expr} {ta : TE} {p p2 q pos : Pos} (hg : Gl X "len") (hm : X.mg "len" = none) (hg2 : Gl X "set") (hm2 : X.mg "set" = none) (ha : PE X a ta) (hc : X.calm = true := by rfl)
    (na : starEach [a] X.env = (false, eval a X.env) :: starEach [] X.env := by rfl) : PE X (.Call (.Name "len" p) [.Call (.Name "set" p2) [a] [] q] [] pos) (tLenSetT X.K ta) := by
  constructor
  intro pins st σ H Q I h
  refine Call_ (ld_blt I hg hm boot_len (PyProof.Rows.callWith_builtin1 (PyProof.Rows.args_cons ?_ rfl) rfl rfl))
  refine Call_ (ld_blt I hg2 hm2 boot_set (PyProof.Rows.callWith_type1 (PyProof.Rows.args_cons (thn (ha.run pins st σ H _ I h) fun v s1 ⟨x, H1, I1, r1, q1⟩ => PyProof.Rows.args_nil ?_) na) na rfl))
  obtain ⟨l, ns, rfl, hq, nd, hl, q1⟩ := q1
  cases r1
  obtain ⟨its, r, pl, hz⟩ := I1.tuple hq
  have hi : IntsAre its.toArray.toList ns := by simpa using ints_of_vals r
  refine call_set_tupI ns (I1.ok.hd hc) pl hi (by unfold scanBound; omega) fun h' tk c R hcn hk => PyProof.Rows.args_nil ?_
  have ec := setR_len R nd
  obtain ⟨o, es, ep, t, ho, hx, hd, _, _, _, hb, hf, hn, _⟩ := R
  exact call_len_set ho hx hd hf (by omega) ⟨.int (ns.length : Nat), H1, (I1.kept hk).tok _, ⟨_, by rw [hn, ec]⟩, q1⟩
end
/-! ### enumerate(t, k): a tuple's items with their places, counted from k -/
def ItF (K : PySem.W.Frag) (a : Addr) (k : Int) : It :=
  ⟨fun i H => ∃ (xs : List V) (x : V), SqT K H a xs ∧ xs[i]? = some x,
   fun i H v H' => ∃ T x, v = .ref T ∧ H T = none ∧ H' = upd H T (.tup [.int (k + (i : Nat)), x]) ∧ ∀ xs, SqT K H a xs → xs[i]? = some x,
   fun i H => ∃ xs : List V, SqT K H a xs ∧ xs.length ≤ i⟩
theorem turn_F {P : Program} {w : World} {K : PySem.W.Frag} {elts : List Expr} {kk : Nat} {tpos : Pos} (a e it : Addr) (k : Int) :
    Turn P w K (.Tuple elts kk tpos) (ItF K a k) [e, it] e (fun i h => (∃ old, IsEnum h e it (k + ((i : Nat) : Int)) old) ∧ h.IsTupleIter it a i ∧ e ≠ it) where
  mem := by simp
  obj := fun i h st b hb => by
    obtain ⟨⟨old, he⟩, ⟨o, ho, hc, hd⟩, _⟩ := st
    rcases List.mem_cons.mp hb with z | z
    · rw [z]
      exact ⟨_, he, fun v q => nomatch q⟩
    · rw [List.mem_singleton.mp z]
      exact ⟨o, ho, fun v q => by rw [hd] at q; cases q⟩
  keep := fun i h h' st kp => ⟨let ⟨old, he⟩ := st.1; ⟨old, kp e (by simp) _ he⟩, st.2.1.at fun o q => kp it (by simp) o q, st.2.2⟩
  item := by
    intro X hP hw hK hc i pins st σ H E I hf tn hg
    subst hP hw hK
    obtain ⟨⟨old, he⟩, hit, hne⟩ := tn
    obtain ⟨xs, x, hq, hx⟩ := hg
    obtain ⟨its, rv, p, hz⟩ := I.tuple hq
    obtain ⟨u, hu, ru⟩ := rv.get hx
    have le : e < st.heap.objs.size := Heap.lt_size he
    have li : it < st.heap.objs.size := let ⟨_, q, _⟩ := hit; Heap.lt_size q
    have hta : a ≠ it := fun z => by
      obtain ⟨o1, q1, c1, _⟩ := hit
      obtain ⟨o2, q2, c2, _⟩ := p
      rw [z, q1] at q2
      cases q2
      rw [c1] at c2
      exact absurd (Value.type.inj c2) (by decide)
    have D := Draws.tuple (prog := X.prog) (w := X.w) (A := X.A.in1) (I.ok.hd hc) it a hta its.toArray
    have hi : i < its.length := by
      obtain ⟨h1, _⟩ := List.getElem?_eq_some_iff.mp hu
      exact h1
    refine wpAny_pyNext_enum_itemC D he ⟨hit, p⟩ (by simpa using hi) hne ?_ fun y h2 tk hy ho sn hT hsz hk => ?_
    · intro hm
      rcases List.mem_cons.mp hm with z | z
      · exact hne z
      · have z2 := List.mem_singleton.mp z
        obtain ⟨o2, q2, c2, _⟩ := p
        have q3 : st.heap.get? e = some _ := he
        rw [z2, q2] at q3
        cases q3
        exact absurd (Value.type.inj c2) (by decide)
    have ey : y = u := by
      have e1 : its.toArray[i]? = some u := by simpa using hu
      exact Option.some.inj (hy.symm.trans e1)
    subst ey
    refine ⟨_, rfl, wpAny_letOwnedTupleGo_enum (s := { st with heap := h2, toks := tk + 1 }) ho fun h3 he3 sb => ?_⟩
    have hT3 : h3.get? st.heap.objs.size = some { cls := .type "tuple", data := .seq #[.int (k + (i : Int)) tk, y] } := (sb.2 _ (Nat.ne_of_gt le)).trans hT
    have nw : ObjOk X.prog X.w (upd H st.heap.objs.size (.tup [.int (k + (i : Nat)), x])) h3 st.heap.objs.size (.tup [.int (k + (i : Nat)), x]) :=
      ⟨by show 2 ≤ sizeLine; decide, [.int (k + (i : Int)) tk, y], .cons ⟨_, rfl⟩ (.cons ru .nil), ⟨_, hT3, rfl, _, rfl⟩⟩
    have I1 : Inv X pins σ (upd H st.heap.objs.size (.tup [.int (k + (i : Nat)), x])) { st with heap := h3, toks := tk + 1 } :=
      I.turnedNew (ch := [e, it]) (fun b ob hb q => (sb.2 b (fun z => hb (by simp [z]))).trans (hk b ob (fun z => hb (by simp [z])) (fun z => hb (by simp [z])) q)) hf (Nat.le_refl _) nw
    refine ⟨.ref st.heap.objs.size, _, I1, rfl, ⟨_, x, rfl, I.hok.fresh (Nat.le_refl _), rfl, fun ys hy => by rw [I.tuple_inj hy hq]; exact hx⟩, ⟨⟨y, ?_⟩, sn.1.at fun o q => (sb.2 it (Ne.symm hne)).trans q, hne⟩, fun b hb => ?_⟩
    · have e1 : k + ((i + 1 : Nat) : Int) = k + (i : Int) + 1 := by omega
      exact e1 ▸ he3
    · have hb' : b < st.heap.objs.size := by
        rcases List.mem_cons.mp hb with z | z
        · exact z ▸ le
        · exact (List.mem_singleton.mp z) ▸ li
      rw [upd_ne (Nat.ne_of_lt hb')]
      exact (hf b hb).1
  done := by
    intro X hP hw hK hc i pins st σ H E I hf tn hg
    subst hP hw hK
    obtain ⟨⟨old, he⟩, hit, hne⟩ := tn
    obtain ⟨xs, hq, hx⟩ := hg
    obtain ⟨its, rv, p, hz⟩ := I.tuple hq
    obtain ⟨f0, f1, f2, f3, f4, f5⟩ := hf it (by simp)
    have hl := rv.length
    have hT : st.TypeIs (.ref e) "enumerate" := ⟨_, he, rfl⟩
    unfold pyNext
    refine wpAny_bind (wpAny_attempt (wpAny_callSpecial?_slot (name := Str.ofString "__next__") hT F.slot_enumerate_next (wpAny_call_entry F.slot_enumerate_next hT F.entry_enumerate_next ?_ (F.args_enumerate_next_1 _))))
    show wpAny _ _ (field (.ref e) 2 >>= _) _ _ _
    refine wpAny_bind (wpAny_field he rfl (x := .ref it) rfl ?_)
    refine wpAny_bind (wpAny_nextOf_tuple_end (I.ok.hd hc) hit p (by simp; omega) fun h2 x e1 hx2 => ?_)
    obtain ⟨o, ho, hcc⟩ := hx2
    refine wpAny_bind (wpAny_isInstance (T := "StopIteration") (b := true) ⟨o, ho, hcc⟩ isSubtype_stop ?_)
    exact wpAny_pure ⟨rfl, I.turned (t' := st.toks) (fun b o hb q => e1 b o hb q) f0 f1 f3 f4 f5⟩
  self := fun A i s Q E tn h => let ⟨⟨_, he⟩, _⟩ := tn; wpAny_pyIter_enum he h
def iF (K : PySem.W.Frag) (ta : TA) : TI := fun σ H R => ta σ H fun vs H1 => ∃ a k xs, vs = [.ref a, .int k] ∧ SqT K H1 a xs ∧ -(2 ^ 63) ≤ k ∧ k < 2 ^ 63 ∧ R (ItF K a k) H1
theorem pi_F {X : Cx} {e e2 : Expr} {ta : TA} {p pos tpos : Pos} {elts : List Expr} {kk : Nat} (hg : Gl X "enumerate") (hm : X.mg "enumerate" = none) (ha : PA X [e, e2] ta)
    (hs : starEach [e, e2] X.env = (false, eval e X.env) :: starEach [e2] X.env := by rfl) (hpl : (backTo pos (starEach [e2] X.env)).any (·.1) = false := by rfl) :
    PI X (.Tuple elts kk tpos) (.Call (.Name "enumerate" p) [e, e2] [] pos) (iF X.K ta) := by
  refine ⟨fun pins st σ H R I h => Call_ (ld_blt I hg hm boot_enumerate (PyProof.Rows.callWith_type1 (thn (ha.run pos pins st σ H _ I h) fun us s1 ⟨vs, H1, I1, r1, q1⟩ => ?_) hs hpl))⟩
  obtain ⟨a, k, xs, ex, hq, hk0, hk1, q⟩ := q1
  subst ex
  cases r1 with
  | cons r rr =>
    cases rr with
    | cons r2 rr =>
      cases rr
      cases r
      obtain ⟨tk, rfl⟩ := r2
      obtain ⟨its, rv, pp, hz⟩ := I1.tuple hq
      refine enum_begins (begins_tuple a its.toArray) pp hk0 hk1 fun h2 he hi hz2 hk => wpAny_pyIter_enum he ?_
      have I2 : Inv X pins σ H1 { s1 with heap := h2 } := I1.kept (t' := s1.toks) hk
      refine ⟨s1.heap.objs.size + 1, [s1.heap.objs.size + 1, s1.heap.objs.size], _, _, H1, rfl, I2, turn_F a (s1.heap.objs.size + 1) s1.heap.objs.size k, ⟨⟨.none, by simpa using he⟩, ⟨_, hi, rfl, rfl⟩, Nat.succ_ne_self _⟩, fun b hb => ?_, q⟩
      have hle : s1.heap.objs.size ≤ b := by
        rcases List.mem_cons.mp hb with z | z
        · rw [z]
          exact Nat.le_add_right _ _
        · rw [List.mem_singleton.mp z]
          exact Nat.le_refl _
      exact I1.fpOk hle (I1.hok.fresh hle)
theorem walk_F {K : PySem.W.Frag} {a : Addr} {k : Int} {xs : List V} : Walk (ItF K a k) xs.length (fun H => SqT K H a xs) (YPair (fun i => some (.int (k + (i : Nat)))) (fun i => xs[i]?)) := by
  refine ⟨fun i _ hi q => ⟨xs, xs[i], q, by simp [hi]⟩, fun _ q => ⟨xs, q, Nat.le_refl _⟩, fun i H v H' _ q y => ?_⟩
  obtain ⟨T, x, h1, h2, h3, h4⟩ := y
  exact ⟨T, .int (k + (i : Nat)), x, h1, h2, h3, rfl, h4 xs q⟩
/-! ### t + u, t[a:b], told by what comes out -/
section
variable {X : Cx}
theorem op_catG : OpR X (binaryOp .Add) (fun x y H Q => ∃ a b xs ys, x = .ref a ∧ y = .ref b ∧ H a = some (.tup xs) ∧ H b = some (.tup ys) ∧ xs.length + ys.length ≤ 1000 ∧ ∀ c H', Same H H' → H' c = some (.tup (xs ++ ys)) → Q (.ref c) H') := by
  intro pins st σ H x y v u Q I rx ry h
  obtain ⟨a, b, xs, ys, rfl, rfl, ea, eb, hl, q⟩ := h
  refine op_catA pins st σ H _ _ v u Q I rx ry ⟨a, b, xs, ys, rfl, rfl, .inl (.inl ea), .inl (.inl eb), Nat.le_of_lt (small1000 hl), fun e => ?_, fun _ e => ?_, fun _ _ p np => q p _ (same_new np) upd_same⟩
  · subst e
    exact q b H (Same.refl H) eb
  · subst e
    exact q a H (Same.refl H) (by rw [List.append_nil]; exact ea)
theorem sl_tupG : SlR X (fun x lo hi H Q => ∃ a xs, x = .ref a ∧ H a = some (.tup xs) ∧ ∀ c H', Same H H' → H' c = some (.tup (cutV xs lo hi)) → Q (.ref c) H') := by
  intro pins st σ H x v vl vu lo hi sl Q I rx hs pl pu h
  obtain ⟨a, xs, rfl, ea, q⟩ := h
  refine sl_tupA pins st σ H _ v vl vu lo hi sl Q I rx hs pl pu ⟨a, xs, rfl, .inl (.inl ea), fun e => ?_, fun _ p np => q p _ (same_new np) upd_same⟩
  refine q a H (Same.refl H) ?_
  unfold cutV
  rw [e.1, e.2, List.drop_zero, Nat.sub_zero, List.take_length]
  exact ea
end
theorem cut_to (ns : List Int) (i : Nat) : cutV (ns.map V.int) none (some (i : Int)) = (ns.take i).map V.int := by
  unfold cutV
  rw [HT.sIx_none, HT.sIx_nat, List.drop_zero, Nat.sub_zero, List.map_take]
  by_cases h : i ≤ (ns.map V.int).length
  · rw [Nat.min_eq_left h]
  · rw [Nat.min_eq_right (by omega), List.take_length, List.take_of_length_le (by omega)]
theorem cut_from (ns : List Int) (i : Nat) : cutV (ns.map V.int) (some (i : Int)) none = (ns.drop i).map V.int := by
  unfold cutV
  rw [HT.sIx_none, HT.sIx_nat, List.map_drop]
  by_cases h : i ≤ (ns.map V.int).length
  · rw [Nat.min_eq_left h, List.take_of_length_le (by rw [List.length_drop]; omega)]
  · rw [Nat.min_eq_right (by omega), List.drop_length, List.drop_of_length_le (by omega), List.take_nil]

theorem rep_bls (j : Nat) (b : Bool) : (List.replicate (j : Int).toNat [V.bl b]).flatten = (List.replicate j b).map V.bl := by
  rw [Int.toNat_natCast]
  induction j with
  | zero => rfl
  | succ j ih => rw [List.replicate_succ, List.flatten_cons, ih]; rfl
/-! ### math of the plants functions -/
theorem sup_low {pl : List Int} (hP : Plant pl) (j : Nat) : ∀ i, i ≤ j → i ≤ pl.length → sup pl i j = []
  | 0, _, _ => rfl
  | i + 1, h, hl => by
    have e : pl[i]? = some pl[i] := List.getElem?_eq_getElem (by omega)
    have z := hP.ok i _ e
    rw [sup_step j e, if_neg (by omega), sup_low hP j i (by omega) (by omega)]
/-- who stands at or below j, of the stations up to j + i -/
def und (pl : List Int) (j i : Nat) : List Bool := (List.range (j + 1 + i)).map fun k => decide (j ∈ path pl k)
theorem und_zero (pl : List Int) (j : Nat) : und pl j 0 = List.replicate j false ++ [true] := by
  unfold und
  rw [show j + 1 + 0 = j + 1 from rfl, List.range_succ, List.map_append]
  congr 1
  · refine List.ext_getElem? fun k => ?_
    by_cases h : k < j
    · rw [List.getElem?_map, List.getElem?_range h, List.getElem?_replicate, if_pos h]
      have z : j ∉ path pl k := fun m => by
        have := path_le pl k j m
        omega
      simp [z]
    · rw [List.getElem?_eq_none (by rw [List.length_map, List.length_range]; omega), List.getElem?_eq_none (by rw [List.length_replicate]; omega)]
  · have z : j ∈ path pl j := List.mem_of_getElem? (path_head pl j)
    simp [z]
theorem und_len (pl : List Int) (j i : Nat) : (und pl j i).length = j + 1 + i := by
  unfold und
  rw [List.length_map, List.length_range]
theorem und_at (pl : List Int) (j : Nat) {i k : Nat} (h : k < j + 1 + i) : (und pl j i)[k]? = some (decide (j ∈ path pl k)) := by
  unfold und
  rw [List.getElem?_map, List.getElem?_range h]
  rfl
theorem und_step (pl : List Int) (j i : Nat) : und pl j (i + 1) = und pl j i ++ [decide (j ∈ path pl (cu pl (j + i + 1)))] := by
  unfold und
  rw [show j + 1 + (i + 1) = j + 1 + i + 1 from rfl, List.range_succ, List.map_append]
  congr 1
  show [decide (j ∈ path pl (j + 1 + i))] = _
  rw [show j + 1 + i = j + i + 1 by omega]
  have e : j ∈ path pl (j + i + 1) ↔ j ∈ path pl (cu pl (j + i + 1)) := by
    rw [path_pos pl (by omega), List.mem_cons]
    constructor
    · rintro (h | h)
      · omega
      · exact h
    · exact .inr
  by_cases c : j ∈ path pl (cu pl (j + i + 1))
  · rw [decide_eq_true c, decide_eq_true (e.mpr c)]
  · rw [decide_eq_false c, decide_eq_false fun z => c (e.mp z)]
theorem und_count (pl : List Int) {j : Nat} (hj : j ≤ pl.length) : (und pl j (pl.length - j)).count true = sz pl j := by
  unfold und sz
  rw [show j + 1 + (pl.length - j) = pl.length + 1 by omega, List.count_eq_countP, List.countP_map]
  refine List.countP_congr fun k _ => ?_
  simp

/-! ### xs[i], xs a list or a tuple -/
theorem ix_lt {X : Cx} : IxR X (fun x y H Q => rIxL X.K x y H Q ∨ rIxT X.K x y H Q) := ix_list.or ix_tup
theorem item_lt {K : PySem.W.Frag} {H : Hp} {a : Addr} {xs : List V} {i : Int} {v : V} {Q : V → Hp → Prop} (h : SqL K H a xs ∨ SqT K H a xs) (e : atI xs i = some v) (q : Q v H) : rIxL K (.ref a) (.int i) H Q ∨ rIxT K (.ref a) (.int i) H Q := by
  rcases h with h | h
  · exact .inl ⟨a, xs, i, v, rfl, rfl, h, e, q⟩
  · exact .inr ⟨a, xs, i, v, rfl, rfl, h, e, q⟩
theorem lt_same {K : PySem.W.Frag} {H H' : Hp} {a : Addr} {xs : List V} (e : Same H H') (h : SqL K H a xs ∨ SqT K H a xs) : SqL K H' a xs ∨ SqT K H' a xs := h.imp (fun z => e.seq z) fun z => seqT e z
end PT

set_option maxHeartbeats 4000000
/-! sorted(range(n), key=lambda k: xs[k]): the lambda made, called, the list it sorts -/
namespace PT
open PySem PySem.Spec PyProof.Rows L2 LamX NdefX

section
variable {X : Cx} {pins : List (Addr × Obj)} {σ : List (Option V)} {H : Hp} {s : Shared}
/-- a name read: the state stays as it is -/
theorem name_still {i : Nat} {x : Str} {v : V} {pos : Pos} {Q E : Value → Shared → Prop} (I : Inv X pins σ H s) (hN : X.N[i]? = some x) (e : σ[i]? = some (some v)) (hv : Vis X.env.scope x)
    (k : ∀ u, RelV v u → Q u s) (hd : (x == ("__debug__" : Str)) = false := by decide) (hcd : (x == ("__classdict__" : Str)) = false := by decide) : wpAny (model X.prog X.w) X.A (eval (.Name x pos) X.env) Q E s := by
  obtain ⟨m, hn, hl⟩ := I.loc
  obtain ⟨u, r, l⟩ := hl i x v hN e hv
  have fin := k u r
  rcases l with ⟨hk, hm⟩ | ⟨hk, c, hc, hcell⟩
  · exact wpAny_Name (wpAny_loadName_local I.ok.kind hk hn hm fin) hd
  · rcases hk with hk | hk
    · exact wpAny_Name (wpAny_loadName_cell I.ok.kind hk hc hcell fin) hd
    · exact wpAny_Name (wpAny_loadName_free I.ok.kind hk hc hcell fin hcd) hd
/-- xs[k] of two names: the state stays as it is -/
theorem item_still {i j : Nat} {x y : Str} {a : Addr} {k : Nat} {ns : List Int} {n : Int} {p1 p2 pos : Pos} {Q E : Value → Shared → Prop} (I : Inv X pins σ H s) (hx : X.N[i]? = some x) (ex : σ[i]? = some (some (.ref a))) (vx : Vis X.env.scope x)
    (hy : X.N[j]? = some y) (ey : σ[j]? = some (some (.int (k : Int)))) (vy : Vis X.env.scope y) (hq : SqL X.K H a (ns.map V.int) ∨ SqT X.K H a (ns.map V.int)) (hk : ns[k]? = some n) (fin : ∀ t, Q (.int n t) s)
    (dx : (x == ("__debug__" : Str)) = false) (cx : (x == ("__classdict__" : Str)) = false) (dy : (y == ("__debug__" : Str)) = false) (cy : (y == ("__classdict__" : Str)) = false) : wpAny (model X.prog X.w) X.A (eval (.Subscript (.Name x p1) (.Name y p2) pos) X.env) Q E s := by
  refine Subscript_ (name_still I hx ex vx (fun u ru => name_still I hy ey vy (fun w rw' => ?_) dy cy) dx cx)
  cases ru
  obtain ⟨t, rfl⟩ := rw'
  have hi : (ns.map V.int)[k]? = some (.int n) := by
    rw [List.getElem?_map, hk]
    rfl
  have h63 := line63
  rcases hq with hq | hq
  · obtain ⟨its, r, pl, hz⟩ := I.list hq
    obtain ⟨v, hv, rv⟩ := r.get hi
    obtain ⟨t2, rfl⟩ := rv
    have hl := r.length
    have hlt := (List.getElem?_eq_some_iff.mp hv).1
    exact item_listR pl.isList (by omega) (by omega) (by rw [Int.toNat_natCast]; simpa using hv) (fin t2) rfl
  · obtain ⟨its, r, pl, hz⟩ := I.tuple hq
    obtain ⟨v, hv, rv⟩ := r.get hi
    obtain ⟨t2, rfl⟩ := rv
    have hl := r.length
    have hlt := (List.getElem?_eq_some_iff.mp hv).1
    exact subscriptTail_builtinR (x := .int n t2) pl.typeIs slot_tuple_getitem.lookup
      (getItem_tuple (j := k) (Q := fun r s' => r = .int n t2 ∧ Q r s') pl (by omega) (by omega) (seqIndex_of (by omega) (by rw [List.size_toArray]; omega)) (by simpa using hv) ⟨rfl, fin t2⟩) rfl
/-- the words of a lambda, as those of a def that was made -/
abbrev lamF (qual : Str) (scope : Scope) (cl : List (Str × Addr)) (c' : Addr) : NF := ⟨"<lambda>", qual, ⟨[], [], none, [], [], none, []⟩, [], scope, cl, c'⟩
/-- lambda k: xs[k], called at k -/
theorem key_call {A : Around} {qual x y : Str} {scope : Scope} {params : Arguments} {p1 p2 pos : Pos} {cl : List (Str × Addr)} {pm ctv : Value} {c' f a : Addr} {k : Nat} {t : Tok} {ns : List Int} {n : Int} {m : Nat}
    (I : Inv X pins σ H s) (e0 : Env0 X.prog X.w X.K X.mg X.base A X.stack s H) (room : Room (m + 1) A) (S : NScope [y, x] [y] [x] scope) (C : CellsAt cl [x] [some (.ref a)] s.heap H)
    (hf : s.heap.get? f = some (PySem.W.kla_obj "<lambda>" qual params (.Subscript (.Name x p1) (.Name y p2) pos) scope cl pm c' ctv)) (hc : s.heap.CodeRec (.ref c') qual)
    (hb : ∀ v, bindArgs (PySem.W.kla_fn "<lambda>" qual params (.Subscript (.Name x p1) (.Name y p2) pos) scope cl pm (.ref c') ctv) ⟨[v], []⟩ = pure [(y, v)])
    (hq : SqL X.K H a (ns.map V.int) ∨ SqT X.K H a (ns.map V.int)) (hk : ns[k]? = some n)
    (dx : (x == ("__debug__" : Str)) = false) (cx : (x == ("__classdict__" : Str)) = false) (dy : (y == ("__debug__" : Str)) = false) (cy : (y == ("__classdict__" : Str)) = false) :
    wpAny (model X.prog X.w) A (call (.ref f) [.int (k : Int) t]) (fun v s' => ∃ h' tk, s' = { s with heap := h', toks := tk } ∧ (∀ b o, s.heap.get? b = some o → h'.get? b = some o) ∧ ∃ t', v = .int n t') (fun _ _ => False) s := by
  have lim : s.heap.NoLimit := e0.mod.nolimit.keeps fun b o e => (e0.bs b o e).1
  have rc : codeAny (model X.prog X.w) A (.call (.ref f) ⟨[.int (k : Int) t], []⟩) (fun r s' => ∃ v, r = .ok (.ret v) ∧ ∃ h' tk, s' = { s with heap := h', toks := tk } ∧ (∀ b o, s.heap.get? b = some o → h'.get? b = some o) ∧ ∃ t', v = .int n t') s := by
    refine PySem.W.kla_callFunE room.depth hf rfl S.co S.gen rfl hc ?_
    rw [hb]
    refine wpAny_pure (wpAny_newFunctionEnv (binds := [y].zip [.int (k : Int) t]) S.nocell (fun ⟨n2, _⟩ hy => S.par n2 (List.of_mem_zip hy).1) (fun h₁ hns hsb => ⟨lim.fresh _ hsb, ?_⟩) S.kind)
    have kp : ∀ b o, s.heap.get? b = some o → h₁.get? b = some o := fun b o e => hsb.extBut b o (Nat.ne_of_lt (Heap.lt_size e)) (Heap.get?_push_of_some _ e)
    have J : Inv (ncx CX0 X.prog X.w X.K X.mg X.base [y, x] (lamF qual scope cl c') f A X.stack s H fun _ _ _ => False) [] (startF [y, x] [.int (k : Int)] [some (.ref a)]) H { s with heap := h₁, toks := s.toks + ([y].zip [Value.int (k : Int) t]).length } :=
      inv_startN (us := [.int (k : Int) t]) S room.hd e0 rfl (.cons ⟨t, rfl⟩ .nil) C hns kp
    refine PySem.W.kla_codeExpr (item_still (Q := fun v s' => _) (i := 1) (j := 0) J rfl rfl (.inr (.inr (S.frk x (by simp)))) rfl rfl (.inl (S.par y (by simp))) hq hk (fun t2 => ?_) dx cx dy cy)
    exact ⟨_, rfl, h₁, _, rfl, kp, t2, rfl⟩
  refine wpAny_call (codeAny_mono rc fun r s' hr => ?_)
  obtain ⟨v, rfl, q⟩ := hr
  exact q
end

/-! ### sorted(range(n), key=f) -/
theorem each_get {α β : Type} {R : α → β → Prop} : ∀ {as : List α} {bs : List β}, as.length = bs.length → (∀ (i : Nat) (a : α) (b : β), as[i]? = some a → bs[i]? = some b → R a b) → PySem.W.EachIs R as bs
  | [], [], _, _ => .nil
  | [], _ :: _, h, _ => by simp at h
  | _ :: _, [], h, _ => by simp at h
  | a :: as, b :: bs, h, q => .cons (q 0 a b rfl rfl) (each_get (by simpa using h) fun i x y e1 e2 => q (i + 1) x y (by simpa using e1) (by simpa using e2))
theorem each_map {α β : Type} {R : α → β → Prop} {as : List α} {bs : List β} (h : PySem.W.EachIs R as bs) {S : V → Value → Prop} {g : β → V} {f : α → Value} (q : ∀ a b, R a b → RelV (g b) (f a)) : Vals (bs.map g) (as.map f) := by
  induction h with
  | nil => exact .nil
  | cons r _ ih => exact .cons (q _ _ r) ih
/-- the stations, by their numbers -/
def byAge (n : Nat) (k : Nat → Int) : List Nat := (List.range n).mergeSort fun a b => decide (k a ≤ k b)
section
variable {prog : Program} {w : World} {A : Around} {E : Value → Shared → Prop} {s : Shared}
open PySem.W in
theorem sorted_rng {r q : Addr} {n : Nat} {t u v : Tok} {Q : Value → Shared → Prop} (k : Nat → Int) (hh : A.handled = none) (hr : IsRange s.heap r 0 (n : Int) 1 t u v) (hn : n ≤ 1000) (hu : A.units + 64 < cLine)
    (turn : ∀ (i : Nat) (tk0 : Tok), i < n → ∀ (h : Heap) (tk : Nat), (∀ b o, s.heap.get? b = some o → h.get? b = some o) →
      wpAny (model prog w) A.in1.in1 (call (.ref q) [.int (i : Int) tk0]) (PySem.W.KeyPure (.int (k i)) { s with heap := h, toks := tk }) (fun _ _ => False) { s with heap := h, toks := tk })
    (fin : ∀ (out : List Value) (c : Nat) (h' : Heap) (tk : Nat) (a : Addr), (∀ b o, s.heap.get? b = some o → h'.get? b = some o) → s.heap.get? a = none → h'.get? a = some (seqObj "list" out.toArray c) → PySem.W.EachIs (fun (v : Value) (i : Nat) => ∃ t, v = .int (i : Int) t) out (byAge n k) →
      Q (.ref a) { s with heap := h', toks := tk }) :
    wpAny (model prog w) A (call (.builtin "sorted") [.ref r] [(Str.ofString "key", .ref q)]) Q E s := by
  have hsl : n ≤ sizeLine := Nat.le_of_lt (small1000 hn)
  refine call_function_entry_kw PyProof.Rows.kind_sorted PyProof.Rows.plain_sorted PyProof.Rows.entry_sorted (PyProof.Rows.ksk_s1 _ _) ?_
  unfold Builtin.«sorted»
  refine wpAny_bind (m := checkCount "sorted" 1 1 _) (wpAny_pure ?_)
  refine wpAny_bind (collect_range (n := n) (by simp [hh]) hr (small_one (by omega) (by omega) (by omega) (by omega)) (by have z := rangeSize_nat 0 (n : Int); simpa using z) (by omega) fun h1 tk1 acc kp hi => ?_)
  have hal : acc.toList.length = n := by rw [Array.length_toList]; exact hi.1
  refine wpAny_bind (wpAny_newList ?_ (by rw [hal]; exact hsl))
  have up1 : ∀ b o, s.heap.get? b = some o → (h1.push { cls := .type "list", data := .seq acc.toList.toArray }).get? b = some o := fun b o e => Heap.get?_push_of_some _ (kp b o e)
  have hD : (h1.push { cls := .type "list", data := .seq acc.toList.toArray }).get? h1.objs.size = some (seqObj "list" acc.toList.toArray 0) := Heap.get?_push_size _ rfl
  have nS : s.heap.get? h1.objs.size = none := by
    cases e : s.heap.get? h1.objs.size with
    | none => rfl
    | some o => exact absurd (Heap.lt_size (kp _ _ e)) (Nat.lt_irrefl _)
  have hR : PySem.W.EachIs (fun (v : Value) (i : Nat) => ∃ t, v = .int (i : Int) t) acc.toList (List.range n) := each_get (by rw [hal, List.length_range]) fun i a b e1 e2 => by
    have hb : b = i := by
      have hlt := (List.getElem?_eq_some_iff.mp e2).1
      rw [List.length_range] at hlt
      rw [List.getElem?_range hlt] at e2
      exact (Option.some.inj e2).symm
    obtain ⟨t, rfl⟩ := hi.2 i a (by rw [← e1, Array.getElem?_toList])
    exact ⟨t, by rw [hb]; congr 1; omega⟩
  refine wpAny_bind (wpAny_holding (wpAny_call_entry_kw PyProof.Rows.slot_list_sort ⟨_, hD, rfl⟩ PyProof.Rows.entry_list_sort ?body (PyProof.Rows.ksk_l1 _ _)))
  case body =>
    rw [PyProof.Rows.ksk_t1]
    refine keyH_tree (kz := (List.range n).map fun i => PyData.int (k i)) (vs := acc.toList) hD (by rw [List.length_map, List.length_range, hal]) (by rw [hal]; exact hsl) (fun d hd d' hd' => ?_) (.inr fun d hd => ?_) (fun d hd => ?_) (fun i x d e1 e2 h tk kb => ?_) fun h' tk out c kb hout ko => ⟨_, rfl, wpAny_pure ⟨_, rfl, ?_⟩⟩
    · obtain ⟨_, _, rfl⟩ := List.mem_map.mp hd
      obtain ⟨_, _, rfl⟩ := List.mem_map.mp hd'
      rfl
    · obtain ⟨_, _, rfl⟩ := List.mem_map.mp hd
      exact ⟨(by intro z; cases z), (by intro xs z; cases z)⟩
    · obtain ⟨_, _, rfl⟩ := List.mem_map.mp hd
      show _ + 0 < cLine
      have : A.in1.in1.units ≤ A.units + 2 := by simp
      omega
    · have hlt : i < n := by
        have z := (List.getElem?_eq_some_iff.mp e1).1
        omega
      rw [List.getElem?_map, List.getElem?_range hlt] at e2
      obtain ⟨t, rfl⟩ := hi.2 i x (by rw [← e1, Array.getElem?_toList])
      rw [show (0 : Int) + (i : Int) * 1 = (i : Int) by omega]
      rw [← Option.some.inj e2]
      exact turn i t hlt h tk fun b o e => kb b o (fun z => by rw [z, nS] at e; cases e) (up1 b o e)
    · have ko2 := PySem.W.keyedOut_each (fun i => PyData.int (k i)) ko hR
      rw [PySem.W.dataLe_int] at ko2
      exact fin out c h' tk h1.objs.size (fun b o e => kb b o (fun z => by rw [z, nS] at e; cases e) (up1 b o e)) nS hout ko2
end
theorem ObjOk.there {P : Program} {w : World} {H : Hp} {h : Heap} {a : Addr} {o : HO} (x : ObjOk P w H h a o) : ∃ u, h.get? a = some u := by
  cases o with
  | lst xs => obtain ⟨_, _, _, _, e⟩ := x; exact ⟨_, e⟩
  | tup xs => obtain ⟨_, _, _, ob, e, _⟩ := x; exact ⟨_, e⟩
  | dK kvs => obtain ⟨_, _, _, _, ob, _, _, e, _⟩ := x; exact ⟨_, e⟩
  | dT kvs => obtain ⟨_, _, _, _, ob, _, _, e, _⟩ := x; exact ⟨_, e⟩
  | set S n => obtain ⟨ob, _, _, _, e, _⟩ := x; exact ⟨_, e⟩
  | ins C dx fs => obtain ⟨_, _, _, e, _⟩ := x; exact ⟨_, e⟩
  | own y => exact x
  | xd fs => obtain ⟨_, ⟨_, _, _, e, _⟩, _⟩ := x; exact ⟨_, e⟩
  | rng lo hi => obtain ⟨_, _, _, e⟩ := x; exact ⟨_, e⟩
  | frz ob u => exact ⟨_, x.1⟩
  | tbl ps => exact ⟨_, x⟩
  | met f y => exact ⟨_, x⟩
  | ext φ => exact x.2.1
theorem hok_none {P : Program} {w : World} {H : Hp} {h : Heap} {a : Addr} (k : HOk P w H h) (e : h.get? a = none) : H a = none := by
  cases q : H a with
  | none => rfl
  | some o =>
    obtain ⟨u, z⟩ := ObjOk.there (k a o q)
    rw [e] at z
    cases z
/-! ### the expression -/
theorem ExtN.seq {K : PySem.W.Frag} {H H' : Hp} (e : ExtN H H') {a : Addr} {xs : List V} (h : SqL K H a xs ∨ SqT K H a xs) : SqL K H' a xs ∨ SqT K H' a xs := by
  rcases h with ((h | ⟨o, h⟩) | h) | ((h | ⟨o, h⟩) | h)
  · exact .inl (.inl (.inl (e _ _ h fun ps z => by cases z)))
  · exact .inl (.inl (.inr ⟨o, e _ _ h fun ps z => by cases z⟩))
  · exact .inl (.inr h)
  · exact .inr (.inl (.inl (e _ _ h fun ps z => by cases z)))
  · exact .inr (.inl (.inr ⟨o, e _ _ h fun ps z => by cases z⟩))
  · exact .inr (.inr h)
/-- range(n), as a thing of the heap -/
theorem cr_range1 {X : Cx} : CallR X (.type "range") (fun vs H Q => ∃ j, vs = [V.int j] ∧ ∀ p, H p = none → Q (.ref p) (upd H p (.rng 0 j))) := by
  intro pins s σ H vs us Q I r h
  obtain ⟨j, rfl, q⟩ := h
  obtain ⟨u1, rfl, t, rfl⟩ := vals1 r
  refine call_range_1 ⟨.ref _, upd H _ (.rng 0 j), I.laid (t' := _) (fun b o e => Heap.get?_push_of_some _ e) (Nat.le_refl _) ?_, rfl, q _ (I.hok.fresh (Nat.le_refl _))⟩
  exact ⟨_, _, _, Heap.get?_push_size _ rfl⟩
def tSortedLam (K : PySem.W.Frag) (T : List (Addr × Str)) (j : Nat) (ta : TA) : TE := fun σ H Q => ta σ H fun vs H1 => ∃ (p a : Addr) (n : Nat) (ns : List Int), vs = [.ref p] ∧ H1 p = some (.rng 0 (n : Int)) ∧ n ≤ 1000 ∧ σ[j]? = some (some (.ref a)) ∧ (SqL K H1 a (ns.map V.int) ∨ SqT K H1 a (ns.map V.int)) ∧ ns.length = n ∧ Tabs T H1 ∧
  ∀ (H2 : Hp) (D : Addr), ExtN H1 H2 → Tabs T H2 → H2 D = none → Q (.ref D) (upd H2 D (.lst ((byAge n fun i => ns.getD i 0).map fun i : Nat => V.int (i : Int))))
theorem pe_sortedLam {X : Cx} {T : List (Addr × Str)} {c P : Addr} {j : Nat} {x y : Str} {e : Expr} {ta : TA} {params : Arguments} {scope : Scope} {p pos p1 p2 p3 lp kp : Pos} (TB : TabB X.base X.mg c P) (hcode : X.env.code = .ref c)
    (hmT : (P, X.env.qual ++ "<lambda>") ∈ T) (hu : ∀ z ∈ T, z.1 = P → z.2 = X.env.qual ++ "<lambda>") (room : Room 4 X.A) (hc : X.calm = true) (hg : Gl X "sorted") (hm : X.mg "sorted" = none) (ha : PA X [e] ta)
    (S : NScope [y, x] [y] [x] scope) (hj : X.N[j]? = some x) (hcell : X.env.scope.names.lookup x = some .cell ∨ X.env.scope.names.lookup x = some .free) (hfr : (x, NameKind.free) ∈ scope.names)
    (hb : ∀ (cl : List (Str × Addr)) (pm cdv ctv v : Value), bindArgs (PySem.W.kla_fn "<lambda>" (X.env.qual ++ "<lambda>") params (.Subscript (.Name x p1) (.Name y p2) p3) scope cl pm cdv ctv) ⟨[v], []⟩ = pure [(y, v)])
    (hdef : defaultsOf params X.env = ([], []))
    (dx : (x == ("__debug__" : Str)) = false := by decide) (cx : (x == ("__classdict__" : Str)) = false := by decide) (dy : (y == ("__debug__" : Str)) = false := by decide) (cy : (y == ("__classdict__" : Str)) = false := by decide)
    (na : backTo pos (starEach [e] X.env) = (false, eval e X.env) :: backTo pos (starEach [] X.env) := by rfl) (hpl : (backTo pos (starEach [e] X.env)).any (·.1) = false := by rfl) :
    PE X (.Call (.Name "sorted" p) [e] [⟨some "key", .Lambda params (.Subscript (.Name x p1) (.Name y p2) p3) scope lp, kp⟩] pos) (tSortedLam X.K T j ta) := by
  refine ⟨fun pins s σ H Q I h => ?_⟩
  have hfree : ∀ z ∈ scope.names, z.2 = .free → X.env.scope.names.lookup z.1 = some .cell ∨ X.env.scope.names.lookup z.1 = some .free := fun z hz e => by
    have := S.free z hz e
    rw [List.mem_singleton.mp this]
    exact hcell
  have hfree2 : ∀ z ∈ scope.names, z.2 = .free → ∃ c, X.env.cells.lookup z.1 = some c := fun z hz e => (hfree z hz e).elim (fun q => I.ok.has _ (.inl q)) fun q => I.ok.has _ (.inr q)
  refine wpAny_Call_Name_kw (ld_blt I hg hm (show bootBuiltins (Str.ofString "sorted") = some (.builtin "sorted") by decide +kernel) ?_)
  refine PyProof.Rows.callWith_kw (thn (ha.run pos pins s σ H _ I h) fun us s1 ⟨vs, H1, I1, r1, q1⟩ => ?_) na hpl rfl rfl
  obtain ⟨r, a, n, ns, rfl, hr, hn, hs, hq, hl, hT, q⟩ := q1
  obtain rfl := Vals.ref1 r1
  refine wpAny_evalAll_cons (wpAny_bind (lam_make2 I1 TB hcode hmT hu hT hdef hfree2 fun f c' pm ctv H2 s2 I2 ex tb hf hfn hfr2 hco => wpAny_bind (wpAny_standAt (wpAny_pure ?_))))
  refine wpAny_evalAll_nil ?_
  have hr2 : H2 r = some (.rng 0 (n : Int)) := ex _ _ hr fun ps z => by cases z
  obtain ⟨t, u, v, er⟩ := I2.hok r _ hr2
  have hq2 := ExtN.seq ex hq
  obtain ⟨⟨oc, vs2, t2, h1, h2, h3⟩, _, _⟩ := I2.hok c' _ hco
  refine sorted_rng (fun i => ns.getD i 0) (I2.ok.hd hc) er hn room.units (fun i tk0 hi h tk kp => ?_) fun out c0 h' tk D kp hD ho hE => ?_
  · have I3 : Inv X pins σ H2 { s2 with heap := h, toks := tk } := I2.kept kp
    have C := cells_of I3 (Caps.made (fr := [x]) (js := [j]) I3.ok hfree (fun z hz => by rw [List.mem_singleton.mp hz]; exact hfr) (by rw [List.map_cons, hj]; rfl))
    rw [List.map_cons, slotAt_of hs] at C
    have hk : ns[i]? = some (ns.getD i 0) := by
      rw [List.getD_eq_getElem?_getD, List.getElem?_eq_getElem (by omega)]
      rfl
    refine wpAny_mono (key_call (m := 1) I3 I3.env0.in1.in1 room.in1.in1 S C (kp _ _ hf) ⟨c', oc, vs2, t2, rfl, kp _ _ h1, h2, h3⟩ (hb _ _ _ _) hq2 hk dx cx dy cy) (fun v s' z => ?_) fun _ _ z => z
    obtain ⟨h4, tk4, rfl, kp4, t', rfl⟩ := z
    exact ⟨h4, tk4, rfl, kp4, .int _ _⟩
  · have hlen : ((byAge n fun i => ns.getD i 0).map fun i : Nat => V.int (i : Int)).length ≤ sizeLine := by
      unfold byAge
      rw [List.length_map, List.length_mergeSort, List.length_range]
      exact Nat.le_of_lt (small1000 hn)
    have rv : Vals ((byAge n fun i => ns.getD i 0).map fun i : Nat => V.int (i : Int)) out := by
      have z := each_map (S := fun _ _ => True) (g := fun i : Nat => V.int (i : Int)) (f := id) hE fun a b q => q
      rwa [List.map_id] at z
    have nD := hok_none I2.hok hD
    exact ⟨.ref D, _, I2.laidN kp hD nD (show ObjOk X.prog X.w _ _ _ (.lst ((byAge n fun i => ns.getD i 0).map fun i : Nat => V.int (i : Int))) from ⟨hlen, out, c0, rv, ho⟩), rfl, q H2 D ex tb nD⟩

/-! ### tables, where lists are written -/
theorem codeO_lst {c : Addr} {q : Str} (xs : List V) : CodeO c q ≠ .lst xs := fun z => by
  unfold CodeO at z
  cases z
theorem tabs_bar {T : List (Addr × Str)} {H H' : Hp} {b : Addr} {xs : List V} (h : Tabs T H) (e : H b = some (.lst xs)) (k : Bar b H H') : Tabs T H' := fun p hp => by
  obtain ⟨ps, h1, h2, h3⟩ := h p hp
  refine ⟨ps, k _ _ (fun z => ?_) h1, h2, fun pos cv hc => ?_⟩
  · rw [z, e] at h1
    cases h1
  · obtain ⟨c, e1, e2⟩ := h3 pos cv hc
    refine ⟨c, e1, k _ _ (fun z => ?_) e2⟩
    rw [z, e] at e2
    exact codeO_lst xs (Option.some.inj e2).symm
theorem tabs_set {T : List (Addr × Str)} {H : Hp} {b : Addr} {xs ys : List V} (h : Tabs T H) (e : H b = some (.lst xs)) : Tabs T (upd H b (.lst ys)) := tabs_bar h e bar_upd
theorem tabs_same {T : List (Addr × Str)} {H H' : Hp} (h : Tabs T H) (e : Same H H') : Tabs T H' := h.ext e
theorem same_extN {H H' : Hp} (e : Same H H') : ExtN H H' := fun b o h _ => e b o h
theorem extN_lst {H H' : Hp} (e : ExtN H H') {a : Addr} {xs : List V} (h : H a = some (.lst xs)) : H' a = some (.lst xs) := e _ _ h fun _ z => by cases z
theorem extN_tup {H H' : Hp} (e : ExtN H H') {a : Addr} {xs : List V} (h : H a = some (.tup xs)) : H' a = some (.tup xs) := e _ _ h fun _ z => by cases z
theorem extN_plant {H H' : Hp} (e : ExtN H H') {p : Addr} {pl : List Int} (h : PlantAt H p pl) : PlantAt H' p pl := ⟨extN_tup e h.at_, h.ok⟩
theorem extN_new {H H' : Hp} {a : Addr} {o : HO} (e : ExtN H H') (n : H' a = none) : ExtN H (upd H' a o) := fun b u h z => by
  have y := e b u h z
  rw [upd_ne (ne_of_none y n)]
  exact y
theorem extN_set {H H' : Hp} {a : Addr} {o : HO} (e : ExtN H H') (n : H a = none) : ExtN H (upd H' a o) := fun b u h z => by
  rw [upd_ne (ne_of_none h n)]
  exact e b u h z
end PT

set_option maxHeartbeats 4000000
/-! [plant, stock] and lists of small ints, shown -/
namespace PT
open PySem PySem.Spec PyProof.Rows L2
theorem nice_small {ns : List Int} (h : ∀ n ∈ ns, n.natAbs < 10 ^ 50) (hl : ns.length ≤ 300) : Nice (300 * 171) 1 (.list (ns.map PyData.int)) := nice_lst (nice_ints h) (by rw [List.length_map]; exact hl)
theorem nice_smallT {ns : List Int} (h : ∀ n ∈ ns, n.natAbs < 10 ^ 50) (hl : ns.length ≤ 300) : Nice (300 * 171) 1 (.tuple (ns.map PyData.int)) := nice_tup (nice_ints h) (by rw [List.length_map]; exact hl)
theorem StockOk.small {pl ss : List Int} (h : StockOk pl ss) : ∀ n ∈ ss, n.natAbs < 10 ^ 50 := fun n hn => by
  have := h.sm n hn
  omega
theorem Plant.smallI {pl : List Int} (h : Plant pl) : ∀ n ∈ pl, n.natAbs < 10 ^ 50 := fun n hn => by
  obtain ⟨i, hi⟩ := List.mem_iff_getElem?.mp hn
  have hl := h.len
  have z := h.ok i n hi
  have hi2 := (List.getElem?_eq_some_iff.mp hi).1
  omega
/-- [plant, stock] as data -/
def pairD (pl ss : List Int) : PyData := .list [.tuple (pl.map PyData.int), .tuple (ss.map PyData.int)]
theorem nice_pair {pl ss : List Int} (hP : Plant pl) (so : StockOk pl ss) : Nice (2 * (300 * 171 + 1)) 2 (pairD pl ss) := by
  have h1 := so.len
  have h2 := hP.len
  refine nice_lst (fun d hd => ?_) (show 2 ≤ 2 by omega)
  rcases List.mem_cons.mp hd with e | e
  · rw [e]
    exact nice_smallT hP.smallI (by omega)
  · rw [List.mem_singleton.mp e]
    exact nice_smallT so.small (by omega)
theorem rp_pair {K : PySem.W.Frag} {H : Hp} {t p q : Addr} {pl ss : List Int} (h : H t = some (.lst [.ref p, .ref q])) (hp : SqT K H p (pl.map V.int)) (hq : SqT K H q (ss.map V.int)) : Rp K H (.ref t) (pairD pl ss) :=
  .dp (.lst (.inl (.inl h)) (.cons (.tup hp (dp_ints _)) (.cons (.tup hq (dp_ints _)) .nil)))
end PT

set_option maxHeartbeats 4000000
/-! max of a tuple of ints -/
namespace PT
open PySem PySem.Spec PyProof.Rows L2
theorem alike_int (ns : List Int) : PySem.W.AlikeAll (ns.map PyData.int) := by
  refine ⟨fun x hx y hy => ?_, fun x hx => ?_⟩
  · obtain ⟨n, _, rfl⟩ := List.mem_map.mp hx
    obtain ⟨m, _, rfl⟩ := List.mem_map.mp hy
    rfl
  · obtain ⟨n, _, rfl⟩ := List.mem_map.mp hx
    intro e
    cases e
theorem depth_ints : ∀ ns : List Int, PyData.depthAll (ns.map PyData.int) = 0
  | [] => rfl
  | n :: ns => by
    rw [List.map_cons]
    simp only [PyData.depthAll, PyData.depth, depth_ints ns]
    rfl
theorem lay_ints : ∀ ns : List Int, PyData.canLayAll0 (ns.map PyData.int) = true
  | [] => by simp [PyData.canLayAll0]
  | n :: ns => by simp [PyData.canLayAll0, PyData.canLay0, lay_ints ns]
theorem shaped_ints (ns : List Int) : SeqAt.shaped (.list (ns.map PyData.int)) = true := by
  unfold SeqAt.shaped
  simp only [PyData.canLay0, PyData.depth, depth_ints, lay_ints, Bool.true_and]
  decide
section
variable {X : Cx}
/-- max(t), t a tuple of ints -/
theorem call_maxT (hc : X.calm = true) (hu : X.A.units + 64 < cLine) : CallR X (.builtin "max") (fun vs H Q => ∃ a ns, vs = [V.ref a] ∧ SqT X.K H a (ns.map V.int) ∧ ns ≠ [] ∧ Q (.int (mxv ns)) H) := by
  intro pins st σ H vs us Q I r h
  obtain ⟨a, ns, rfl, hT, hne, q⟩ := h
  obtain ⟨its, rv, p, hz⟩ := I.tuple hT
  rw [Vals.ref1 r]
  cases ns with
  | nil => exact absurd rfl hne
  | cons x xs =>
    obtain ⟨as, hr⟩ := Dp.readsAll I ((x :: xs).map PyData.int) _ its (dp_ints (x :: xs)) rv
    have hd : PyData.depthAll (.int x :: xs.map PyData.int) = 0 := depth_ints (x :: xs)
    refine PySem.W.max_tuple_data (I.ok.hd hc) p hr (alike_int (x :: xs)) (by rw [hd]; omega) fun i v h' tk bs hv hR hk => ?_
    rw [PySem.W.maxD_ints] at hR
    cases hR with
    | int m t => exact ⟨.int _, H, I.kept hk, ⟨t, rfl⟩, q⟩
end
def natV (c : List Nat) : List V := c.map fun k : Nat => V.int (k : Int)
end PT

set_option maxHeartbeats 4000000
/-! lists of pairs of ints: data, the least pair -/
namespace PT
open PySem PySem.Spec PyProof.Rows L2
def pD (p : Int × Int) : PyData := .tuple [.int p.1, .int p.2]
theorem pD_toD : ∀ ps : List (Int × Int), ps.map pD = ps.map PySem.W.Datum.toD
  | [] => rfl
  | p :: ps => by
    rw [List.map_cons, List.map_cons, pD_toD ps]
    rfl
/-- a list of pairs of ints -/
structure PairsAt (H : Hp) (l : Addr) (as : List Addr) (ps : List (Int × Int)) : Prop where
  hl : H l = some (.lst (as.map V.ref))
  len : as.length = ps.length
  at_ : ∀ (i : Nat) (a : Addr) (p : Int × Int), as[i]? = some a → ps[i]? = some p → H a = some (.tup [.int p.1, .int p.2])
theorem PairsAt.same {H H' : Hp} {l : Addr} {as : List Addr} {ps : List (Int × Int)} (h : PairsAt H l as ps) (e : Same H H') : PairsAt H' l as ps := ⟨e _ _ h.hl, h.len, fun i a p x y => e _ _ (h.at_ i a p x y)⟩
theorem dpAll_pairs {K : PySem.W.Frag} {H : Hp} : ∀ (as : List Addr) (ps : List (Int × Int)), as.length = ps.length → (∀ (i : Nat) (a : Addr) (p : Int × Int), as[i]? = some a → ps[i]? = some p → H a = some (.tup [.int p.1, .int p.2])) → DpAll K H (as.map V.ref) (ps.map pD)
  | [], [], _, _ => .nil
  | [], _ :: _, h, _ => by simp at h
  | _ :: _, [], h, _ => by simp at h
  | a :: as, p :: ps, h, q => .cons (.tup (.inl (.inl (q 0 a p rfl rfl))) (dp_ints [p.1, p.2])) (dpAll_pairs as ps (by simpa using h) fun i b r e1 e2 => q (i + 1) b r (by simpa using e1) (by simpa using e2))
theorem PairsAt.dp {K : PySem.W.Frag} {H : Hp} {l : Addr} {as : List Addr} {ps : List (Int × Int)} (h : PairsAt H l as ps) : Dp K H (.ref l) (.list (ps.map pD)) := .lst (.inl (.inl h.hl)) (dpAll_pairs as ps h.len h.at_)
theorem depth_pairs : ∀ ps : List (Int × Int), PyData.depthAll (ps.map pD) ≤ 1
  | [] => Nat.zero_le _
  | p :: ps => by
    have ih := depth_pairs ps
    rw [List.map_cons]
    simp only [PyData.depthAll, pD, PyData.depth]
    omega
theorem lay_pairs : ∀ ps : List (Int × Int), PyData.canLayAll0 (ps.map pD) = true
  | [] => by simp [PyData.canLayAll0]
  | p :: ps => by simp [PyData.canLayAll0, PyData.canLay0, pD, lay_pairs ps]
theorem shaped_pairs (ps : List (Int × Int)) : SeqAt.shaped (.list (ps.map pD)) = true := by
  unfold SeqAt.shaped
  have h := depth_pairs ps
  simp only [PyData.canLay0, PyData.depth, lay_pairs, Bool.true_and, decide_eq_true_eq]
  exact decide_eq_true (by omega)
section
variable {X : Cx}
/-- min(xs), xs a list of pairs of ints that is not empty -/
theorem call_minP (hc : X.calm = true) (hu : X.A.units + 64 < cLine) : CallR X (.builtin "min") (fun vs H Q => ∃ (l : Addr) (as : List Addr) (p0 : Int × Int) (pr : List (Int × Int)), vs = [V.ref l] ∧ PairsAt H l as (p0 :: pr) ∧
    ∀ (i : Nat) (a : Addr), as[i]? = some a → (p0 :: pr)[i]? = some (PySem.W.minOf p0 pr) → Q (.ref a) H) := by
  intro pins st σ H vs us Q I r h
  obtain ⟨l, as, p0, pr, rfl, hP, q⟩ := h
  obtain ⟨its, rv, p, hz⟩ := I.list (.inl (.inl hP.hl))
  rw [Vals.ref1 r]
  obtain ⟨bs, hr⟩ := Dp.readsAll I ((p0 :: pr).map pD) _ its (dpAll_pairs as _ hP.len hP.at_) rv
  have hd : PyData.depthAll (pD p0 :: pr.map pD) ≤ 1 := depth_pairs (p0 :: pr)
  refine PySem.W.min_list_data (I.ok.hd hc) p.isList (x := pD p0) (xs := pr.map pD) (by simpa using hr) (by have z := PySem.W.alikeAll_datum (p0 :: pr); rw [← pD_toD] at z; exact z) (by omega) fun i v h' tk cs hv hR hk => ?_
  have hv2 : its[i]? = some v := by simpa using hv
  obtain ⟨b2, r2, lt2, _, _⟩ := PySem.W.readsAll_at hr i v hv2
  have e1 : PySem.W.minD (pD p0) (pr.map pD) = pD (PySem.W.minOf p0 pr) := by
    have z := PySem.W.minD_map p0 pr
    rw [← pD_toD] at z
    exact z
  rw [e1] at hR
  have hi : i < (p0 :: pr).length := by rw [List.length_map] at lt2; exact lt2
  have e2 := (PyProof.Rows.reads_det (fun b o e _ => hk b o e) r2 hR).1
  have hps : (p0 :: pr)[i]? = some ((p0 :: pr)[i]) := List.getElem?_eq_getElem hi
  have e3 : pD (PySem.W.minOf p0 pr) = pD ((p0 :: pr)[i]) := by
    rw [e2, List.getD_eq_getElem?_getD, List.getElem?_map, hps]
    rfl
  have e4 : (p0 :: pr)[i] = PySem.W.minOf p0 pr := by
    unfold pD at e3
    simp only [PyData.tuple.injEq, List.cons.injEq, PyData.int.injEq, and_true] at e3
    exact Prod.ext e3.1.symm e3.2.symm
  have ea : as[i]? = some (as[i]'(by rw [hP.len]; exact hi)) := List.getElem?_eq_getElem _
  obtain ⟨u, hu2, ru⟩ := rv.get (i := i) (x := .ref (as[i]'(by rw [hP.len]; exact hi))) (by rw [List.getElem?_map, ea]; rfl)
  have ev : u = v := Option.some.inj (hu2.symm.trans hv2)
  subst ev
  exact ⟨.ref _, H, I.kept hk, ru, q i _ ea (by rw [hps, e4])⟩
end
/-! ### the least pair is that of the oldest box -/
theorem minOf_mem : ∀ (pr : List (Int × Int)) (p0 : Int × Int), PySem.W.minOf p0 pr ∈ p0 :: pr
  | [], _ => List.mem_cons_self
  | y :: pr, p0 => by
    have ih := minOf_mem pr (if PySem.W.DatumOrd.lt y p0 = true then y else p0)
    show PySem.W.minOf (if PySem.W.DatumOrd.lt y p0 = true then y else p0) pr ∈ _
    rcases List.mem_cons.mp ih with e | e
    · rw [e]
      split
      · simp
      · simp
    · exact List.mem_cons_of_mem _ (List.mem_cons_of_mem _ e)
theorem ltP_fst {p q : Int × Int} (h : ¬ PySem.W.DatumOrd.lt p q = true) : q.1 ≤ p.1 := by
  have e : PySem.W.DatumOrd.lt p q = if p.1 = q.1 then decide (p.2 < q.2) else decide (p.1 < q.1) := rfl
  rw [e] at h
  by_cases c : p.1 = q.1
  · omega
  · rw [if_neg c] at h
    have := of_decide_eq_false (eq_false_of_ne_true h)
    omega
theorem ltP_fst2 {p q : Int × Int} (h : PySem.W.DatumOrd.lt p q = true) : p.1 ≤ q.1 := by
  have e : PySem.W.DatumOrd.lt p q = if p.1 = q.1 then decide (p.2 < q.2) else decide (p.1 < q.1) := rfl
  rw [e] at h
  by_cases c : p.1 = q.1
  · omega
  · rw [if_neg c] at h
    have := of_decide_eq_true h
    omega
theorem minOf_le : ∀ (pr : List (Int × Int)) (p0 : Int × Int), ∀ q ∈ p0 :: pr, (PySem.W.minOf p0 pr).1 ≤ q.1
  | [], p0, q, h => by
    rw [List.mem_singleton.mp h]
    exact Int.le_refl _
  | y :: pr, p0, q, h => by
    have ih := minOf_le pr (if PySem.W.DatumOrd.lt y p0 = true then y else p0)
    show (PySem.W.minOf (if PySem.W.DatumOrd.lt y p0 = true then y else p0) pr).1 ≤ _
    have h0 := ih _ List.mem_cons_self
    rcases List.mem_cons.mp h with e | e
    · rw [e]
      refine Int.le_trans h0 ?_
      split
      · rename_i c
        exact ltP_fst2 c
      · exact Int.le_refl _
    · rcases List.mem_cons.mp e with e | e
      · rw [e]
        refine Int.le_trans h0 ?_
        split
        · exact Int.le_refl _
        · rename_i c
          exact ltP_fst c
      · exact ih q (List.mem_cons_of_mem _ e)
/-- the suppliers with their boxes -/
def supP (pl ss : List Int) (i v : Nat) : List (Int × Int) := (sup pl i v).map fun k => (bx ss k, k)
theorem supP_min {pl ss : List Int} (hP : Plant pl) (hs : ss.length = pl.length + 1) (hn : ss.Nodup) {v : Nat} {p0 : Int × Int} {pr : List (Int × Int)} (e : supP pl ss pl.length v = p0 :: pr) :
    gives pl ss v ∧ PySem.W.minOf p0 pr = (bx ss (bst pl ss v), ((bst pl ss v : Nat) : Int)) := by
  have hm := minOf_mem pr p0
  have hle := minOf_le pr p0
  rw [← e] at hm hle
  unfold supP at hm hle
  obtain ⟨k, hk, ek⟩ := List.mem_map.mp hm
  obtain ⟨kn, rfl, k1, k2⟩ := sup_gt hP hk
  obtain ⟨k0, _, kc⟩ := (sup_cu hP).mp hk
  obtain ⟨g1, g2⟩ := gives_of (ss := ss) hP k0 k2
  rw [kc] at g1 g2
  have g3 := g1
  unfold gives at g3
  have hb : ((bst pl ss v : Nat) : Int) ∈ sup pl pl.length v := (sup_cu hP).mpr ⟨by omega, g3.2, gives_cu hP g1⟩
  have l := hle _ (List.mem_map.mpr ⟨_, hb, rfl⟩)
  rw [← ek] at l
  have l2 : bx ss (kn : Int) ≤ bx ss (bst pl ss v) := l
  have same := bx_inj hn (i := bst pl ss v) (j := kn) (by omega) (by omega) (by omega)
  refine ⟨g1, ?_⟩
  rw [← ek, same]
theorem supP_nil {pl ss : List Int} {v : Nat} (hP : Plant pl) (e : supP pl ss pl.length v = []) : ¬ gives pl ss v := by
  have z : sup pl pl.length v = [] := List.map_eq_nil_iff.mp e
  intro h
  have := bst_nil (ss := ss) z
  unfold gives at h
  omega
theorem supP_step {pl ss : List Int} {i : Nat} {x : Int} (v : Nat) (h : pl[i]? = some x) : supP pl ss (i + 1) v = if x = (v : Int) then supP pl ss i v ++ [(bx ss ((i : Int) + 1), (i : Int) + 1)] else supP pl ss i v := by
  unfold supP
  rw [sup_step v h]
  split
  · rw [List.map_append]
    rfl
  · rfl
theorem supP_len (pl ss : List Int) (i v : Nat) : (supP pl ss i v).length ≤ i := by
  unfold supP
  rw [List.length_map]
  exact sup_len pl i v

theorem PairsAt.snoc {G : Hp} {D t : Addr} {as : List Addr} {ps : List (Int × Int)} {p : Int × Int} (h : PairsAt G D as ps) (n : G t = none) :
    PairsAt (upd (upd G t (.tup [.int p.1, .int p.2])) D (.lst (as.map V.ref ++ [.ref t]))) D (as ++ [t]) (ps ++ [p]) := by
  have tD : t ≠ D := fun z => by
    rw [z, h.hl] at n
    cases n
  refine ⟨by rw [upd_same, List.map_append]; rfl, by rw [List.length_append, List.length_append, h.len]; rfl, fun i a r ea er => ?_⟩
  by_cases hi : i < as.length
  · rw [List.getElem?_append_left hi] at ea
    rw [List.getElem?_append_left (by rw [← h.len]; exact hi)] at er
    have z := h.at_ i a r ea er
    rw [upd_ne (ne_of z h.hl (by intro w; cases w)), upd_ne (ne_of_none z n)]
    exact z
  · have hl := h.len
    have hi2 : i = as.length := by
      have z := (List.getElem?_eq_some_iff.mp ea).1
      rw [List.length_append] at z
      have z2 : i < as.length + 1 := z
      omega
    subst hi2
    rw [List.getElem?_append_right (Nat.le_refl _), Nat.sub_self] at ea
    rw [hl, List.getElem?_append_right (Nat.le_refl _), Nat.sub_self] at er
    cases ea
    cases er
    rw [upd_ne tD, upd_same]
end PT

/-! the words of an ordered stock: what a day does to them -/
namespace PT

/-- the supplier of v at or above s; none where s is not below v -/
def br (pl : List Int) (v s : Nat) : Option Nat := if h : 0 < s then (if cu pl s = v then some s else br pl v (cu pl s)) else none
termination_by s
decreasing_by exact cu_lt pl h
theorem br_zero (pl : List Int) (v : Nat) : br pl v 0 = none := by
  rw [br]
  rfl
theorem br_pos (pl : List Int) (v : Nat) {s : Nat} (h : 0 < s) : br pl v s = if cu pl s = v then some s else br pl v (cu pl s) := by
  rw [br, dif_pos h]
theorem br_some {pl : List Int} {v t : Nat} : ∀ s, br pl v s = some t → 0 < t ∧ t ≤ s ∧ cu pl t = v ∧ v < s := by
  intro s
  induction s using Nat.strongRecOn with
  | ind s ih =>
    intro h
    by_cases h0 : 0 < s
    · have hc := cu_lt pl h0
      rw [br_pos pl v h0] at h
      by_cases e : cu pl s = v
      · rw [if_pos e] at h
        cases h
        exact ⟨h0, Nat.le_refl _, e, by omega⟩
      · rw [if_neg e] at h
        have := ih _ hc h
        omega
    · have e : s = 0 := by omega
      rw [e, br_zero] at h
      cases h
theorem br_ord {pl ss : List Int} (ho : Ord pl ss) {v t : Nat} : ∀ s, s ≤ pl.length → br pl v s = some t → bx ss t ≤ bx ss s := by
  intro s
  induction s using Nat.strongRecOn with
  | ind s ih =>
    intro hs h
    by_cases h0 : 0 < s
    · have hc := cu_lt pl h0
      rw [br_pos pl v h0] at h
      by_cases e : cu pl s = v
      · rw [if_pos e] at h
        cases h
        exact Int.le_refl _
      · rw [if_neg e] at h
        have h1 := ih _ hc (by omega) h
        have h2 := ho s h0 hs
        omega
    · have e : s = 0 := by omega
      rw [e, br_zero] at h
      cases h
/-- all stations, from the oldest box on -/
structure IsOrd (ss : List Int) (L : List Nat) : Prop where
  mem : ∀ k, k ∈ L ↔ k < ss.length
  inc : L.Pairwise fun a b : Nat => bx ss a < bx ss b
theorem inc_unique {ss : List Int} : ∀ {L M : List Nat}, L.Pairwise (fun a b : Nat => bx ss a < bx ss b) → M.Pairwise (fun a b : Nat => bx ss a < bx ss b) → (∀ k, k ∈ L ↔ k ∈ M) → L = M
  | [], [], _, _, _ => rfl
  | [], m :: M, _, _, h => absurd ((h m).mpr List.mem_cons_self) (by simp)
  | l :: L, [], _, _, h => absurd ((h l).mp List.mem_cons_self) (by simp)
  | l :: L, m :: M, h1, h2, h => by
    obtain ⟨a1, a2⟩ := List.pairwise_cons.mp h1
    obtain ⟨b1, b2⟩ := List.pairwise_cons.mp h2
    have e : l = m := by
      rcases List.mem_cons.mp ((h l).mp List.mem_cons_self) with z | z
      · exact z
      · rcases List.mem_cons.mp ((h m).mpr List.mem_cons_self) with y | y
        · exact y.symm
        · have := b1 l z
          have := a1 m y
          omega
    subst e
    have hl : l ∉ L := fun z => by have := a1 l z; omega
    have hm : l ∉ M := fun z => by have := b1 l z; omega
    refine congrArg (l :: ·) (inc_unique a2 b2 fun k => ?_)
    constructor
    · intro z
      rcases List.mem_cons.mp ((h k).mp (List.mem_cons_of_mem _ z)) with y | y
      · rw [y] at z
        exact absurd z hl
      · exact y
    · intro z
      rcases List.mem_cons.mp ((h k).mpr (List.mem_cons_of_mem _ z)) with y | y
      · rw [y] at z
        exact absurd z hm
      · exact y
theorem IsOrd.unique {ss : List Int} {L M : List Nat} (h : IsOrd ss L) (g : IsOrd ss M) : L = M := inc_unique h.inc g.inc fun k => (h.mem k).trans (g.mem k).symm
/-- the word of v -/
def wd (pl : List Int) (L : List Nat) (v : Nat) : List Nat := L.filterMap (br pl v)
theorem wd_maker {pl : List Int} (hP : Plant pl) {v : Nat} (h : sup pl pl.length v = []) : ∀ {L : List Nat}, (∀ k ∈ L, k ≤ pl.length) → wd pl L v = [] := by
  intro L hL
  unfold wd
  rw [List.filterMap_eq_nil_iff]
  intro k hk
  cases e : br pl v k with
  | none => rfl
  | some t =>
    obtain ⟨t0, t1, t2, _⟩ := br_some k e
    have := (sup_cu hP (j := v) (k := t)).mpr ⟨t0, by have := hL k hk; omega, t2⟩
    rw [h] at this
    cases this
theorem wd_mem {pl : List Int} {L : List Nat} {v t : Nat} (hL : ∀ k ∈ L, k ≤ pl.length) (h : t ∈ wd pl L v) : 0 < t ∧ t ≤ pl.length ∧ cu pl t = v := by
  obtain ⟨k, hk, e⟩ := List.mem_filterMap.mp h
  obtain ⟨a, b, c, _⟩ := br_some k e
  exact ⟨a, by have := hL k hk; omega, c⟩
/-! ### the chain -/
theorem chn_br {pl ss : List Int} (hP : Plant pl) : ∀ (n c : Nat), pl.length - c = n → gives pl ss c → ∀ s ∈ chn pl ss (bst pl ss c), br pl c s = some (bst pl ss c) := by
  intro n c hn hg s
  have hd : c < bst pl ss c ∧ bst pl ss c ≤ pl.length := hg
  have hcu := gives_cu hP hg
  induction s using Nat.strongRecOn with
  | ind s ih =>
    intro hs
    have hr := chn_le _ (bst pl ss c) rfl hd.2 s hs
    have h0 : 0 < s := by omega
    rw [br_pos pl c h0]
    rcases chn_up _ (bst pl ss c) rfl s hs with z | ⟨p, hp, gp, ep⟩
    · rw [if_pos (by rw [z]; exact hcu), z]
    · have e2 := gives_cu hP gp
      rw [ep] at e2
      have hp2 := chn_le _ (bst pl ss c) rfl hd.2 p hp
      rw [e2, if_neg (by omega)]
      exact ih p (by unfold gives at gp; omega) hp
/-- the last station of the chain from c on -/
def lst (pl ss : List Int) (c : Nat) : Nat := if h : c < bst pl ss c ∧ bst pl ss c ≤ pl.length then lst pl ss (bst pl ss c) else c
termination_by pl.length - c
decreasing_by omega
theorem lst_on {pl ss : List Int} {c : Nat} (h : gives pl ss c) : lst pl ss c = lst pl ss (bst pl ss c) := by
  rw [lst, dif_pos (show c < bst pl ss c ∧ bst pl ss c ≤ pl.length from h)]
theorem lst_end {pl ss : List Int} {c : Nat} (h : ¬ gives pl ss c) : lst pl ss c = c := by
  rw [lst, dif_neg (show ¬ (c < bst pl ss c ∧ bst pl ss c ≤ pl.length) from h)]
theorem lst_chn {pl ss : List Int} : ∀ (n c : Nat), pl.length - c = n → lst pl ss c ∈ chn pl ss c ∧ ¬ gives pl ss (lst pl ss c) ∧ ∀ k ∈ chn pl ss c, ¬ gives pl ss k → k = lst pl ss c := by
  intro n
  induction n using Nat.strongRecOn with
  | ind n ih =>
    intro c hn
    by_cases h : gives pl ss c
    · have h' : c < bst pl ss c ∧ bst pl ss c ≤ pl.length := h
      obtain ⟨a, b, d⟩ := ih (pl.length - bst pl ss c) (by omega) (bst pl ss c) rfl
      rw [lst_on h, chn_on h]
      refine ⟨List.mem_cons_of_mem _ a, b, fun k hk nk => ?_⟩
      rcases List.mem_cons.mp hk with z | z
      · rw [z] at nk
        exact absurd h nk
      · exact d k z nk
    · rw [lst_end h, chn_end h]
      exact ⟨List.mem_cons_self, h, fun k hk _ => List.mem_singleton.mp hk⟩
theorem lst_br {pl ss : List Int} (hP : Plant pl) : ∀ (n c : Nat), pl.length - c = n → ∀ v ∈ chn pl ss c, gives pl ss v → br pl v (lst pl ss c) = some (bst pl ss v) := by
  intro n
  induction n using Nat.strongRecOn with
  | ind n ih =>
    intro c hn v hv hg
    by_cases h : gives pl ss c
    · have h' : c < bst pl ss c ∧ bst pl ss c ≤ pl.length := h
      rw [chn_on h] at hv
      rw [lst_on h]
      rcases List.mem_cons.mp hv with z | z
      · rw [z]
        exact chn_br hP _ c rfl h _ (lst_chn _ _ rfl).1
      · exact ih (pl.length - bst pl ss c) (by omega) (bst pl ss c) rfl v z hg
    · rw [chn_end h] at hv
      rw [List.mem_singleton.mp hv] at hg
      exact absurd hg h
theorem chn_cu {pl ss : List Int} (hP : Plant pl) {s : Nat} (hs : s ∈ chn pl ss 0) (h0 : 0 < s) : cu pl s ∈ chn pl ss 0 ∧ gives pl ss (cu pl s) ∧ bst pl ss (cu pl s) = s := by
  rcases chn_up _ 0 rfl s hs with z | ⟨p, hp, gp, ep⟩
  · omega
  · have e2 := gives_cu hP gp
    rw [ep] at e2
    rw [e2]
    exact ⟨hp, gp, ep⟩
theorem chn_out {pl ss : List Int} (hP : Plant pl) {v : Nat} (hv : v ∉ chn pl ss 0) : ∀ s, s ∈ chn pl ss 0 → br pl v s = none := by
  intro s
  induction s using Nat.strongRecOn with
  | ind s ih =>
    intro hs
    by_cases h0 : 0 < s
    · obtain ⟨a, _, _⟩ := chn_cu hP hs h0
      rw [br_pos pl v h0, if_neg (fun z : cu pl s = v => hv (z ▸ a))]
      exact ih _ (cu_lt pl h0) a
    · have e : s = 0 := by omega
      rw [e, br_zero]
/-! ### a day -/
/-- where the box of s stands behind the day -/
def mv (pl ss : List Int) (s : Nat) : Nat := if s ∈ chn pl ss 0 then cu pl s else s
theorem mv_bx {pl ss : List Int} (hP : Plant pl) (hs : ss.length = pl.length + 1) {s : Nat} (h0 : 0 < s) (h1 : s ≤ pl.length) : bx (day pl ss 0).2 (mv pl ss s) = bx ss s := by
  have hc := cu_lt pl h0
  unfold mv
  by_cases h : s ∈ chn pl ss 0
  · obtain ⟨a, b, c⟩ := chn_cu hP h h0
    rw [if_pos h, day_at hs (j := cu pl s) (by omega), if_pos a]
    unfold nxt
    rw [if_pos b, c]
  · rw [if_neg h, day_at hs h1, if_neg h]
/-- the order behind the day -/
def dayL (pl ss : List Int) (L : List Nat) : List Nat := L.tail.map (mv pl ss) ++ [lst pl ss 0]
theorem ord_head {pl ss : List Int} (hs : ss.length = pl.length + 1) (ho : Ord pl ss) {L : List Nat} (hL : IsOrd ss L) : ∃ R, L = 0 :: R ∧ ∀ k ∈ R, 0 < k ∧ k ≤ pl.length := by
  have low : ∀ k, k ≤ pl.length → bx ss ((0 : Nat) : Int) ≤ bx ss k := by
    intro k
    induction k using Nat.strongRecOn with
    | ind k ih =>
      intro hk
      by_cases h : 0 < k
      · have hc := cu_lt pl h
        have h1 := ih _ hc (by omega)
        have h2 := ho k h hk
        omega
      · have e : k = 0 := by omega
        rw [e]
        exact Int.le_refl _
  cases L with
  | nil => exact absurd ((hL.mem 0).mpr (by omega)) (by simp)
  | cons x R =>
    obtain ⟨a1, a2⟩ := List.pairwise_cons.mp hL.inc
    have hx : x = 0 := by
      rcases List.mem_cons.mp ((hL.mem 0).mpr (by omega)) with z | z
      · exact z.symm
      · have := a1 0 z
        have := low x (by have := (hL.mem x).mp List.mem_cons_self; omega)
        omega
    refine ⟨R, by rw [hx], fun k hk => ?_⟩
    have := (hL.mem k).mp (List.mem_cons_of_mem _ hk)
    have := a1 k hk
    rw [hx] at this
    refine ⟨?_, by omega⟩
    by_cases z : k = 0
    · rw [z] at this
      omega
    · omega
theorem dayL_ord {pl ss : List Int} (hP : Plant pl) (hs : ss.length = pl.length + 1) (ho : Ord pl ss) {L : List Nat} (hL : IsOrd ss L) : IsOrd (day pl ss 0).2 (dayL pl ss L) := by
  obtain ⟨R, rfl, hR⟩ := ord_head hs ho hL
  obtain ⟨l1, l2, l3⟩ := lst_chn (ss := ss) _ 0 rfl
  have lle := chn_le _ 0 rfl (Nat.zero_le _) _ l1
  have hln : (day pl ss 0).2.length = pl.length + 1 := by
    have z := (go_ok hs _ ss [] 0 (bx ss ((0 : Nat) : Int)) rfl (Nat.zero_le _) (Row.start (pl := pl) (ss := ss) (c := 0) (by omega))).1
    show (go pl ss ss [] 0).2.length = _
    rw [z, hs]
  have enew : bx (day pl ss 0).2 (lst pl ss 0) = mxv ss + 1 := by
    rw [day_at hs lle.2, if_pos l1]
    unfold nxt
    rw [if_neg l2]
  refine ⟨fun k => ?_, ?_⟩
  · rw [hln]
    unfold dayL
    rw [List.tail_cons, List.mem_append, List.mem_singleton, List.mem_map]
    constructor
    · rintro (⟨s, hsR, rfl⟩ | rfl)
      · obtain ⟨a, b⟩ := hR s hsR
        unfold mv
        have := cu_lt pl a
        split <;> omega
      · omega
    · intro hk
      by_cases hc : k ∈ chn pl ss 0
      · by_cases hg : gives pl ss k
        · left
          have hd : k < bst pl ss k ∧ bst pl ss k ≤ pl.length := hg
          refine ⟨bst pl ss k, ?_, ?_⟩
          · rcases List.mem_cons.mp ((hL.mem (bst pl ss k)).mpr (by omega)) with z | z
            · omega
            · exact z
          · unfold mv
            rw [if_pos (chn_down _ 0 rfl k hc hg), gives_cu hP hg]
        · exact .inr (l3 k hc hg)
      · left
        refine ⟨k, ?_, ?_⟩
        · rcases List.mem_cons.mp ((hL.mem k).mpr (by omega)) with z | z
          · rw [z] at hc
            exact absurd (chn_self 0) hc
          · exact z
        · unfold mv
          rw [if_neg hc]
  · unfold dayL
    rw [List.tail_cons]
    obtain ⟨a1, a2⟩ := List.pairwise_cons.mp hL.inc
    refine List.pairwise_append.mpr ⟨?_, List.pairwise_singleton .., fun x hx y hy => ?_⟩
    · rw [List.pairwise_map]
      refine a2.imp_of_mem fun {a b} ha hb h => ?_
      obtain ⟨a3, a4⟩ := hR a ha
      obtain ⟨b3, b4⟩ := hR b hb
      rw [mv_bx hP hs a3 a4, mv_bx hP hs b3 b4]
      exact h
    · rw [List.mem_singleton.mp hy, enew]
      obtain ⟨s, hsR, rfl⟩ := List.mem_map.mp hx
      obtain ⟨a3, a4⟩ := hR s hsR
      rw [mv_bx hP hs a3 a4]
      exact mxv_lt (by omega)
theorem fmap_none {α β : Type} {f : α → Option β} : ∀ {l : List α}, (∀ x ∈ l, f x = none) → l.filterMap f = []
  | [], _ => rfl
  | x :: l, h => by rw [List.filterMap_cons_none (h x List.mem_cons_self), fmap_none fun y hy => h y (List.mem_cons_of_mem _ hy)]
theorem fmap_congr {α β : Type} {f g : α → Option β} : ∀ {l : List α}, (∀ x ∈ l, f x = g x) → l.filterMap f = l.filterMap g
  | [], _ => rfl
  | x :: l, h => by
    have e := h x List.mem_cons_self
    have ih := fmap_congr (l := l) fun y hy => h y (List.mem_cons_of_mem _ hy)
    cases q : g x with
    | none => rw [List.filterMap_cons_none (e.trans q), List.filterMap_cons_none q, ih]
    | some b => rw [List.filterMap_cons_some (e.trans q), List.filterMap_cons_some q, ih]
theorem br_mv {pl ss : List Int} (hP : Plant pl) {v s : Nat} (h0 : 0 < s) (hne : ¬ (s ∈ chn pl ss 0 ∧ cu pl s = v)) : br pl v (mv pl ss s) = br pl v s := by
  unfold mv
  by_cases h : s ∈ chn pl ss 0
  · rw [if_pos h, br_pos pl v h0, if_neg fun z => hne ⟨h, z⟩]
  · rw [if_neg h]
theorem dayL_out {pl ss : List Int} (hP : Plant pl) (hs : ss.length = pl.length + 1) (ho : Ord pl ss) {L : List Nat} (hL : IsOrd ss L) {v : Nat} (hv : v ∉ chn pl ss 0) : wd pl (dayL pl ss L) v = wd pl L v := by
  obtain ⟨R, rfl, hR⟩ := ord_head hs ho hL
  unfold wd dayL
  rw [List.tail_cons, List.filterMap_append, List.filterMap_map, List.filterMap_cons_none (br_zero pl v)]
  have e : [lst pl ss 0].filterMap (br pl v) = [] := fmap_none fun x hx => by
    rw [List.mem_singleton.mp hx]
    exact chn_out hP hv _ (lst_chn _ 0 rfl).1
  rw [e, List.append_nil]
  refine fmap_congr fun s hsR => ?_
  obtain ⟨a, b⟩ := hR s hsR
  refine br_mv hP a fun ⟨z, y⟩ => hv ?_
  rw [← y]
  exact (chn_cu hP z a).1
theorem dayL_in {pl ss : List Int} (hP : Plant pl) (hs : ss.length = pl.length + 1) (ho : Ord pl ss) {L : List Nat} (hL : IsOrd ss L) {v : Nat} (hv : v ∈ chn pl ss 0) (hg : gives pl ss v) :
    ∃ W, wd pl L v = bst pl ss v :: W ∧ wd pl (dayL pl ss L) v = W ++ [bst pl ss v] := by
  obtain ⟨R, rfl, hR⟩ := ord_head hs ho hL
  have hd : v < bst pl ss v ∧ bst pl ss v ≤ pl.length := hg
  have hcu := gives_cu hP hg
  have hbc := chn_down _ 0 rfl v hv hg
  have hmR : bst pl ss v ∈ R := by
    rcases List.mem_cons.mp ((hL.mem (bst pl ss v)).mpr (by omega)) with z | z
    · omega
    · exact z
  obtain ⟨A, B, rfl⟩ := List.append_of_mem hmR
  obtain ⟨_, a2⟩ := List.pairwise_cons.mp hL.inc
  obtain ⟨p1, p2, p3⟩ := List.pairwise_append.mp a2
  have hA : ∀ s ∈ A, br pl v s = none := fun s hsA => by
    cases e : br pl v s with
    | none => rfl
    | some t =>
      obtain ⟨s0, s1⟩ := hR s (List.mem_append_left _ hsA)
      obtain ⟨t0, t1, t2, _⟩ := br_some s e
      have h1 := br_ord ho s s1 e
      have h2 := (gives_of (ss := ss) hP t0 (by omega)).2
      rw [t2] at h2
      have h3 := p3 s hsA _ List.mem_cons_self
      omega
  have hu : br pl v (bst pl ss v) = some (bst pl ss v) := by
    rw [br_pos pl v (by omega), if_pos hcu]
  obtain ⟨q1, q2⟩ := List.pairwise_cons.mp p2
  refine ⟨B.filterMap (br pl v), ?_, ?_⟩
  · unfold wd
    rw [List.filterMap_cons_none (br_zero pl v), List.filterMap_append, fmap_none hA, List.filterMap_cons_some hu]
    rfl
  · unfold wd dayL
    rw [List.tail_cons, List.filterMap_append, List.filterMap_map, List.filterMap_append]
    have e1 : A.filterMap (br pl v ∘ mv pl ss) = [] := fmap_none fun s hsA => by
      obtain ⟨s0, s1⟩ := hR s (List.mem_append_left _ hsA)
      show br pl v (mv pl ss s) = none
      have hne : ¬ (s ∈ chn pl ss 0 ∧ cu pl s = v) := fun ⟨_, y⟩ => by
        have z2 := hA s hsA
        rw [br_pos pl v s0, if_pos y] at z2
        cases z2
      rw [br_mv hP s0 hne]
      exact hA s hsA
    have e2 : (br pl v ∘ mv pl ss) (bst pl ss v) = none := by
      show br pl v (mv pl ss (bst pl ss v)) = none
      unfold mv
      rw [if_pos hbc, hcu]
      cases e : br pl v v with
      | none => rfl
      | some t =>
        have := br_some v e
        omega
    have e3 : B.filterMap (br pl v ∘ mv pl ss) = B.filterMap (br pl v) := fmap_congr fun s hsB => by
      obtain ⟨s0, s1⟩ := hR s (List.mem_append_right _ (List.mem_cons_of_mem _ hsB))
      refine br_mv hP s0 fun ⟨z, y⟩ => ?_
      obtain ⟨_, _, c⟩ := chn_cu hP z s0
      rw [y] at c
      have := q1 s hsB
      rw [c] at this
      omega
    have e4 : [lst pl ss 0].filterMap (br pl v) = [bst pl ss v] := by
      rw [List.filterMap_cons_some (lst_br hP _ 0 rfl v hv hg)]
      rfl
    rw [e1, List.filterMap_cons_none e2, e3, e4]
    rfl

/-! ### the greatest station whose box is older than its customer's -/
def ldis (pl ss : List Int) : Nat → Nat
  | 0 => 0
  | m + 1 => if bx ss ((m + 1 : Nat) : Int) < bx ss ((cu pl (m + 1) : Nat) : Int) then m + 1 else ldis pl ss m
theorem ldis_ord {pl ss : List Int} (h : Ord pl ss) : ∀ m, m ≤ pl.length → ldis pl ss m = 0
  | 0, _ => rfl
  | m + 1, hm => by
    have := h (m + 1) (by omega) hm
    unfold ldis
    rw [if_neg (by omega)]
    exact ldis_ord h m (by omega)
theorem ord_ldis {pl ss : List Int} (hs : ss.length = pl.length + 1) (hn : ss.Nodup) : ∀ m, m ≤ pl.length → ldis pl ss m = 0 → ∀ k : Nat, 0 < k → k ≤ m → bx ss (cu pl k) < bx ss k
  | 0, _, _ => fun k a b => by omega
  | m + 1, hm, h => by
    unfold ldis at h
    intro k k0 k1
    by_cases c : bx ss ((m + 1 : Nat) : Int) < bx ss ((cu pl (m + 1) : Nat) : Int)
    · rw [if_pos c] at h
      omega
    · rw [if_neg c] at h
      by_cases e : k = m + 1
      · subst e
        have hc := cu_lt pl (k := m + 1) (by omega)
        have hne : bx ss ((cu pl (m + 1) : Nat) : Int) ≠ bx ss ((m + 1 : Nat) : Int) := fun z => by
          have := bx_inj hn (by omega) (by omega) z
          omega
        omega
      · exact ord_ldis hs hn m (by omega) h k k0 (by omega)
/-! ### a box's way up, letter by letter -/
theorem br_path {pl : List Int} {s : Nat} (h0 : 0 < s) : ∀ h, s ∈ path pl h → br pl (cu pl s) h = some s := by
  intro h
  induction h using Nat.strongRecOn with
  | ind h ih =>
    intro hs
    by_cases hz : 0 < h
    · rw [path_pos pl hz] at hs
      rw [br_pos pl _ hz]
      rcases List.mem_cons.mp hs with e | e
      · rw [e, if_pos rfl]
      · have c := cu_lt pl hz
        have c2 := cu_lt pl h0
        have l := path_le pl _ _ e
        rw [if_neg (by omega)]
        exact ih _ c e
    · have e : h = 0 := by omega
      rw [e, path_zero] at hs
      have := List.mem_singleton.mp hs
      omega
theorem path_br {pl : List Int} {v t : Nat} : ∀ h, br pl v h = some t → t ∈ path pl h := by
  intro h
  induction h using Nat.strongRecOn with
  | ind h ih =>
    intro e
    by_cases hz : 0 < h
    · rw [br_pos pl v hz] at e
      rw [path_pos pl hz]
      by_cases c : cu pl h = v
      · rw [if_pos c] at e
        cases e
        exact List.mem_cons_self
      · rw [if_neg c] at e
        exact List.mem_cons_of_mem _ (ih _ (cu_lt pl hz) e)
    · have z : h = 0 := by omega
      rw [z, br_zero] at e
      cases e
theorem path_up {pl : List Int} {s : Nat} : ∀ h, s ∈ path pl h → 0 < s → cu pl s ∈ path pl h := by
  intro h
  induction h using Nat.strongRecOn with
  | ind h ih =>
    intro hs h0
    have hz : 0 < h := by have := path_le pl h s hs; omega
    rw [path_pos pl hz] at hs ⊢
    rcases List.mem_cons.mp hs with e | e
    · rw [e]
      exact List.mem_cons_of_mem _ (List.mem_of_getElem? (path_head pl _))
    · exact List.mem_cons_of_mem _ (ih _ (cu_lt pl hz) e h0)
theorem path_gap {pl : List Int} {s t : Nat} : ∀ h, s ∈ path pl h → t ∈ path pl h → cu pl s < t → t ≤ s → t = s := by
  intro h
  induction h using Nat.strongRecOn with
  | ind h ih =>
    intro hs ht h1 h2
    by_cases hz : 0 < h
    · rw [path_pos pl hz] at hs ht
      rcases List.mem_cons.mp hs with e | e <;> rcases List.mem_cons.mp ht with y | y
      · rw [e, y]
      · have := path_le pl _ _ y
        rw [e] at h1
        omega
      · have := path_le pl _ _ e
        have := cu_lt pl hz
        omega
      · exact ih _ (cu_lt pl hz) e y h1 h2
    · have z : h = 0 := by omega
      rw [z, path_zero] at hs ht
      rw [List.mem_singleton.mp hs, List.mem_singleton.mp ht]
/-- what v has got of the box at h when its way up has come to s -/
def upto (pl : List Int) (h s v : Nat) : List Nat := match br pl v h with
  | some t => if s < t then [t] else []
  | none => []
theorem upto_start (pl : List Int) (h v : Nat) : upto pl h h v = [] := by
  unfold upto
  cases e : br pl v h with
  | none => rfl
  | some t =>
    have := br_some h e
    exact if_neg (by omega)
theorem upto_end (pl : List Int) (h v : Nat) : upto pl h 0 v = (br pl v h).toList := by
  unfold upto
  cases e : br pl v h with
  | none => rfl
  | some t =>
    have := br_some h e
    exact if_pos (by omega)
theorem upto_step {pl : List Int} {h s v : Nat} (h0 : 0 < s) (hs : s ∈ path pl h) : upto pl h (cu pl s) v = if v = cu pl s then upto pl h s v ++ [s] else upto pl h s v := by
  have hc := cu_lt pl h0
  unfold upto
  by_cases c : v = cu pl s
  · subst c
    rw [br_path h0 h hs, if_pos rfl]
    show (if cu pl s < s then [s] else []) = (if s < s then [s] else []) ++ [s]
    rw [if_pos hc, if_neg (Nat.lt_irrefl _)]
    rfl
  · rw [if_neg c]
    cases e : br pl v h with
    | none => rfl
    | some t =>
      have ht := path_br h e
      obtain ⟨t0, t1, t2, t3⟩ := br_some h e
      show (if cu pl s < t then [t] else []) = if s < t then [t] else []
      by_cases y : s < t
      · rw [if_pos y, if_pos (by omega)]
      · rw [if_neg y]
        by_cases z : cu pl s < t
        · have := path_gap h hs ht z (by omega)
          rw [this] at t2
          exact absurd t2.symm c
        · rw [if_neg z]
theorem wd_take {pl : List Int} {L : List Nat} {i h : Nat} (v : Nat) (e : L[i]? = some h) : wd pl (L.take (i + 1)) v = wd pl (L.take i) v ++ upto pl h 0 v := by
  unfold wd
  rw [List.take_add_one, e, List.filterMap_append, upto_end]
  congr 1
theorem wd_len (pl : List Int) (L : List Nat) (v : Nat) : (wd pl L v).length ≤ L.length := List.length_filterMap_le ..
def natI (ws : List Nat) : List Int := ws.map fun k : Nat => (k : Int)
theorem natI_app (a b : List Nat) : natI (a ++ b) = natI a ++ natI b := List.map_append
theorem natI_len (a : List Nat) : (natI a).length = a.length := List.length_map ..
theorem natI_count (u : Nat) : ∀ ws : List Nat, (natI ws).count (u : Int) = ws.count u
  | [] => rfl
  | w :: ws => by
    have ih := natI_count u ws
    show ((w : Int) :: natI ws).count (u : Int) = _
    rw [List.count_cons, List.count_cons, ih]
    congr 1
    by_cases c : w = u
    · subst c
      simp
    · have c2 : ¬ (w : Int) = (u : Int) := by omega
      simp [c, c2]
end PT

set_option maxHeartbeats 4000000
/-! letters found by the ways up; stations sorted by their boxes -/
namespace PT
open PySem PySem.Spec PyProof.Rows L2
theorem path_ix {pl : List Int} {v : Nat} : ∀ o, v ∈ (path pl o).drop 1 → ∃ j t, 1 ≤ j ∧ (path pl o)[j]? = some v ∧ (∀ m z, m < j → (path pl o)[m]? = some z → z ≠ v) ∧ (path pl o)[j - 1]? = some t ∧ br pl v o = some t := by
  intro o
  induction o using Nat.strongRecOn with
  | ind o ih =>
    intro h
    by_cases h0 : 0 < o
    · have hc := cu_lt pl h0
      rw [path_pos pl h0] at h ⊢
      rw [br_pos pl v h0]
      have h1 : v ∈ path pl (cu pl o) := h
      by_cases e : cu pl o = v
      · refine ⟨1, o, Nat.le_refl _, ?_, fun m z hm hz => ?_, rfl, by rw [if_pos e]⟩
        · rw [← e]
          exact path_head pl _
        · have em : m = 0 := by omega
          subst em
          cases hz
          omega
      · have h2 : v ∈ (path pl (cu pl o)).drop 1 := by
          have ph := path_head pl (cu pl o)
          cases q : path pl (cu pl o) with
          | nil => rw [q] at ph; cases ph
          | cons a r =>
            rw [q] at ph h1
            cases ph
            rcases List.mem_cons.mp h1 with z | z
            · exact absurd z.symm e
            · exact z
        obtain ⟨j, t, a, b, c, d, f⟩ := ih _ hc h2
        refine ⟨j + 1, t, by omega, by simpa using b, fun m z hm hz => ?_, ?_, by rw [if_neg e]; exact f⟩
        · cases m with
          | zero =>
            have hv := path_le pl _ _ h1
            cases hz
            omega
          | succ m => exact c m z (by omega) (by simpa using hz)
        · obtain ⟨i, rfl⟩ : ∃ i, j = i + 1 := ⟨j - 1, by omega⟩
          simpa using d
    · have e : o = 0 := by omega
      subst e
      rw [path_zero] at h
      cases h
theorem path_none {pl : List Int} {v : Nat} : ∀ o, v ∉ (path pl o).drop 1 → br pl v o = none := by
  intro o
  induction o using Nat.strongRecOn with
  | ind o ih =>
    intro h
    by_cases h0 : 0 < o
    · have hc := cu_lt pl h0
      rw [path_pos pl h0] at h
      have h1 : v ∉ path pl (cu pl o) := h
      have ph := path_head pl (cu pl o)
      rw [br_pos pl v h0, if_neg (fun z => h1 (by rw [← z]; exact List.mem_of_getElem? ph))]
      exact ih _ hc fun z => h1 (List.mem_of_mem_drop z)
    · have e : o = 0 := by omega
      rw [e, br_zero]
/-- the pairs of box and station, the stations below i -/
def allP (ss : List Int) (i : Nat) : List (Int × Int) := (List.range i).map fun k : Nat => (bx ss k, (k : Int))
theorem allP_step (ss : List Int) (i : Nat) : allP ss (i + 1) = allP ss i ++ [(bx ss i, (i : Int))] := by
  unfold allP
  rw [List.range_succ, List.map_append]
  rfl
theorem allP_len (ss : List Int) (i : Nat) : (allP ss i).length = i := by
  unfold allP
  rw [List.length_map, List.length_range]
theorem allP_at (ss : List Int) {i k : Nat} (h : k < i) : (allP ss i)[k]? = some (bx ss k, (k : Int)) := by
  unfold allP
  rw [List.getElem?_map, List.getElem?_range h]
  rfl
def pairOf (G : Hp) : V → Int × Int
  | .ref t => match G t with
    | some (.tup [.int a, .int b]) => (a, b)
    | _ => (0, 0)
  | _ => (0, 0)
theorem pairOf_at {G : Hp} {t : Addr} {a b : Int} (h : G t = some (.tup [.int a, .int b])) : pairOf G (.ref t) = (a, b) := by
  simp only [pairOf, h]
theorem PairsAt.mem {G : Hp} {ss : List Int} {as : List Addr} {D : Addr} {n : Nat} (h : PairsAt G D as (allP ss n)) {y : V} (hy : y ∈ as.map V.ref) : ∃ t o, y = .ref t ∧ o < n ∧ G t = some (.tup [.int (bx ss (o : Nat)), .int (o : Nat)]) := by
  obtain ⟨a, ha, rfl⟩ := List.mem_map.mp hy
  obtain ⟨i, hi⟩ := List.mem_iff_getElem?.mp ha
  have hl := h.len
  rw [allP_len] at hl
  have hin := (List.getElem?_eq_some_iff.mp hi).1
  have ho : i < n := by omega
  exact ⟨a, i, rfl, ho, h.at_ i a _ hi (allP_at ss ho)⟩
theorem PairsAt.map {G : Hp} {ss : List Int} {as : List Addr} {D : Addr} {n : Nat} (h : PairsAt G D as (allP ss n)) : (as.map V.ref).map (fun y => (pairOf G y).2.toNat) = List.range n := by
  have hl := h.len
  rw [allP_len] at hl
  apply List.ext_getElem?
  intro i
  rw [List.getElem?_map, List.getElem?_map]
  by_cases hi : i < n
  · have ea : as[i]? = some (as[i]'(by omega)) := List.getElem?_eq_getElem _
    rw [ea, List.getElem?_range hi]
    show some ((pairOf G (.ref _)).2.toNat) = _
    rw [pairOf_at (h.at_ i _ _ ea (allP_at ss hi))]
    rfl
  · rw [List.getElem?_eq_none (by omega), List.getElem?_eq_none (by rw [List.length_range]; omega)]
    rfl
theorem sorted_ord {G : Hp} {ss : List Int} {as : List Addr} {D : Addr} (h : PairsAt G D as (allP ss ss.length)) (hn : ss.Nodup) {ys : List V} (h1 : SrtO.Srtd (ltP (pairOf G)) ys) (h2 : SrtO.Stb (ltP (pairOf G)) ys (as.map V.ref)) :
    ∃ L : List Nat, IsOrd ss L ∧ ys.length = L.length ∧ L.length = ss.length ∧ ∀ (i : Nat) (y : V), ys[i]? = some y → ∃ (t : Addr) (o : Nat), y = .ref t ∧ L[i]? = some o ∧ o < ss.length ∧ G t = some (.tup [.int (bx ss (o : Nat)), .int (o : Nat)]) := by
  have hp : (ys.map fun y => (pairOf G y).2.toNat).Perm (List.range ss.length) := by
    rw [← h.map]
    exact h2.perm.map _
  have nd : (ys.map fun y => (pairOf G y).2.toNat).Nodup := (hp.nodup_iff).mpr List.nodup_range
  refine ⟨ys.map fun y => (pairOf G y).2.toNat, ⟨fun k => ?_, ?_⟩, by rw [List.length_map], by rw [hp.length_eq, List.length_range], fun i y e => ?_⟩
  · exact hp.mem_iff.trans List.mem_range
  · rw [List.pairwise_map]
    have nd2 : ys.Pairwise fun a b => (pairOf G a).2.toNat ≠ (pairOf G b).2.toNat := List.pairwise_map.mp nd
    refine (h1.and nd2).imp_of_mem fun {a b} ha hb hab => ?_
    obtain ⟨t, o, rfl, o1, et⟩ := h.mem (h2.perm.mem_iff.mp ha)
    obtain ⟨t2, o2, rfl, o3, et2⟩ := h.mem (h2.perm.mem_iff.mp hb)
    obtain ⟨p1, p2⟩ := hab
    have p3 : SrtO.lexB (pairOf G (.ref t2)) (pairOf G (.ref t)) = false := p1
    have p4 := SrtO.lexB_no.mp p3
    rw [pairOf_at et, pairOf_at et2] at p2 p4 ⊢
    have p5 : o ≠ o2 := fun z => p2 (by rw [z])
    have p6 : bx ss (o : Nat) ≠ bx ss (o2 : Nat) := fun z => p5 (bx_inj hn o1 o3 z)
    show bx ss ((o : Int).toNat : Nat) < bx ss ((o2 : Int).toNat : Nat)
    rw [Int.toNat_natCast, Int.toNat_natCast]
    simp only at p4
    omega
  · obtain ⟨t, o, rfl, o1, et⟩ := h.mem (h2.perm.mem_iff.mp (List.mem_of_getElem? e))
    refine ⟨t, o, rfl, ?_, o1, et⟩
    rw [List.getElem?_map, e]
    show some ((pairOf G (.ref t)).2.toNat) = _
    rw [pairOf_at et]
    rfl
theorem inV_intsL (j : Int) : ∀ ns : List Int, inV (.int j) (ns.map V.int) = decide (j ∈ ns)
  | [] => by simp [inV]
  | n :: ns => by
    have ih := inV_intsL j ns
    have e : inV (.int j) ((n :: ns).map V.int) = (eqV (.int n) (.int j) || inV (.int j) (ns.map V.int)) := by
      unfold inV
      rw [List.map_cons, List.any_cons]
    rw [e, ih]
    have e2 : eqV (.int n) (.int j) = decide (n = j) := by
      by_cases q : n = j
      · rw [q]
        simp [eqV]
      · simp [eqV, q]
    rw [e2]
    by_cases q : n = j
    · simp [q]
    · have q2 : ¬ j = n := fun z => q z.symm
      simp [q, q2]
theorem natV_natI (ws : List Nat) : (natI ws).map V.int = natV ws := by
  unfold natI natV
  rw [List.map_map]
  rfl
theorem natI_mem {v : Nat} {ws : List Nat} : (v : Int) ∈ natI ws ↔ v ∈ ws := by
  unfold natI
  rw [List.mem_map]
  constructor
  · rintro ⟨k, hk, e⟩
    have : k = v := by omega
    rw [← this]
    exact hk
  · exact fun h => ⟨v, h, rfl⟩
theorem natV_at {ws : List Nat} {j v : Nat} (h : ws[j]? = some v) : (natV ws)[j]? = some (.int (v : Int)) := by
  unfold natV
  rw [List.getElem?_map, h]
  rfl
end PT

set_option maxHeartbeats 4000000
/-! rows of letters that stand in the heap, some of them made a moment ago -/
namespace PT
open PySem PySem.Spec PyProof.Rows L2 LamX NdefX
/-- nothing but a table of code objects can have been there -/
def NewN (H : Hp) (a : Addr) : Prop := ∀ o, H a = some o → ∃ ps, o = .tbl ps
theorem newN_of {H : Hp} {a : Addr} (n : H a = none) : NewN H a := fun o e => by
  rw [n] at e
  cases e
theorem NewN.back {H H' : Hp} {a : Addr} (n : NewN H' a) (x : ExtN H H') : NewN H a := fun o e => by
  cases o with
  | tbl ps => exact ⟨ps, rfl⟩
  | _ => exact n _ (x _ _ e fun ps z => by cases z)
theorem NewN.lst {H : Hp} {a c : Addr} {xs : List V} (n : NewN H a) (e : H c = some (.lst xs)) : a ≠ c := fun z => by
  obtain ⟨ps, q⟩ := n _ (z ▸ e)
  cases q
theorem NewN.tup {H : Hp} {a c : Addr} {xs : List V} (n : NewN H a) (e : H c = some (.tup xs)) : a ≠ c := fun z => by
  obtain ⟨ps, q⟩ := n _ (z ▸ e)
  cases q
theorem extN_putN {H G : Hp} {a : Addr} {o : HO} (x : ExtN H G) (n : NewN H a) : ExtN H (upd G a o) := fun b u h z => by
  have ne : b ≠ a := fun y => by
    obtain ⟨ps, q⟩ := n _ (y ▸ h)
    exact z ps q
  rw [upd_ne ne]
  exact x b u h z
/-- nothing has changed but the source and the tables of code objects -/
def BarN (b : Addr) (H H' : Hp) : Prop := ∀ c o, c ≠ b → H c = some o → (∀ ps, o ≠ .tbl ps) → H' c = some o
theorem BarN.refl (b : Addr) (H : Hp) : BarN b H H := fun _ _ _ h _ => h
theorem BarN.trans {b : Addr} {H H1 H2 : Hp} (u : BarN b H H1) (v : BarN b H1 H2) : BarN b H H2 := fun c o n h z => v c o n (u c o n h z) z
theorem Bar.barN {b : Addr} {H H1 : Hp} (u : Bar b H H1) : BarN b H H1 := fun c o n h _ => u c o n h
theorem Same.barN {b : Addr} {H H1 : Hp} (u : Same H H1) : BarN b H H1 := fun c o _ h _ => u c o h
theorem extN_barN {b : Addr} {H H1 : Hp} (u : ExtN H H1) : BarN b H H1 := fun c o _ h z => u c o h z
theorem BarN.lst {b : Addr} {H H1 : Hp} (u : BarN b H H1) {a : Addr} {xs : List V} (n : a ≠ b) (h : H a = some (.lst xs)) : H1 a = some (.lst xs) := u _ _ n h fun _ z => by cases z
theorem BarN.tup {b : Addr} {H H1 : Hp} (u : BarN b H H1) {a : Addr} {xs : List V} (n : a ≠ b) (h : H a = some (.tup xs)) : H1 a = some (.tup xs) := u _ _ n h fun _ z => by cases z
theorem BarN.extN {b : Addr} {H H1 : Hp} (u : BarN b H H1) (n : NewN H b) : ExtN H H1 := fun c o h z => u c o (fun e => by
  obtain ⟨ps, q⟩ := n o (e ▸ h)
  exact z ps q) h z
theorem BarN.extN' {b : Addr} {H G G2 : Hp} (u : BarN b G G2) (nb : H b = none) (x : ExtN H G) : ExtN H G2 := fun c o h z => u c o (ne_of_none h nb) (x c o h z) z
structure RowsN (G : Hp) (l : Addr) (as : List Addr) (n : Nat) (f : Nat → List Nat) : Prop where
  hl : G l = some (.lst (as.map V.ref))
  len : as.length = n
  out : l ∉ as
  nd : as.Nodup
  at_ : ∀ (j : Nat) (a : Addr), as[j]? = some a → G a = some (.lst ((natI (f j)).map V.int))
theorem RowsN.ext {G G' : Hp} {l : Addr} {as : List Addr} {n : Nat} {f : Nat → List Nat} (R : RowsN G l as n f) (e : ExtN G G') : RowsN G' l as n f :=
  ⟨extN_lst e R.hl, R.len, R.out, R.nd, fun j a h => extN_lst e (R.at_ j a h)⟩
theorem RowsN.same {G G' : Hp} {l : Addr} {as : List Addr} {n : Nat} {f : Nat → List Nat} (R : RowsN G l as n f) (e : Same G G') : RowsN G' l as n f := R.ext (same_extN e)
theorem RowsN.congr {G : Hp} {l : Addr} {as : List Addr} {n : Nat} {f g : Nat → List Nat} (R : RowsN G l as n f) (e : ∀ k, k < n → f k = g k) : RowsN G l as n g :=
  ⟨R.hl, R.len, R.out, R.nd, fun j a h => by
    have := (List.getElem?_eq_some_iff.mp h).1
    rw [← e j (by rw [← R.len]; exact this)]
    exact R.at_ j a h⟩
theorem RowsN.mem {G : Hp} {l : Addr} {as : List Addr} {n : Nat} {f : Nat → List Nat} (R : RowsN G l as n f) {a : Addr} (h : a ∈ as) : ∃ xs, G a = some (.lst xs) := by
  obtain ⟨i, hi⟩ := List.mem_iff_getElem?.mp h
  exact ⟨_, R.at_ i a hi⟩
theorem RowsN.get {G : Hp} {l : Addr} {as : List Addr} {n : Nat} {f : Nat → List Nat} (R : RowsN G l as n f) {i : Nat} (h : i < n) : ∃ a, as[i]? = some a ∧ G a = some (.lst ((natI (f i)).map V.int)) :=
  ⟨_, List.getElem?_eq_getElem (by rw [R.len]; exact h), R.at_ i _ (List.getElem?_eq_getElem (by rw [R.len]; exact h))⟩
theorem RowsN.app {G : Hp} {l : Addr} {as : List Addr} {n c u : Nat} {f : Nat → List Nat} {a : Addr} (R : RowsN G l as n f) (e : as[c]? = some a) :
    RowsN (upd G a (.lst ((natI (f c)).map V.int ++ [.int (u : Int)]))) l as n fun k => if k = c then f c ++ [u] else f k := by
  have hin := List.mem_of_getElem? e
  refine ⟨?_, R.len, R.out, R.nd, fun k b hb => ?_⟩
  · rw [upd_ne (show l ≠ a from fun z => R.out (z ▸ hin))]
    exact R.hl
  · by_cases h : k = c
    · subst h
      have eb : a = b := Option.some.inj (e.symm.trans hb)
      rw [if_pos rfl, ← eb, upd_same, natI_app, List.map_append]
      rfl
    · have ne : b ≠ a := fun z => h (by
        obtain ⟨hk, ek⟩ := List.getElem?_eq_some_iff.mp hb
        obtain ⟨hc, ec⟩ := List.getElem?_eq_some_iff.mp e
        exact (List.getElem_inj R.nd).mp (ek.trans (z.trans ec.symm)))
      rw [if_neg h, upd_ne ne]
      exact R.at_ k b hb
/-- a row is written anew -/
theorem RowsN.put {G : Hp} {l : Addr} {as : List Addr} {n c : Nat} {f : Nat → List Nat} {a : Addr} (R : RowsN G l as n f) (e : as[c]? = some a) (w : List Nat) :
    RowsN (upd G a (.lst ((natI w).map V.int))) l as n fun k => if k = c then w else f k := by
  have hin := List.mem_of_getElem? e
  refine ⟨?_, R.len, R.out, R.nd, fun k b hb => ?_⟩
  · rw [upd_ne (show l ≠ a from fun z => R.out (z ▸ hin))]
    exact R.hl
  · by_cases h : k = c
    · subst h
      have eb : a = b := Option.some.inj (e.symm.trans hb)
      rw [if_pos rfl, ← eb, upd_same]
    · have ne : b ≠ a := fun z => h (by
        obtain ⟨hk, ek⟩ := List.getElem?_eq_some_iff.mp hb
        obtain ⟨hc, ec⟩ := List.getElem?_eq_some_iff.mp e
        exact (List.getElem_inj R.nd).mp (ek.trans (z.trans ec.symm)))
      rw [if_neg h, upd_ne ne]
      exact R.at_ k b hb
theorem RowsN.redo {G : Hp} {l : Addr} {as : List Addr} {n : Nat} {f : Nat → List Nat} (R : RowsN G l as n f) : RowsN (upd G l (.lst (as.map V.ref))) l as n f :=
  ⟨upd_same, R.len, R.out, R.nd, fun j b hb => by
    rw [upd_ne (show b ≠ l from fun z => R.out (z ▸ List.mem_of_getElem? hb))]
    exact R.at_ j b hb⟩
theorem RowsN.other {G : Hp} {l a : Addr} {as : List Addr} {n : Nat} {f : Nat → List Nat} {o : HO} (R : RowsN G l as n f) (h1 : a ∉ as) (h2 : a ≠ l) : RowsN (upd G a o) l as n f :=
  ⟨by rw [upd_ne (Ne.symm h2)]; exact R.hl, R.len, R.out, R.nd, fun j b hb => by
    rw [upd_ne (show b ≠ a from fun z => h1 (z ▸ List.mem_of_getElem? hb))]
    exact R.at_ j b hb⟩
theorem RowsN.start {H : Hp} {D : Addr} {f : Nat → List Nat} : RowsN (upd H D (.lst [])) D [] 0 f := ⟨upd_same, rfl, by simp, List.nodup_nil, fun j a e => by cases e⟩
/-- one more row, a new one, at the end -/
theorem RowsN.snoc {G G' : Hp} {D a : Addr} {as : List Addr} {i : Nat} {f : Nat → List Nat} (R : RowsN G D as i f) (x : ExtN G G') (n : NewN G a) (e : G' a = some (.lst ((natI (f i)).map V.int))) :
    RowsN (upd G' D (.lst (as.map V.ref ++ [.ref a]))) D (as ++ [a]) (i + 1) f := by
  have aD : a ≠ D := n.lst R.hl
  have R2 := R.ext x
  refine ⟨by rw [upd_same, List.map_append]; rfl, by rw [List.length_append, R.len]; rfl, fun h => ?_, ?_, fun j b hb => ?_⟩
  · rcases List.mem_append.mp h with z | z
    · exact R.out z
    · exact aD (List.mem_singleton.mp z).symm
  · refine List.nodup_append.mpr ⟨R.nd, by simp, fun b hb c hc => ?_⟩
    rw [List.mem_singleton.mp hc]
    obtain ⟨xs, z⟩ := R.mem hb
    exact Ne.symm (n.lst z)
  · by_cases hj : j < as.length
    · rw [List.getElem?_append_left hj] at hb
      rw [upd_ne (show b ≠ D from fun z => R.out (z ▸ List.mem_of_getElem? hb))]
      exact R2.at_ j b hb
    · have hj2 : j = as.length := by
        have z := (List.getElem?_eq_some_iff.mp hb).1
        rw [List.length_append] at z
        have z2 : j < as.length + 1 := z
        omega
      subst hj2
      rw [List.getElem?_append_right (Nat.le_refl _), Nat.sub_self] at hb
      cases hb
      rw [upd_ne aD, R.len]
      exact e
theorem RowsN.barN {G G' : Hp} {b l : Addr} {as : List Addr} {n : Nat} {f : Nat → List Nat} (R : RowsN G l as n f) (e : BarN b G G') (h1 : l ≠ b) (h2 : b ∉ as) : RowsN G' l as n f :=
  ⟨e.lst h1 R.hl, R.len, R.out, R.nd, fun j a h => e.lst (fun z => h2 (z ▸ List.mem_of_getElem? h)) (R.at_ j a h)⟩
/-- one more row behind what has written to b alone -/
theorem RowsN.snocB {G G' : Hp} {b D a : Addr} {as : List Addr} {i : Nat} {f : Nat → List Nat} (R : RowsN G D as i f) (x : BarN b G G') (h1 : D ≠ b) (h2 : b ∉ as) (n : NewN G a) (e : G' a = some (.lst ((natI (f i)).map V.int))) :
    RowsN (upd G' D (.lst (as.map V.ref ++ [.ref a]))) D (as ++ [a]) (i + 1) f := by
  have R2 := R.barN x h1 h2
  have aD : a ≠ D := n.lst R.hl
  refine ⟨by rw [upd_same, List.map_append]; rfl, by rw [List.length_append, R.len]; rfl, fun h => ?_, ?_, fun j c hc => ?_⟩
  · rcases List.mem_append.mp h with z | z
    · exact R.out z
    · exact aD (List.mem_singleton.mp z).symm
  · refine List.nodup_append.mpr ⟨R.nd, by simp, fun c hc d hd => ?_⟩
    rw [List.mem_singleton.mp hd]
    obtain ⟨xs, z⟩ := R.mem hc
    exact Ne.symm (n.lst z)
  · by_cases hj : j < as.length
    · rw [List.getElem?_append_left hj] at hc
      rw [upd_ne (show c ≠ D from fun z => R.out (z ▸ List.mem_of_getElem? hc))]
      exact R2.at_ j c hc
    · have hj2 : j = as.length := by
        have z := (List.getElem?_eq_some_iff.mp hc).1
        rw [List.length_append] at z
        have z2 : j < as.length + 1 := z
        omega
      subst hj2
      rw [List.getElem?_append_right (Nat.le_refl _), Nat.sub_self] at hc
      cases hc
      rw [upd_ne aD, R.len]
      exact e
/-! ### such rows as data -/
def rowD (r : List Nat) : PyData := .list ((natI r).map PyData.int)
def rowsD (n : Nat) (f : Nat → List Nat) : PyData := .list ((List.range n).map fun k => rowD (f k))
theorem dpAll_rows {K : PySem.W.Frag} {G : Hp} : ∀ (as : List Addr) (g : Nat → List Nat), (∀ (j : Nat) (a : Addr), as[j]? = some a → G a = some (.lst ((natI (g j)).map V.int))) → DpAll K G (as.map V.ref) ((List.range as.length).map fun k => rowD (g k))
  | [], _, _ => .nil
  | a :: as, g, h => by
    rw [List.length_cons, List.range_succ_eq_map, List.map_cons, List.map_cons, List.map_map]
    refine .cons (.lst (.inl (.inl (h 0 a rfl))) (dp_ints _)) ?_
    exact dpAll_rows as (fun k => g (k + 1)) fun j b e => h (j + 1) b (by simpa using e)
theorem RowsN.dp {K : PySem.W.Frag} {G : Hp} {l : Addr} {as : List Addr} {n : Nat} {f : Nat → List Nat} (R : RowsN G l as n f) : Dp K G (.ref l) (rowsD n f) := by
  have z := dpAll_rows (K := K) as f R.at_
  rw [R.len] at z
  exact .lst (.inl (.inl R.hl)) z
theorem nice_nat {k : Nat} (h : k ≤ 100) : Nice 7 0 (.int (k : Int)) := by
  have z := nice_int (i := (k : Int)) (by omega)
  refine ⟨z.sh, z.dp, z.lv, ?_⟩
  simp only [PyData.weight]
  split
  · omega
  · rename_i h0
    have e : ((k : Int)).natAbs = k := Int.natAbs_natCast k
    rw [e]
    have k0 : k ≠ 0 := fun y => by rw [y] at h0; exact h0 rfl
    have := (Nat.log2_lt k0 (k := 7)).mpr (by omega)
    omega
theorem nice_row {r : List Nat} (h : ∀ k ∈ r, k ≤ 100) (hl : r.length ≤ 100) : Nice 800 1 (rowD r) := by
  refine nice_lst (W := 7) (k := 0) (L := 100) (fun d hd => ?_) (by rw [List.length_map, natI_len]; exact hl)
  obtain ⟨n, hn, rfl⟩ := List.mem_map.mp hd
  unfold natI at hn
  obtain ⟨k, hk, rfl⟩ := List.mem_map.mp hn
  exact nice_nat (h k hk)
theorem nice_rows {n : Nat} {f : Nat → List Nat} (hn : n ≤ 100) (h : ∀ j, j < n → (∀ k ∈ f j, k ≤ 100) ∧ (f j).length ≤ 100) : Nice 80100 2 (rowsD n f) := by
  refine nice_lst (W := 800) (L := 100) (fun d hd => ?_) (by rw [List.length_map, List.length_range]; exact hn)
  obtain ⟨j, hj, rfl⟩ := List.mem_map.mp hd
  obtain ⟨a, b⟩ := h j (List.mem_range.mp hj)
  exact nice_row a b
theorem lay_rows (f : Nat → List Nat) : ∀ l : List Nat, PyData.canLayAll0 (l.map fun k => rowD (f k)) = true
  | [] => by simp [PyData.canLayAll0]
  | k :: l => by
    have ih := lay_rows f l
    have e : (rowD (f k)).canLay0 = true := by
      unfold rowD
      simp only [PyData.canLay0, lay_ints]
    rw [List.map_cons]
    simp only [PyData.canLayAll0, e, ih, Bool.and_self]
theorem depth_rows (f : Nat → List Nat) : ∀ l : List Nat, PyData.depthAll (l.map fun k => rowD (f k)) ≤ 1
  | [] => Nat.zero_le _
  | k :: l => by
    have ih := depth_rows f l
    rw [List.map_cons]
    simp only [PyData.depthAll, rowD, PyData.depth, depth_ints]
    unfold rowD at ih
    omega
theorem canLay_rows (n : Nat) (f : Nat → List Nat) : (rowsD n f).canLay0 = true := by
  unfold rowsD
  simp only [PyData.canLay0, lay_rows]
theorem shaped_rows (n : Nat) (f : Nat → List Nat) : SeqAt.shaped (rowsD n f) = true := by
  unfold SeqAt.shaped
  rw [canLay_rows, Bool.true_and]
  unfold rowsD
  simp only [PyData.depth]
  have := depth_rows f (List.range n)
  exact decide_eq_true (by omega)
theorem eqv_rows (n : Nat) (f : Nat → List Nat) : PyData.eqv (rowsD n f) (rowsD n f) = true := SeqAt.eqv_refl _ (canLay_rows n f)
theorem rowsD_congr {n : Nat} {f g : Nat → List Nat} (e : ∀ k, k < n → f k = g k) : rowsD n f = rowsD n g := by
  unfold rowsD
  congr 1
  exact List.map_congr_left fun k hk => by rw [e k (List.mem_range.mp hk)]
/-- two rows of rows, shown -/
theorem nice_two {n : Nat} {f : Nat → List Nat} (hn : n ≤ 100) (h : ∀ j, j < n → (∀ k ∈ f j, k ≤ 100) ∧ (f j).length ≤ 100) : Nice 170000 50 (.list [rowsD n f, rowsD n f]) := by
  suffices hh : ∀ d ∈ [rowsD n f, rowsD n f], Nice 80100 2 d from (nice_lst (W := 80100) (k := 2) (L := 2) hh (Nat.le_refl 2)).mono (by decide) (by decide)
  intro d hd
  rcases List.mem_cons.mp hd with e | e
  · rw [e]
    exact nice_rows hn h
  · rw [List.mem_singleton.mp e]
    exact nice_rows hn h
end PT

set_option maxHeartbeats 4000000
/-! t.index(n) of a tuple of ints -/
namespace PT
open PySem PySem.Spec PyProof.Rows L2
theorem flat_ints (ns : List Int) : (ns.map V.int).all flatV = true := List.all_eq_true.mpr fun v hv => by
  obtain ⟨n, _, e⟩ := List.mem_map.mp hv
  rw [← e]
  rfl
/-- the values of ints, place by place -/
theorem ints_at {ns : List Int} {its : List Value} (r : Vals (ns.map V.int) its) (k : Nat) (hk : k < its.toArray.size) : ∃ n u, ns[k]? = some n ∧ its.toArray[k] = .int n u := by
  have same := r.length
  rw [List.length_map] at same
  have hk2 : k < its.length := by rwa [List.size_toArray] at hk
  have hk3 : k < ns.length := by omega
  obtain ⟨v, hv, u, e⟩ := r.get (i := k) (x := .int ns[k]) (by rw [List.getElem?_map, List.getElem?_eq_getElem hk3]; rfl)
  rw [List.getElem?_eq_getElem hk2] at hv
  refine ⟨ns[k], u, List.getElem?_eq_getElem hk3, ?_⟩
  rw [← e, ← Option.some.inj hv]
  rfl
/-- t.index(n): the first place where n stands -/
theorem mt_tup_indexI {X : Cx} : MtR X "tuple.index" (fun x vs H Q => ∃ (a : Addr) (ns : List Int) (n : Int) (k : Nat), x = .ref a ∧ vs = [.int n] ∧ SqT X.K H a (ns.map V.int) ∧ ns[k]? = some n ∧ (∀ i, i < k → ns[i]? ≠ some n) ∧ Q (.int (k : Nat)) H) := by
  rintro pins st σ H x vs v us Q J rx rv ⟨a, ns, n, k, ex, ev, at1, here, before, done⟩
  subst ex ev
  cases rx
  obtain ⟨w, ew, u, eu⟩ := vals1 rv
  subst ew eu
  obtain ⟨its, rel, ⟨ob, got, isT, m, dat⟩, _⟩ := J.tuple at1
  cases ob
  dsimp only at isT dat
  subst isT dat
  have inside : k < its.toArray.size := by
    have := rel.length
    rw [List.length_map] at this
    rw [List.size_toArray, ← this]
    exact (List.getElem?_eq_some_iff.mp here).1
  have hit : eqU (.int n) its.toArray[k] = true := by
    obtain ⟨n2, u2, e1, e2⟩ := ints_at rel k inside
    rw [e2, Option.some.inj (e1.symm.trans here)]
    exact beq_self_eq_true n
  have miss : ∀ i (hi : i < its.toArray.size), i < k → eqU (.int n) its.toArray[i] = false := fun i hi lt => by
    obtain ⟨n2, u2, e1, e2⟩ := ints_at rel i hi
    rw [e2]
    exact beq_eq_false_iff_ne.mpr fun e => before i lt (e ▸ e1)
  have eqs : ∀ y, y ∈ its.toArray → SeqAt.EqAt X.A.in1 st y (.int n u) (eqU (.int n) y) := fun y hy =>
    mem_eqAt (x := .int n) ⟨u, rfl⟩ rfl rel (flat_ints ns) y (List.mem_toArray.mp hy)
  exact call_meets PySem.F.slot_tuple_index ⟨_, got, rfl⟩ PySem.F.entry_tuple_index (PySem.F.args_tuple_index_2 _ _) (TI.tuple_indexAt a its.toArray m _ _ (.int n u) (eqU (.int n)) k inside hit miss) ⟨got, eqs, .int (k : Nat), H, J.tok _, ⟨_, rfl⟩, done⟩
end PT

set_option maxHeartbeats 4000000
/-! tuples that are known to have no dict of their own: methods of them -/
namespace PT
open PySem PySem.Spec PyProof.Rows L2
/-- a tuple that is known to the object -/
def TupF (H : Hp) (a : Addr) (xs : List V) : Prop := ∃ o : Obj, H a = some (.frz o (.tup xs)) ∧ o.cls = .type "tuple" ∧ o.dict = none
theorem TupF.same {H H' : Hp} (e : Same H H') {a : Addr} {xs : List V} (h : TupF H a xs) : TupF H' a xs := let ⟨o, q, r⟩ := h; ⟨o, e _ _ q, r⟩
theorem TupF.seq {K : PySem.W.Frag} {H : Hp} {a : Addr} {xs : List V} (h : TupF H a xs) : SqT K H a xs := let ⟨o, q, _⟩ := h; .inl (.inr ⟨o, q⟩)
theorem TupF.kept {H H' : Hp} {a : Addr} {xs : List V} (h : TupF H a xs) (e : ∀ o, H a = some o → H' a = some o) : TupF H' a xs := let ⟨o, q, r⟩ := h; ⟨o, e _ q, r⟩
theorem TupF.ne_none {H : Hp} {a b : Addr} {xs : List V} (h : TupF H a xs) (n : H b = none) : a ≠ b := let ⟨_, q, _⟩ := h; ne_of_none q n
theorem TupF.ne_lst {H : Hp} {a b : Addr} {xs ys : List V} (h : TupF H a xs) (n : H b = some (.lst ys)) : a ≠ b := let ⟨_, q, _⟩ := h; ne_of q n (by intro z; cases z)
theorem TupF.tyx {K : PySem.W.Frag} {H : Hp} {a : Addr} {xs : List V} (h : TupF H a xs) : TyX K H (.ref a) (.type "tuple") := let ⟨_, q, _⟩ := h; .fTuple q
section
variable {X : Cx}
/-- tuple(xs) of a list: its object is known, and has no dict -/
theorem call_tuple_ofF : CallR X (.type "tuple") (fun vs H Q => ∃ l ys, vs = [.ref l] ∧ SqL X.K H l ys ∧ ∀ a ob, H a = none → ob.cls = .type "tuple" → ob.dict = none → Q (.ref a) (upd H a (.frz ob (.tup ys)))) := by
  intro pins st σ H vs us Q J rv ⟨l, ys, ev, hl, done⟩
  subst ev
  obtain ⟨u, eu, ru⟩ := vals1 rv
  subst eu
  cases ru
  obtain ⟨its, rel, isl, short⟩ := J.list hl
  have same_len := rel.length
  refine call_tuple_list isl.isList (fun h2 keeps => ?_) (by rw [List.size_toArray]; omega)
  have J2 : Inv X pins σ H { st with heap := h2 } := J.kept (t' := st.toks) keeps
  let ob : Obj := { cls := .type "tuple", data := .seq its.toArray }
  refine ⟨.ref h2.objs.size, upd H h2.objs.size (.frz ob (.tup ys)), ?_, rfl, done _ ob (J2.hok.fresh (Nat.le_refl _)) rfl rfl⟩
  refine J2.laid (t' := st.toks) (fun c d e => Heap.get?_push_of_some _ e) (Nat.le_refl _) ?_
  exact ⟨Heap.get?_push_size _ rfl, short, its, rel, IsTup.new _ _⟩
/-- what a method call of such a tuple asks: the tuple, then the method's own rule -/
def tBMF (r : V → List V → Hp → VK → Prop) (to : TE) (t : TA) : TE := fun σ H Q =>
  to σ H fun x H1 => (∃ a ys, x = .ref a ∧ TupF H1 a ys) ∧ t σ H1 fun vs H2 => r x vs H2 Q
theorem pe_bmF {ob a1 : Expr} {rest : List Expr} {to : TE} {t : TA} {m : Str} {p1 p2 : Pos} {id : String} {r : V → List V → Hp → VK → Prop}
    (sl : Slot "tuple" m id) (kind : typeOf (.builtin id) = pure (.type "method_descriptor")) (rule : MtR X id r) (hob : PE X ob to) (hargs : PA X (a1 :: rest) t)
    (c1 : attributeBase ob m X.env (eval ob X.env) = eval ob X.env := by rfl)
    (c2 : ((backTo p2 (starEach (a1 :: rest) X.env)).all (fun z => !z.1) && (backToKw p2 (keywordEach [] X.env)).all (fun z => z.1.isSome) && decide ((a1 :: rest).length + ([] : List Keyword).length + (if ([] : List Keyword).isEmpty then 0 else 1) < 30)) = true := by rfl)
    (c3 : (p1.endLine == p2.line) = true := by rfl) (c4 : starEach (a1 :: rest) X.env = (false, eval a1 X.env) :: starEach rest X.env := by rfl)
    (c5 : (backTo p2 (starEach rest X.env)).any (·.1) = false := by rfl) : PE X (.Call (.Attribute ob m p1) (a1 :: rest) [] p2) (tBMF r to t) := by
  constructor
  intro pins st σ H Q J h
  refine wpAny_Call_method_late c1 c2 c3 rfl (thn (hob.run pins st σ H _ J h) ?_)
  rintro v st1 ⟨x, H1, J1, rx, ⟨a, ys, ex, obj, at1, isT, noD⟩, q⟩
  subst ex
  cases rx
  have there := (J1.hok a _ at1).1
  refine ⟨"tuple", id, PySem.F.plainAttrs_tuple, sl, kind, ⟨obj, there, isT⟩, fun c e => ⟨obj, by cases e; exact there, noD⟩, ?_⟩
  have ran := hargs.run p2 pins st1 σ H1 _ J1 q
  rw [c4] at ran ⊢
  have none_starred : ((false, eval a1 X.env) :: backTo p2 (starEach rest X.env)).any (·.1) = false := by rw [List.any_cons, c5]; rfl
  exact Calls.callWith_builtin none_starred (Calls.evalArgs_plain (thn ran fun us st2 ⟨vs, H2, J2, rvs, q2⟩ => rule pins st2 σ H2 (.ref a) vs (.ref a) us Q J2 rfl rvs q2))
end
end PT

set_option maxHeartbeats 4000000
/-! a stock that stands in the heap: a tuple, known to its object or not -/
namespace PT
open PySem PySem.Spec PyProof.Rows L2 LamX NdefX
def StkAt (H : Hp) (q : Addr) (ss : List Int) : Prop := H q = some (.tup (ss.map V.int)) ∨ ∃ o : Obj, H q = some (.frz o (.tup (ss.map V.int)))
theorem StkAt.seq {K : PySem.W.Frag} {H : Hp} {q : Addr} {ss : List Int} (h : StkAt H q ss) : SqT K H q (ss.map V.int) := by
  rcases h with h | ⟨o, h⟩
  · exact .inl (.inl h)
  · exact .inl (.inr ⟨o, h⟩)
theorem StkAt.tyx {K : PySem.W.Frag} {H : Hp} {q : Addr} {ss : List Int} (h : StkAt H q ss) : TyX K H (.ref q) (.type "tuple") := by
  rcases h with h | ⟨o, h⟩
  · exact .base (.tup h)
  · exact .fTuple h
theorem StkAt.same {H H' : Hp} {q : Addr} {ss : List Int} (e : Same H H') (h : StkAt H q ss) : StkAt H' q ss := by
  rcases h with h | ⟨o, h⟩
  · exact .inl (e _ _ h)
  · exact .inr ⟨o, e _ _ h⟩
theorem StkAt.ext {H H' : Hp} {q : Addr} {ss : List Int} (e : ExtN H H') (h : StkAt H q ss) : StkAt H' q ss := by
  rcases h with h | ⟨o, h⟩
  · exact .inl (e _ _ h fun ps z => by cases z)
  · exact .inr ⟨o, e _ _ h fun ps z => by cases z⟩
theorem StkAt.bar {H H' : Hp} {b q : Addr} {ss : List Int} (e : BarN b H H') (n : q ≠ b) (h : StkAt H q ss) : StkAt H' q ss := by
  rcases h with h | ⟨o, h⟩
  · exact .inl (e _ _ n h fun ps z => by cases z)
  · exact .inr ⟨o, e _ _ n h fun ps z => by cases z⟩
theorem StkAt.ne {H : Hp} {b q : Addr} {ss : List Int} {xs : List V} (h : StkAt H q ss) (e : H b = some (.lst xs)) : q ≠ b := by
  rcases h with h | ⟨o, h⟩
  · exact ne_of h e (by intro z; cases z)
  · exact ne_of h e (by intro z; cases z)
theorem StkAt.nn {H : Hp} {b q : Addr} {ss : List Int} (h : StkAt H q ss) (e : H b = none) : q ≠ b := by
  rcases h with h | ⟨o, h⟩
  · exact ne_of_none h e
  · exact ne_of_none h e
theorem TupF.stk {H : Hp} {q : Addr} {ss : List Int} (h : TupF H q (ss.map V.int)) : StkAt H q ss := let ⟨o, e, _⟩ := h; .inr ⟨o, e⟩
theorem kit_tupT {K : PySem.W.Frag} : PySem.W.kitOne K (.type "tuple") (.type "tuple") = some true := kit_ty (show kitB "tuple" "tuple" = some true by decide +kernel)
end PT

set_option maxHeartbeats 4000000
/-! data of any depth in the heap, empty dicts among them -/
namespace PT
open PySem PySem.Spec PyProof.Rows L2 LamX NdefX
mutual
/-- v stands for d -/
inductive DD (H : Hp) : V → PyData → Prop
  | non : DD H .non .none
  | bl (b : Bool) : DD H (.bl b) (.bool b)
  | int (i : Int) : DD H (.int i) (.int i)
  | str (x : Str) : DD H (.str x) (.str x)
  | dic {a : Addr} : H a = some (.dK []) → DD H (.ref a) (.dict [])
  | lst {a : Addr} {xs : List V} {ds : List PyData} : H a = some (.lst xs) → DDs H xs ds → DD H (.ref a) (.list ds)
  | tup {a : Addr} {xs : List V} {ds : List PyData} : H a = some (.tup xs) → DDs H xs ds → DD H (.ref a) (.tuple ds)
  | frz {a : Addr} {o : Obj} {xs : List V} {ds : List PyData} : H a = some (.frz o (.tup xs)) → DDs H xs ds → DD H (.ref a) (.tuple ds)
inductive DDs (H : Hp) : List V → List PyData → Prop
  | nil : DDs H [] []
  | cons {v : V} {d : PyData} {vs : List V} {ds : List PyData} : DD H v d → DDs H vs ds → DDs H (v :: vs) (d :: ds)
end
mutual
theorem DD.ext {H H' : Hp} (e : ExtN H H') : ∀ (d : PyData) (v : V), DD H v d → DD H' v d
  | .none, _, h => by cases h; exact .non
  | .bool b, _, h => by cases h; exact .bl b
  | .int i, _, h => by cases h; exact .int i
  | .str x, _, h => by cases h; exact .str x
  | .list ds, _, h => by
    cases h with
    | lst a b => exact .lst (extN_lst e a) (DDs.ext e ds _ b)
  | .tuple ds, _, h => by
    cases h with
    | tup a b => exact .tup (e _ _ a fun _ z => by cases z) (DDs.ext e ds _ b)
    | frz a b => exact .frz (e _ _ a fun _ z => by cases z) (DDs.ext e ds _ b)
  | .dict _, _, h => by
    cases h with
    | dic a => exact .dic (e _ _ a fun _ z => by cases z)
theorem DDs.ext {H H' : Hp} (e : ExtN H H') : ∀ (ds : List PyData) (vs : List V), DDs H vs ds → DDs H' vs ds
  | [], _, h => by cases h; exact .nil
  | d :: ds, _, h => by
    cases h with
    | cons a b => exact .cons (DD.ext e d _ a) (DDs.ext e ds _ b)
end
theorem DDs.len {H : Hp} : ∀ {xs : List V} {ds : List PyData}, DDs H xs ds → xs.length = ds.length
  | _, _, .nil => rfl
  | _, _, .cons _ b => by rw [List.length_cons, List.length_cons, b.len]
theorem DDs.app {H : Hp} : ∀ {xs ys : List V} {ds es : List PyData}, DDs H xs ds → DDs H ys es → DDs H (xs ++ ys) (ds ++ es)
  | _, _, _, _, .nil, k => k
  | _, _, _, _, .cons a b, k => .cons a (b.app k)
theorem DDs.take {H : Hp} : ∀ {xs : List V} {ds : List PyData} (n : Nat), DDs H xs ds → DDs H (xs.take n) (ds.take n)
  | _, _, 0, _ => .nil
  | _, _, n + 1, .nil => .nil
  | _, _, n + 1, .cons a b => .cons a (b.take n)
theorem DDs.drop {H : Hp} : ∀ {xs : List V} {ds : List PyData} (n : Nat), DDs H xs ds → DDs H (xs.drop n) (ds.drop n)
  | _, _, 0, h => h
  | _, _, n + 1, .nil => .nil
  | _, _, n + 1, .cons a b => b.drop n
theorem DDs.ints {H : Hp} : ∀ ns : List Int, DDs H (ns.map V.int) (ns.map PyData.int)
  | [] => .nil
  | n :: r => .cons (.int n) (DDs.ints r)
theorem DDs.mem {H : Hp} : ∀ {xs : List V} {ds : List PyData}, DDs H xs ds → ∀ x ∈ xs, ∃ d ∈ ds, DD H x d
  | _, _, .cons a b, x, h => by
    rcases List.mem_cons.mp h with rfl | h
    · exact ⟨_, List.mem_cons_self, a⟩
    · obtain ⟨d, hd, z⟩ := b.mem x h
      exact ⟨d, List.mem_cons_of_mem _ hd, z⟩
/-- its kind, where it is no locked tuple -/
theorem DD.tyx {K : PySem.W.Frag} {H : Hp} {v : V} {d : PyData} (h : DD H v d) : ∃ t, TyX K H v (.type t) := by
  cases h with
  | non => exact ⟨_, Kd.tyx .non⟩
  | bl b => exact ⟨_, Kd.tyx (.bl b)⟩
  | int i => exact ⟨_, Kd.tyx (.int i)⟩
  | str x => exact ⟨_, Kd.tyx (.str x)⟩
  | dic a => exact ⟨_, Kd.tyx (.dic a)⟩
  | lst a b => exact ⟨_, Kd.tyx (.lst a)⟩
  | tup a b => exact ⟨_, Kd.tyx (.tup a)⟩
  | frz a b => exact ⟨_, .fTuple a⟩
section
variable {X : Cx} {pins : List (Addr × Obj)} {σ : List (Option V)} {H : Hp} {st : Shared}
/-- the table of modules stands in the base: no tracked object is it -/
theorem not_sys (k : ∃ mm, X.base.Ns sysModules mm) (I : Inv X pins σ H st) {a : Addr} {o : HO} (h : H a = some o) : sysModules ≠ a := fun z => by
  obtain ⟨mm, u, es, ep, e, _⟩ := k
  have := (I.bs _ _ e).2
  rw [z, h] at this
  cases this
mutual
theorem DD.reads (k : ∃ mm, X.base.Ns sysModules mm) (I : Inv X pins σ H st) : ∀ (d : PyData) (v : V) (u : Value), DD H v d → RelV v u → ∃ as, Reads st.heap u d as ∧ sysModules ∉ as
  | .none, _, _, h, r => by cases h; cases r; exact ⟨_, .none, by simp⟩
  | .bool b, _, _, h, r => by cases h; cases r; exact ⟨_, .bool b, by simp⟩
  | .int i, _, _, h, r => by cases h; obtain ⟨t, rfl⟩ := r; exact ⟨_, .int i t, by simp⟩
  | .str x, _, _, h, r => by cases h; obtain ⟨t, rfl⟩ := r; exact ⟨_, .str x t, by simp⟩
  | .list ds, _, _, h, r => by
    cases h with
    | lst a b =>
      cases r
      obtain ⟨_, its, n, rv, ho⟩ := (show ObjOk X.prog X.w H st.heap _ (.lst _) from I.hok _ _ a)
      obtain ⟨as, z, ne⟩ := DDs.reads k I ds _ _ b rv
      exact ⟨_, .list ho rfl rfl z, by simp [ne, not_sys k I a]⟩
  | .tuple ds, _, _, h, r => by
    cases h with
    | tup a b =>
      cases r
      obtain ⟨its, rv, ⟨o, ho, hc, n, hd⟩, _⟩ := I.tuple (.inl (.inl a))
      obtain ⟨as, z, ne⟩ := DDs.reads k I ds _ _ b rv
      exact ⟨_, .tuple ho hc hd z, ne⟩
    | frz a b =>
      cases r
      obtain ⟨its, rv, ⟨o, ho, hc, n, hd⟩, _⟩ := I.tuple (.inl (.inr ⟨_, a⟩))
      obtain ⟨as, z, ne⟩ := DDs.reads k I ds _ _ b rv
      exact ⟨_, .tuple ho hc hd z, ne⟩
  | .dict _, _, _, h, r => by
    cases h with
    | dic q =>
      cases r
      obtain ⟨z, ne⟩ := dic_reads I q
      exact ⟨_, z, by simp [ne]⟩
theorem DDs.reads (k : ∃ mm, X.base.Ns sysModules mm) (I : Inv X pins σ H st) : ∀ (ds : List PyData) (vs : List V) (us : List Value), DDs H vs ds → Vals vs us → ∃ as, ReadsAll st.heap us ds as ∧ sysModules ∉ as
  | [], _, _, h, r => by cases h; cases r; exact ⟨_, .nil, by simp⟩
  | d :: ds, _, _, h, r => by
    cases h with
    | cons a b =>
      cases r with
      | cons r t =>
        obtain ⟨as, h1, n1⟩ := DD.reads k I d _ _ a r
        obtain ⟨bs, h2, n2⟩ := DDs.reads k I ds _ _ b t
        exact ⟨_, .cons h1 h2, by simp [n1, n2]⟩
end
/-- repr(v) of such data -/
def rReprDD : List V → Hp → VK → Prop := fun xs H Q => ∃ v d W, xs = [v] ∧ DD H v d ∧ Nice W 50 d ∧ W ≤ 270000 ∧ Q (.str d.shown) H
theorem call_reprDD (k : ∃ mm, X.base.Ns sysModules mm) (hg : X.A.guards = some []) (hu : X.A.units + 64 < cLine) : CallR X (.builtin "repr") rReprDD := by
  intro pins st σ H xs us Q I r h
  obtain ⟨v, d, W, rfl, hr, hn, hW, q⟩ := h
  obtain ⟨u, rfl, ru⟩ := vals1 r
  obtain ⟨as, hR, hs⟩ := DD.reads k I d v u hr ru
  have small := hn.shown hW
  have deep := hn.dp
  have fin : ∀ t, EP X pins σ Q (.str d.shown t) { st with toks := st.toks + 1 } := fun t => ⟨.str d.shown, H, I.tok _, ⟨t, rfl⟩, q⟩
  have go : ∀ {a : Addr}, Reads st.heap (.ref a) d as → wpAny (model X.prog X.w) X.A (call (.builtin "repr") [.ref a]) (EP X pins σ Q) X.xe st := fun hR =>
    repr_of_reads' hR hn.sh (fun _ => hs) hg (by omega) (fun _ _ z => z) (fun h' t tk hk => ⟨.str _, H, I.kept hk, ⟨t, rfl⟩, q⟩) small
  cases hR with
  | none => exact PySem.P.repr_of_none (fin _)
  | bool b => exact PySem.P.repr_of_bool (fin _)
  | int i t => exact PySem.P.repr_of_int (by have := hn.sh; simpa only [PyData.showable, decide_eq_true_eq] using this) (fin _)
  | str x t => exact PySem.P.repr_of_str (fin _) small
  | list a b c e => exact go (.list a b c e)
  | tuple a b c e => exact go (.tuple a b c e)
  | dict a b c e f => exact go (.dict a b c e f)
end
end PT

set_option maxHeartbeats 4000000
/-! a list comprehension where an exception is handled -/
namespace PT
open PySem PySem.Spec PyProof.Rows L2 L2H HotX

/-- the block's context; what the def has pinned stays pinned -/
abbrev blkH (X : Cx) (s : Shared) (H : Hp) (scope : Scope) (ce : Env) (fp : List Addr) : Cx := { X.blk s H scope ce fp with pn := X.pn }
theorem hot_blk {X : Cx} {s : Shared} {H : Hp} {scope : Scope} {ce : Env} {fp : List Addr} (h : HotC X) : HotC (blkH X s H scope ce fp) := h

section
variable {X : Cx} {pins : List (Addr × Obj)} {σ : L2.St} {H : Hp} {s : Shared}
/-- what the block begins with -/
theorem blk_hot {scope : Scope} {own : List (Str × Nat)} {fp : List Addr} (I : Inv X pins σ H s) (ok : BlkOk X.N X.env.scope scope own) (nd : X.N.Nodup) (hf : ∀ b ∈ fp, FpOk X pins H b ∧ b < s.heap.objs.size) :
    Inv (blkH X s H scope (compEnvC scope (cellsFrom (s.heap.objs.size + 1) scope.names (cloFrom X.env.cells scope.names [])) s.heap.objs.size X.env) fp) [] (wipe σ (own.map Prod.snd)) H
      { s with heap := pushCells (s.heap.push { cls := .type "dict", data := .dict #[] }) scope.names } := by
  have B := block_start I ok nd hf
  have o := B.ok
  refine ⟨⟨o.mod, o.kind, o.glob, o.blt, o.above, o.inj, o.has, o.cab, o.hd, o.frames, o.stk, o.exf, o.bs, o.bsz, o.noex, o.exfs, o.funs, o.frf⟩, B.os, B.bare, B.base, B.loc, B.cell, B.free, B.freeC, ?_, B.hok, B.len⟩
  intro q hq
  have hq : q ∈ X.pn := by simpa using hq
  obtain ⟨g1, g2, g3, g4, g5⟩ := I.pin q (List.mem_append.mpr (.inl hq))
  refine ⟨pushCells_keeps _ _ _ _ (Heap.get?_push_of_some _ g1), g2, ?_, fun z => ?_, g5⟩
  · exact Nat.ne_of_lt (show q.1 < s.heap.objs.size from Heap.lt_size g1)
  · rcases List.mem_cons.mp (I.stkSub q.1 z) with e | e
    · exact g3 e
    · exact g4 e

/-- the core: the block over a walk that a handled exception does not disturb -/
theorem lc_hot {Q : VK} {elt tg iter : Expr} {ifs : List Expr} {scope : Scope} {own : List (Str × Nat)} {pos pos' : Pos} {wi : TI} {g : TG} {tt : TT} {te : TE} {use : Option (Value → Sem Unit)} {Qf : Value → Shared → Prop}
    (hot : HotC X) (nd : X.N.Nodup) (I : Inv X pins σ H s) (walk : PIH X tg iter wi) (ok : BlkOk X.N X.env.scope scope own)
    (pg : ∀ (s : Shared) (H : Hp) (C : Addr) (cl : List (Str × Addr)) (fp : List Addr), PG (blkH X s H scope (compEnvC scope cl C X.env) fp) tg g)
    (pt : ∀ (s : Shared) (H : Hp) (C : Addr) (cl : List (Str × Addr)) (fp : List Addr), PTs (blkH X s H scope (compEnvC scope cl C X.env) fp) ifs tt)
    (pe : ∀ (s : Shared) (H : Hp) (C : Addr) (cl : List (Str × Addr)) (fp : List Addr), PE (blkH X s H scope (compEnvC scope cl C X.env) fp) elt te)
    (fold : ∀ x, foldedSetIterable iter X.env x = pure x) (rd : tLc wi g tt te (own.map Prod.snd) σ H Q)
    (back : ∀ D C s' m H', Inv X pins σ H' s' → Q (.ref D) H' → s'.heap.Ns C m → FpOk X pins H' C → compPost (model X.prog X.w) X.A X.xe use Qf (.ref D) C (.ok .next) s') :
    wpAny (model X.prog X.w) X.A (comprehension (.ListComp elt [⟨tg, iter, ifs, 0⟩] scope pos) scope X.env pos' (newList []) false (eval iter X.env) use) Qf X.xe s := by
  have caught : ∀ y ∈ scope.names, y.2 = .free → ∃ c, X.env.cells.lookup y.1 = some c := fun y hy e => (ok.free y hy e).elim (fun k => I.ok.has _ (.inl k)) fun k => I.ok.has _ (.inr k)
  refine wpAny_comprehension_free (use := use) rfl fold (closure_ok caught) ok.kind (fun y hy e => by rw [ok.uniq y hy, e]) (thn (walk.run pins s σ H _ I rd) fun xv s1 h1 => thn h1 fun iv s2 h2 => ?_)
  obtain ⟨it, fp, tn, J, H2, rfl, I2, T, at2, fp2, rest⟩ := h2
  refine wpAny_newObj_type (newEnv_comp ?_) (Nat.zero_le sizeLine)
  -- the list that grows
  obtain ⟨D, eD⟩ : ∃ D, D = s2.heap.objs.size := ⟨_, rfl⟩
  rw [← eD]
  have freeD : H2 D = none := I2.hok.fresh (Nat.le_of_eq eD.symm)
  obtain ⟨W, ⟨m0, w0⟩, turn⟩ := rest D freeD
  obtain ⟨s3, e3⟩ : ∃ s3 : Shared, s3 = { s2 with heap := s2.heap.push { cls := .type "list", data := .seq ([] : List Value).toArray } } := ⟨_, rfl⟩
  have I3 : Inv X pins σ (upd H2 D (.lst [])) s3 := by
    subst e3
    refine I2.laid (t' := s2.toks) (fun b o e => Heap.get?_push_of_some _ e) (Nat.le_of_eq eD.symm) ⟨Nat.zero_le _, [], 0, .nil, ?_⟩
    subst eD
    exact Heap.get?_push_size _ rfl
  have h3 : s3.heap = s2.heap.push { cls := .type "list", data := .seq ([] : List Value).toArray } := congrArg Shared.heap e3
  have below : ∀ b ∈ fp, b < s2.heap.objs.size := fun b hb => (T.obj _ _ at2 b hb).elim fun o ho => Heap.lt_size ho.1
  have fp3 : ∀ b ∈ fp, FpOk X pins (upd H2 D (.lst [])) b ∧ b < s3.heap.objs.size := fun b hb =>
    ⟨⟨(upd_ne (by rw [eD]; exact Nat.ne_of_lt (below b hb))).trans (fp2 b hb).1, (fp2 b hb).2⟩, by rw [h3, Heap.size_push]; exact Nat.lt_succ_of_lt (below b hb)⟩
  have at3 : tn 0 s3.heap := T.keep _ _ _ at2 fun b _ o e => by rw [h3]; exact Heap.get?_push_of_some _ e
  have I4 := blk_hot I3 ok nd fp3
  have pg := pg s3 (upd H2 D (.lst [])) s3.heap.objs.size (cellsFrom (s3.heap.objs.size + 1) scope.names (cloFrom X.env.cells scope.names [])) fp
  have pt := pt s3 (upd H2 D (.lst [])) s3.heap.objs.size (cellsFrom (s3.heap.objs.size + 1) scope.names (cloFrom X.env.cells scope.names [])) fp
  have pe := pe s3 (upd H2 D (.lst [])) s3.heap.objs.size (cellsFrom (s3.heap.objs.size + 1) scope.names (cloFrom X.env.cells scope.names [])) fp
  subst e3
  show codeAny _ _ (.compStart _ 0 (.ref it) (.ref D) (compEnvC scope (cellsFrom (({ s2 with heap := s2.heap.push { cls := .type "list", data := .seq ([] : List Value).toArray } } : Shared).heap.objs.size + 1) scope.names (cloFrom X.env.cells scope.names []))
    ({ s2 with heap := s2.heap.push { cls := .type "list", data := .seq ([] : List Value).toArray } } : Shared).heap.objs.size X.env)) (compPost (model X.prog X.w) X.A X.xe use Qf (.ref D) ({ s2 with heap := s2.heap.push { cls := .type "list", data := .seq ([] : List Value).toArray } } : Shared).heap.objs.size)
    { s2 with heap := pushCells (({ s2 with heap := s2.heap.push { cls := .type "list", data := .seq ([] : List Value).toArray } } : Shared).heap.push { cls := .type "dict", data := .dict #[] }) scope.names }
  obtain ⟨s3, e3⟩ : ∃ s3 : Shared, s3 = { s2 with heap := s2.heap.push { cls := .type "list", data := .seq ([] : List Value).toArray } } := ⟨_, rfl⟩
  rw [← e3] at I3 I4 pg pt pe h3 fp3 at3 ⊢
  obtain ⟨C, eC⟩ : ∃ C, C = s3.heap.objs.size := ⟨_, rfl⟩
  rw [← eC] at I4 pg pt pe ⊢
  obtain ⟨ce, ee⟩ : ∃ ce, ce = compEnvC scope (cellsFrom (C + 1) scope.names (cloFrom X.env.cells scope.names [])) C X.env := ⟨_, rfl⟩
  have cL : ce.locals = C := by rw [ee]; rfl
  rw [← ee] at I4 pg pt pe ⊢
  obtain ⟨H3, eH⟩ : ∃ H3, H3 = upd H2 D (.lst []) := ⟨_, rfl⟩
  rw [← eH] at I3 I4 pg pt pe w0 fp3
  have nfp : ∀ b ∈ fp, H3 b = none := fun b hb => (fp3 b hb).1.1
  have es : ({ s2 with heap := pushCells (s3.heap.push { cls := .type "dict", data := .dict #[] }) scope.names } : Shared) = { s3 with heap := pushCells (s3.heap.push { cls := .type "dict", data := .dict #[] }) scope.names } := by rw [e3]
  rw [es]
  obtain ⟨s4, e4⟩ : ∃ s4 : Shared, s4 = { s3 with heap := pushCells (s3.heap.push { cls := .type "dict", data := .dict #[] }) scope.names } := ⟨_, rfl⟩
  rw [← e4] at I4 ⊢
  have at4 : tn 0 s4.heap := T.keep _ _ _ at3 fun b _ o e => by rw [e4]; exact pushCells_keeps _ _ _ _ (Heap.get?_push_of_some _ e)
  -- the walk's own objects, anywhere in the block
  have own4 : ∀ {H' : Hp}, (∀ b ∈ fp, H' b = none) → ∀ b ∈ fp, FpOk (blkH X s3 H3 scope ce fp) [] H' b := fun {H'} n b hb =>
    ⟨n b hb, (I4.ok.exf b hb).1, I4.ok.exfs b hb, .inl hb, fun x c e => (I4.ok.exf b hb).2 x c e, fun q hq => (fp3 b hb).1.2.2.2.2.2 q (List.mem_append.mpr (.inl (by simpa using hq)))⟩
  have loop : codeAny (model X.prog X.w) X.A (.compLoop (.ListComp elt [⟨tg, iter, ifs, 0⟩] scope pos) 0 (.ref it) (.ref D) ce) (compPost (model X.prog X.w) X.A X.xe use Qf (.ref D) C) s4 := by
    refine compLoop_any (fun n s' => ∃ i H', Inv (blkH X s3 H3 scope ce fp) [] (wipe σ (own.map Prod.snd)) H' s' ∧ tn i s'.heap ∧ (∀ b ∈ fp, H' b = none) ∧ W i n H') ?_ m0 ⟨0, H3, I4, at4, nfp, w0⟩
    rintro n s5 ⟨i, H5, I5, at5, n5, w5⟩
    rcases turn i n H5 w5 with ⟨stop, q⟩ | ⟨go, Nx, next, step⟩
    · refine thnF (T.done (blkH X s3 H3 scope ce fp) rfl rfl rfl (hot_blk hot) i [] s5 _ H5 _ I5 (own4 n5) at5 stop) fun r s6 ⟨hr, I6⟩ => ?_
      subst hr
      have I7 : Inv X pins σ H5 s6 := I3.call' (ch := fp) I6.os I6.base I6.hok I6.bare fun b hb =>
        let z := (fp3 b hb).1
        ⟨z.2.2.2.1, z.2.1, z.2.2.2.2.1, z.2.2.2.2.2⟩
      have nC : H5 C = none := by rw [← cL]; exact I6.free
      obtain ⟨m, ns, _⟩ := I6.loc
      have ns : s6.heap.Ns ce.locals m := ns
      rw [cL] at ns
      exact back D C s6 m H5 I7 q ns (I3.fpOk (Nat.le_of_eq eC.symm) nC)
    · refine thnF (T.item (blkH X s3 H3 scope ce fp) rfl rfl rfl (hot_blk hot) i [] s5 _ H5 _ I5 (own4 n5) at5 go) fun r s6 ⟨u, hr, h6⟩ => ?_
      subst hr
      refine thnF h6 fun _ s7 ⟨x, H7, I7, r7, y7, at7, n7⟩ => ?_
      refine thnF (pg.run _ s7 _ H7 x u _ (I7.pinned (own4 n7) (T.obj _ _ at7)) r7 (step x H7 y7)) fun _ s8 ⟨σ8, H8, I8, hw, q8⟩ => ?_
      refine thnF (pt.run _ s8 σ8 H8 _ I8 q8) fun b s9 ⟨H9, I9, q9⟩ => ?_
      have close : ∀ {s' : Shared} {H' : Hp}, Inv (blkH X s3 H3 scope ce fp) ([] ++ pinsAt fp s7.heap) σ8 H' s' → Nx H' → ∃ m, m < n ∧ ∃ i H', Inv (blkH X s3 H3 scope ce fp) [] (wipe σ (own.map Prod.snd)) H' s' ∧ tn i s'.heap ∧ (∀ b ∈ fp, H' b = none) ∧ W i m H' := by
        intro s' H' I' nx
        obtain ⟨m', less, w'⟩ := next H' nx
        have pinned : ∀ b ∈ fp, ∀ o, s7.heap.get? b = some o → s'.heap.get? b = some o ∧ H' b = none := fun b hb o e =>
          have z := I'.pin (b, o) (List.mem_append.mpr (.inr (List.mem_append.mpr (.inr (mem_pinsAt hb e)))))
          ⟨z.1, z.2.1⟩
        refine ⟨m', less, i + 1, H', (I'.unpinned (pins := [])).weak ?_ (fun j v e => ?_), T.keep _ _ _ at7 fun b hb o e => (pinned b hb o e).1, fun b hb => ?_, w'⟩
        · rw [← hw, wipe_length]
        · rw [← hw] at e
          exact (wipe_some e).1
        · obtain ⟨o, e, _⟩ := T.obj _ _ at7 b hb
          exact (pinned b hb o e).2
      cases b with
      | false =>
        rw [if_neg (by decide)]
        rw [if_neg (by decide)] at q9
        exact close I9 q9
      | true =>
        rw [if_pos rfl]
        rw [if_pos rfl] at q9
        refine thnF (pe.run _ s9 σ8 H9 _ I9 q9) fun z sA ⟨yv, HA, IA, rA, acc, eA, small, nx⟩ => ?_
        exact app_ok (X := blkH X s3 H3 scope ce fp) IA eA small rA fun sB IB => close IB nx
  exact codeAny_compStart_list loop (T.self X.A 0 _ _ _ at4 loop)
/-- as a value -/
theorem pe_lcH {elt tg iter : Expr} {ifs : List Expr} {scope : Scope} {own : List (Str × Nat)} {pos : Pos} {wi : TI} {g : TG} {tt : TT} {te : TE} (hot : HotC X) (nd : X.N.Nodup) (walk : PIH X tg iter wi) (ok : BlkOk X.N X.env.scope scope own)
    (pg : ∀ (s : Shared) (H : Hp) (C : Addr) (cl : List (Str × Addr)) (fp : List Addr), PG (blkH X s H scope (compEnvC scope cl C X.env) fp) tg g)
    (pt : ∀ (s : Shared) (H : Hp) (C : Addr) (cl : List (Str × Addr)) (fp : List Addr), PTs (blkH X s H scope (compEnvC scope cl C X.env) fp) ifs tt)
    (pe : ∀ (s : Shared) (H : Hp) (C : Addr) (cl : List (Str × Addr)) (fp : List Addr), PE (blkH X s H scope (compEnvC scope cl C X.env) fp) elt te) (fold : ∀ x, foldedSetIterable iter X.env x = pure x := by intro _; rfl) :
    PE X (.ListComp elt [⟨tg, iter, ifs, 0⟩] scope pos) (tLc wi g tt te (own.map Prod.snd)) := by
  refine ⟨fun ps s σ H Q I rd => ?_⟩
  rw [eval_ListComp]
  refine lc_hot hot nd I walk ok pg pt pe fold rd fun D C s' m H' I' q ns ⟨f0, f1, f2, f3, f4, f5⟩ => ⟨m, ns, fun h'' sb => ?_⟩
  exact ⟨.ref D, H', I'.turned (t' := s'.toks) (fun b o ne e => (sb.2 b ne).trans e) f0 f1 f3 f4 f5, rfl, q⟩
/-- x = [..] on one row, x a local -/
theorem ps_setLcH {i : Nat} {y : Str} {py : Pos} {elt tg iter : Expr} {ifs : List Expr} {scope : Scope} {own : List (Str × Nat)} {pos spos : Pos} {wi : TI} {g : TG} {tt : TT} {te : TE} (hot : HotC X) (nd : X.N.Nodup) (hy : X.N[i]? = some y) (loc : X.env.scope.names.lookup y = some .local)
    (sw : swapsWith (.ListComp elt [⟨tg, iter, ifs, 0⟩] scope pos) (some (.Name y py)) spos.line X.env = pure true) (walk : PIH X tg iter wi) (ok : BlkOk X.N X.env.scope scope own)
    (pg : ∀ (s : Shared) (H : Hp) (C : Addr) (cl : List (Str × Addr)) (fp : List Addr), PG (blkH X s H scope (compEnvC scope cl C X.env) fp) tg g)
    (pt : ∀ (s : Shared) (H : Hp) (C : Addr) (cl : List (Str × Addr)) (fp : List Addr), PTs (blkH X s H scope (compEnvC scope cl C X.env) fp) ifs tt)
    (pe : ∀ (s : Shared) (H : Hp) (C : Addr) (cl : List (Str × Addr)) (fp : List Addr), PE (blkH X s H scope (compEnvC scope cl C X.env) fp) elt te) (fold : ∀ x, foldedSetIterable iter X.env x = pure x := by intro _; rfl) :
    PS X (.Assign [.Name y py] (.ListComp elt [⟨tg, iter, ifs, 0⟩] scope pos) spos) (tAsg (tLc wi g tt te (own.map Prod.snd)) (gName i)) := by
  refine ⟨fun ps s σ H D I rd => ?_⟩
  rw [exec_Assign_Name_used _ _ _ _ sw]
  refine wpAny_bind (wpAny_standAt (wpAny_bind (wpAny_bind (thn (lc_hot (Qf := fun _ s' => SP X ps D .next s') (Q := fun x H1 => gName i x σ H1 D.nx) hot nd I walk ok pg pt pe fold rd fun L C s' m H' I' q ns ⟨f0, f1, f2, f3, f4, f5⟩ => ?_) fun _ s' hq => wpAny_pure (wpAny_pure hq)))))
  show wpAny _ _ (assign (.Name y py) X.env (.ref L)) _ _ _
  refine wpAny_assign_Name (store_ok2 (v := V.ref L) I' nd hy (.inl loc) rfl (fun s2 I2 ⟨a, sb, ha⟩ => ?_) (.inr loc))
  have apart : C ≠ a := by
    rcases ha with z | z
    · exact z ▸ f1
    · exact fun e => f4 y a z e.symm
  exact ⟨m, ns.sameBut sb apart, fun h3 sb3 => ⟨_, H', I2.turned (t' := s2.toks) (fun b o ne e => (sb3.2 b ne).trans e) f0 f1 f3 f4 f5, q⟩⟩
end
end PT

set_option maxHeartbeats 2000000
/-! len(set(t)), t a tuple of any ints -/
namespace PT
open PySem PySem.Spec PyProof.Rows L2
theorem perm_of_sub : ∀ {L ns : List Int}, L.Nodup → (∀ x ∈ L, x ∈ ns) → ns.length ≤ L.length → L.Perm ns
  | [], ns, _, _, h => by
    have e : ns = [] := List.eq_nil_of_length_eq_zero (Nat.le_zero.mp h)
    rw [e]
  | x :: L, ns, nd, s, h => by
    obtain ⟨n1, n2⟩ := List.nodup_cons.mp nd
    have hx := s x List.mem_cons_self
    have le := List.length_erase_of_mem hx
    have l0 := List.length_pos_of_mem hx
    have ih := perm_of_sub (L := L) (ns := ns.erase x) n2 (fun y hy => (List.mem_erase_of_ne (fun z : y = x => n1 (by rw [← z]; exact hy))).mpr (s y (List.mem_cons_of_mem _ hy))) (by
      rw [le]
      have z : (x :: L).length = L.length + 1 := rfl
      omega)
    exact (List.Perm.cons x ih).trans (List.perm_cons_erase hx).symm
section
variable {X : Cx}
theorem setR_any {w : World} {h : Heap} {a : Addr} {ns : List Int} {c : Nat} (R : SetR w h a (fun j => decide (j ∈ ns)) c) : c = ns.length ↔ ns.Nodup := by
  refine ⟨fun e => ?_, setR_len R⟩
  obtain ⟨o, es, ep, t, ho, hx, hd, g, nk, hm, hb, hf, hn, _⟩ := R
  have p : (es.toList.map keyOf).Perm ns := perm_of_sub nk (fun k hk => by
    have z := (hm k).mpr hk
    exact of_decide_eq_true z) (by
    have q : es.toList.length = es.size := Array.length_toList
    rw [List.length_map]
    omega)
  exact p.nodup_iff.mp nk
def tLenSetG (K : PySem.W.Frag) (ta : TE) : TE := fun σ H Q => ta σ H fun x H1 => ∃ (l : Addr) (ns : List Int), x = .ref l ∧ SqT K H1 l (ns.map V.int) ∧ ns.length ≤ 1000 ∧ ∀ c : Nat, (c = ns.length ↔ ns.Nodup) → Q (.int (c : Nat)) H1
theorem pe_lenSetG {a : Expr} {ta : TE} {p p2 q pos : Pos} (hg : Gl X "len") (hm : X.mg "len" = none) (hg2 : Gl X "set") (hm2 : X.mg "set" = none) (ha : PE X a ta) (hc : X.calm = true := by rfl)
    (na : starEach [a] X.env = (false, eval a X.env) :: starEach [] X.env := by rfl) : PE X (.Call (.Name "len" p) [.Call (.Name "set" p2) [a] [] q] [] pos) (tLenSetG X.K ta) := by
  constructor
  intro pins st σ H Q I h
  refine Call_ (ld_blt I hg hm boot_len (PyProof.Rows.callWith_builtin1 (PyProof.Rows.args_cons ?_ rfl) rfl rfl))
  refine Call_ (ld_blt I hg2 hm2 boot_set (PyProof.Rows.callWith_type1 (PyProof.Rows.args_cons (thn (ha.run pins st σ H _ I h) fun v s1 ⟨x, H1, I1, r1, q1⟩ => PyProof.Rows.args_nil ?_) na) na rfl))
  obtain ⟨l, ns, rfl, hq, hl, q1⟩ := q1
  cases r1
  obtain ⟨its, r, pl, hz⟩ := I1.tuple hq
  have hi : IntsAre its.toArray.toList ns := by simpa using ints_of_vals r
  refine call_set_tupI ns (I1.ok.hd hc) pl hi (by unfold scanBound; omega) fun h' tk c R hcn hk => PyProof.Rows.args_nil ?_
  have ec := setR_any R
  have hcl : c ≤ ns.length := hcn
  obtain ⟨o, es, ep, t, ho, hx, hd, _, _, _, hb, hf, hn, _⟩ := R
  exact call_len_set ho hx hd hf (by omega) ⟨.int (c : Nat), H1, (I1.kept hk).tok _, ⟨_, by rw [hn]⟩, q1 c ec⟩
end
end PT

set_option maxHeartbeats 4000000
/-! defs that raise (the context of what they raise is none); what a class of errors is -/
namespace PT
open PySem PySem.Spec PyProof.Rows L2 L2H HotX
section
variable {Pg : Program} {wo : World} {K : PySem.W.Frag} {mg : Str → Option Value} {bs : Heap} {at_ : Addr} {fn : FuncData} {ps : List Str} {sp sp' : Sp}
theorem Fun.okN {name qual : Str} {st : Stmt} {N : List Str} {lv : Nat} (F : Fun K name qual st at_ fn) (S : FnScope N ps (defScope st)) (ln : ∀ vs H Q E, sp vs H Q E → vs.length = ps.length)
    (rd : ∀ (cdv : Value) (A : Around) (out : List Env) (s : Shared) (H : Hp) (vs : List V) (Q : VK) (E : XK), Room lv (A.deeper (envOfC qual (defScope st) s.heap.objs.size at_ cdv)) → sp vs H Q E →
      ∃ t, PSs (cxOf (L2N.CX Pg wo) Pg wo K mg bs N qual (defScope st) at_ cdv A out s H E) (defBody st) t ∧ t ⟨fun _ H2 => Q .non H2, Q, fun _ _ => False, fun _ _ => False⟩ (start N vs) H) :
    FnOk Pg wo K mg bs (L2N.CX Pg wo) (lv + 1) at_ fn ps sp := by
  obtain ⟨_, _, _, _, _, _, cdv, _, _, e, lk, cd⟩ := F.ex
  subst e
  exact fn_of lk cd S ln fun A out s H vs Q E room hs => rd cdv A out s H vs Q E room hs
/-- what lets nothing out lets nothing else out -/
theorem FnOk.quiet {CX : CXT} {lv : Nat} (F : FnOk Pg wo K mg bs CX0 lv at_ fn ps sp) : FnOk Pg wo K mg bs CX lv at_ fn ps sp := by
  refine ⟨F.len, fun A out st H given us vs Q E room en bd rv h => codeAny_mono (F.run A out st H given us vs Q E room en bd rv h) ?_⟩
  rintro (er | fl) st2 z
  · exact z.elim
  · cases fl <;> exact z
theorem FnOk.up {CX : CXT} {lv lw : Nat} (F : FnOk Pg wo K mg bs CX lv at_ fn ps sp) (le : lv ≤ lw) : FnOk Pg wo K mg bs CX lw at_ fn ps sp :=
  ⟨F.len, fun A out st H given us vs Q E room => F.run A out st H given us vs Q E (room.mono le)⟩
theorem FnOk.or {CX : CXT} {lv : Nat} (F : FnOk Pg wo K mg bs CX lv at_ fn ps sp) (G : FnOk Pg wo K mg bs CX lv at_ fn ps sp') : FnOk Pg wo K mg bs CX lv at_ fn ps (fun vs H Q E => sp vs H Q E ∨ sp' vs H Q E) :=
  ⟨fun vs H Q E h => h.elim (F.len vs H Q E) (G.len vs H Q E), fun A out st H given us vs Q E room en bd rv h => h.elim (F.run A out st H given us vs Q E room en bd rv) (G.run A out st H given us vs Q E room en bd rv)⟩
end
/-! ### the classes -/
/-- the j-th class, among all: what isinstance says of it, and that except P takes it -/
def errB (K : PySem.W.Frag) (P : Addr) (Cs : List Addr) (j : Nat) : Bool :=
  let D := Cs.getD j 0
  (PySem.W.clsIn K D).isSome && (PySem.W.findIn K (.ref D) "__getattribute__" == some (some (.builtin "BaseException.__getattribute__"))) && (PySem.W.findIn K (.ref D) "__getattr__").isSome && (PySem.W.subIn K (.ref D) (.type "BaseException") == some true) &&
    (PySem.W.findIn K (.ref D) "__class__" == some (some (.builtin "object.__class__"))) && (PySem.W.mroIn K D (.type "object") == some true) && (PySem.W.kitOne K (.ref D) (.type "ValueError") == some true) && (PySem.W.exmOne K (.ref D) (.ref P) == some true) &&
    (PySem.W.kitOne K (.ref D) (.ref P) == some true) && (List.range Cs.length).all fun i => PySem.W.kitOne K (.ref D) (.ref (Cs.getD i 0)) == some (i == j)
/-- what holds of every class object -/
def allB (K : PySem.W.Frag) : Bool :=
  (PySem.W.specialIn K (.builtin "object.__class__") "__get__" == some (some (.builtin "getset_descriptor.__get__"))) && (PySem.W.takesIn K (.builtin "object.__class__") == some true)
/-- all of them -/
structure Errs (K : PySem.W.Frag) (P : Addr) (Cs : List Addr) : Prop where
  all : allB K = true
  each : (List.range Cs.length).all (errB K P Cs) = true
theorem Errs.at {K : PySem.W.Frag} {P : Addr} {Cs : List Addr} (h : Errs K P Cs) {j : Nat} (lt : j < Cs.length) : errB K P Cs j = true := by
  have z := List.all_eq_true.mp h.each j (List.mem_range.mpr lt)
  exact z
theorem Errs.caught {K : PySem.W.Frag} {P : Addr} {Cs : List Addr} (h : Errs K P Cs) {j : Nat} (lt : j < Cs.length) : PySem.W.exmOne K (.ref (Cs.getD j 0)) (.ref P) = some true := by
  have z := h.at lt
  unfold errB at z
  simp only [Bool.and_eq_true, beq_iff_eq] at z
  exact z.1.1.2
theorem Errs.value {K : PySem.W.Frag} {P : Addr} {Cs : List Addr} (h : Errs K P Cs) {j : Nat} (lt : j < Cs.length) : PySem.W.kitOne K (.ref (Cs.getD j 0)) (.type "ValueError") = some true := by
  have z := h.at lt
  unfold errB at z
  simp only [Bool.and_eq_true, beq_iff_eq] at z
  exact z.1.1.1.2
theorem Errs.is {K : PySem.W.Frag} {P : Addr} {Cs : List Addr} (h : Errs K P Cs) {j i : Nat} (lt : j < Cs.length) (li : i < Cs.length) : PySem.W.kitOne K (.ref (Cs.getD j 0)) (.ref (Cs.getD i 0)) = some (i == j) := by
  have z := h.at lt
  unfold errB at z
  simp only [Bool.and_eq_true, beq_iff_eq] at z
  have y := List.all_eq_true.mp z.2 i (List.mem_range.mpr li)
  exact beq_iff_eq.mp y
theorem Errs.kit {K : PySem.W.Frag} {P : Addr} {Cs : List Addr} (h : Errs K P Cs) {j : Nat} (lt : j < Cs.length) {x : Addr} {ox : Obj} {od : Option Obj} : PySem.W.KitX K (.ref x) (.ref (Cs.getD j 0)) (fun hp => PySem.W.InstAt hp x ox (Cs.getD j 0) od) := by
  have z := h.at lt
  unfold errB at z
  simp only [Bool.and_eq_true, beq_iff_eq] at z
  obtain ⟨⟨⟨⟨⟨⟨⟨⟨⟨z1, z2⟩, z3⟩, z4⟩, z5⟩, z6⟩, z7⟩, z8⟩, z9⟩, z10⟩ := z
  have y := h.all
  unfold allB at y
  simp only [Bool.and_eq_true, beq_iff_eq] at y
  obtain ⟨gt, eg⟩ := Option.isSome_iff_exists.mp z3
  exact PySem.W.kitx_exc z1 z2 eg z4 z5 y.1 y.2 z6

/-! ### isinstance of the error that is handled -/
section
variable {X : Cx} {P a : Addr} {Cs : List Addr} {oe : Obj} {j : Nat}
/-- what is known of it -/
structure Held (X : Cx) (a : Addr) (oe : Obj) (D : Addr) (d : Option Addr) : Prop where
  pin : (a, oe) ∈ X.pn
  cls : L2N.Zn (.ref D) d oe
  fld : ∃ vs, oe.data = .fields vs
theorem Held.inst {pins : List (Addr × Obj)} {σ : L2.St} {H : Hp} {s : Shared} {D : Addr} {d : Option Addr} (h : Held X a oe D d) (I : Inv X pins σ H s) (hd : ∀ dx, d = some dx → ∃ u, s.heap.get? dx = some u) : ∃ od, PySem.W.InstAt s.heap a oe D od := by
  obtain ⟨at1, _⟩ := I.pin (a, oe) (List.mem_append.mpr (.inl h.pin))
  obtain ⟨vs, ev⟩ := h.fld
  obtain ⟨c1, c2, _⟩ := h.cls
  obtain ⟨oc, od0, dt, sl⟩ := oe
  dsimp only at c1 c2 ev
  subst c1 c2 ev
  cases od0 with
  | none => exact ⟨none, at1, rfl, rfl, trivial⟩
  | some dx =>
    obtain ⟨u, eu⟩ := hd dx rfl
    exact ⟨some u, at1, rfl, rfl, eu⟩
/-- one class -/
def rIsH (K : PySem.W.Frag) (a D : Addr) (d : Option Addr) : List V → Hp → VK → Prop := fun xs H Q => (∀ dx, d = some dx → ∃ fs, H dx = some (.xd fs)) ∧ ∃ (c : V) (cv : Value) (b : Bool), xs = [.ref a, c] ∧ ClsV c cv ∧ PySem.W.kitOne K (.ref D) cv = some b ∧ Q (.bl b) H
/-- a tuple of them, that was just laid -/
def rIsHT (K : PySem.W.Frag) (a D : Addr) (d : Option Addr) : List V → Hp → VK → Prop := fun xs H Q => (∀ dx, d = some dx → ∃ fs, H dx = some (.xd fs)) ∧ ∃ (tp : Addr) (cs : List V) (us : List Value) (b : Bool), xs = [.ref a, .ref tp] ∧ H tp = some (.tup cs) ∧ Paired ClsV cs us ∧ PySem.W.kitAny K (.ref D) us = some b ∧ Q (.bl b) H
theorem own_there {pins : List (Addr × Obj)} {σ : L2.St} {H : Hp} {s : Shared} {d : Option Addr} (I : Inv X pins σ H s) (n : ∀ dx, d = some dx → ∃ fs, H dx = some (.xd fs)) : ∀ dx, d = some dx → ∃ u, s.heap.get? dx = some u := fun dx e => by
  obtain ⟨fs, hx⟩ := n dx e
  obtain ⟨mA, h1, _⟩ := (show ObjOk X.prog X.w H s.heap dx (.xd fs) from I.hok dx _ hx)
  obtain ⟨o, _, _, e2, _⟩ := h1
  exact ⟨o, e2⟩
theorem call_isH {d : Option Addr} (G : Errs X.K P Cs) (lt : j < Cs.length) (h : Held X a oe (Cs.getD j 0) d) : CallR X (.builtin "isinstance") (rIsH X.K a (Cs.getD j 0) d) := by
  intro pins s σ H xs us Q I rv hw
  obtain ⟨hd, c, cv, b, rfl, kc, e, q⟩ := hw
  obtain ⟨u1, u2, rfl, r1, r2⟩ := vals2 rv
  cases (show u1 = Value.ref a from r1)
  cases kc.eq r2
  obtain ⟨od, J⟩ := h.inst I (own_there I hd)
  exact PySem.W.kia_one (G.kit lt) I.kIn J e (fun z => nomatch z) fun tk => ⟨.bl b, H, I.tok tk, rfl, q⟩
theorem call_isHT {d : Option Addr} (G : Errs X.K P Cs) (lt : j < Cs.length) (h : Held X a oe (Cs.getD j 0) d) : CallR X (.builtin "isinstance") (rIsHT X.K a (Cs.getD j 0) d) := by
  intro pins s σ H xs us Q I rv hw
  obtain ⟨hd, tp, cs, ws, b, rfl, hT, kc, e, q⟩ := hw
  obtain ⟨u1, u2, rfl, r1, r2⟩ := vals2 rv
  cases (show u1 = Value.ref a from r1)
  cases (show u2 = Value.ref tp from r2)
  obtain ⟨od, J⟩ := h.inst I (own_there I hd)
  obtain ⟨_, its, rvs, o, h1, h2, n, h3⟩ := (show ObjOk X.prog X.w H s.heap tp (.tup cs) from I.hok tp _ hT)
  cases ClsV.all kc rvs
  obtain ⟨oc, od2, dt, sl⟩ := o
  dsimp only at h2 h3
  subst h2 h3
  exact PySem.W.kia_tup (G.kit lt) I.kIn J h1 e (fun z => nomatch z) fun tk => ⟨.bl b, H, I.tok tk, rfl, q⟩
end

/-! ### defs that are given the error that is handled -/
/-- what such a def promises: a its address, c its class, d its own dict -/
structure FnE (Pg : Program) (wo : World) (K : PySem.W.Frag) (mg : Str → Option Value) (bs : Heap) (lv : Nat) (at_ : Addr) (fn : FuncData) (ps : List Str) (sp : Addr → Value → Option Addr → Sp) : Prop where
  len : ∀ a c d vs H Q E, sp a c d vs H Q E → vs.length = ps.length
  run : ∀ (A : Around) (out : List Env) (st : Shared) (H : Hp) (given : Args) (us : List Value) (vs : List V) (Q : VK) (E : XK) (p : Addr × Obj) (c : Value) (d : Option Addr),
    RoomH lv A → Hot1 A p → PinOk out H st p → L2N.Zn c d p.2 → Env0 Pg wo K mg bs A out st H → BindsTo st fn given (ps.zip us) → Vals vs us → sp p.1 c d vs H Q E →
      codeAny (model Pg wo) A (.call (.ref at_) given) (CR CX0 out Pg wo H st Q E) st
section
variable {Pg : Program} {wo : World} {K : PySem.W.Frag} {mg : Str → Option Value} {bs : Heap} {at_ : Addr} {fn : FuncData} {ps : List Str}
/-- from the reading of its body -/
theorem Fun.okE {name qual : Str} {st : Stmt} {N : List Str} {lv : Nat} {sp : Addr → Value → Option Addr → Sp} (F : Fun K name qual st at_ fn) (S : FnScope N ps (defScope st)) (ln : ∀ a c d vs H Q E, sp a c d vs H Q E → vs.length = ps.length)
    (rd : ∀ (cdv : Value) (A : Around) (out : List Env) (s : Shared) (H : Hp) (vs : List V) (Q : VK) (E : XK) (a : Addr) (oe : Obj) (c : Value) (d : Option Addr), Hot1 A (a, oe) → L2N.Zn c d oe → RoomH lv (A.deeper (envOfC qual (defScope st) s.heap.objs.size at_ cdv)) → sp a c d vs H Q E →
      ∃ t, PSs (cxH CX0 Pg wo K mg bs N qual (defScope st) at_ cdv A out s H E (a, oe)) (defBody st) t ∧ t ⟨fun _ H2 => Q .non H2, Q, fun _ _ => False, fun _ _ => False⟩ (start N vs) H) :
    FnE Pg wo K mg bs (lv + 1) at_ fn ps sp := by
  obtain ⟨_, _, _, _, _, _, cdv, _, _, e, lk, cd⟩ := F.ex
  subst e
  refine ⟨ln, fun A out s H given us vs Q E p c d room hot pin zn en bd rv hs => ?_⟩
  obtain ⟨a, oe⟩ := p
  have kin : K.In s.heap := en.mod.kin.keeps fun b o z => (en.bs b o z).1
  have nol : s.heap.NoLimit := en.mod.nolimit.keeps fun b o z => (en.bs b o z).1
  have kinds : ∀ y ∈ ps.zip us, (defScope st).names.lookup y.1 = some .local ∨ ((defScope st).names.lookup y.1 = some .cell ∧ ((cellsFrom (s.heap.objs.size + 1) (defScope st).names []).lookup y.1).isSome = true) := by
    rintro ⟨n, v⟩ hy
    exact (S.par n (List.of_mem_zip hy).1).imp id fun z => ⟨z, PySem.W.cellsFrom_some _ _ _ (.inl z)⟩
  refine codeAny_call_function room.depth (kin _ _ lk) rfl S.co S.gen rfl (PySem.W.codeRec_of kin cd) (bd _ _ _ _ (wpAny_newFunctionEnv_cells S.kind kinds fun env ee s1 x => ?_))
  subst ee
  refine ⟨nol.keeps x.toInCall.keep, codeAny_func ?_⟩
  obtain ⟨t, ht, hq⟩ := rd cdv A out s H vs Q E a oe c d hot zn (room.deeper _) hs
  have I : Inv (cxH CX0 Pg wo K mg bs N qual (defScope st) at_ cdv A out s H E (a, oe)) [] (start N vs) H s1 := inv_startH S pin en (ln _ _ _ _ _ _ _ hs) rv x
  refine wpAny_mono (ht.run [] s1 (start N vs) H _ I hq) (fun fl s2 z => ?_) fun _ _ z => z
  cases fl with
  | ret u =>
    obtain ⟨v, σ2, H2, J, rr, q⟩ := z
    exact ⟨v, H2, J.os, J.bare, J.base, J.hok, rr, q⟩
  | next =>
    obtain ⟨σ2, H2, J, q⟩ := z
    exact ⟨V.non, H2, J.os, J.bare, J.base, J.hok, rfl, q⟩
  | brk =>
    obtain ⟨_, _, _, q⟩ := z
    cases q
  | cont =>
    obtain ⟨_, _, _, q⟩ := z
    cases q
end
section
variable {X : Cx} {lv : Nat} {at_ : Addr} {fn : FuncData} {ps : List Str} {sp : Addr → Value → Option Addr → Sp}
/-- f(e, ..) in the suite that handles e -/
def tCallE (sp : Addr → Value → Option Addr → Sp) (a : Addr) (c : Value) (d : Option Addr) (t : TA) : TE := fun σ H Q => t σ H fun vs H1 => sp a c d vs H1 Q E0
theorem pe_callE {a : Addr} {oe : Obj} {c : Value} {d : Option Addr} {name : Str} {p1 p2 : Pos} {a1 : Expr} {rest : List Expr} {t : TA} (F : FnE X.prog X.w X.K X.mg X.base lv at_ fn ps sp) (room : RoomH lv X.A) (hot : Hot1 X.A (a, oe)) (pin : (a, oe) ∈ X.pn) (zn : L2N.Zn c d oe)
    (gl : Gl X name) (is : X.mg name = some (.ref at_)) (kp : PySem.W.keepIn X.K (.ref at_) = true) (bd : Binds X.K fn ps []) (hargs : PA X (a1 :: rest) t)
    (c1 : (name == ("__debug__" : Str)) = false := by decide) (c2 : starEach (a1 :: rest) X.env = (false, eval a1 X.env) :: starEach rest X.env := by rfl)
    (c3 : (backTo p2 (starEach rest X.env)).any (·.1) = false := by rfl) : PE X (.Call (.Name name p1) (a1 :: rest) [] p2) (tCallE sp a c d t) := by
  constructor
  intro pins st σ H Q J h
  refine wpAny_Call_Name_kw (ld_glob J gl is (PySem.W.callWith_K (h₀ := X.base) J.ok.mod.kin kp (thn (hargs.run p2 pins st σ H _ J h) ?_) c2 c3) c1)
  rintro us st2 ⟨vs, H2, J2, rv, q⟩
  refine ⟨J2.kIn, ?_⟩
  have count : us.length = ps.length := rv.length.symm.trans (F.len _ _ _ _ _ _ _ q)
  have b := bd st2 us J2.kIn (by rw [List.append_nil]; exact count)
  rw [List.append_nil] at b
  obtain ⟨g1, g2, g3, g4, g5⟩ := J2.pin (a, oe) (List.mem_append.mpr (.inl pin))
  have pok : PinOk X.stack H2 st2 (a, oe) := ⟨g1, g2, fun z => (List.mem_cons.mp (J2.stkSub a z)).elim g3 g4, g5⟩
  refine wpAny_call (codeAny_mono (F.run X.A X.stack st2 H2 ⟨us, []⟩ us vs Q E0 (a, oe) c d room hot pok zn J2.env0 b rv q) ?_)
  rintro (er | fl) st3 z
  · exact z.elim
  · cases fl <;> first | exact J2.after z | exact z.elim
end
end PT

set_option maxHeartbeats 4000000
/-! the text of the law, by places -/
namespace PT
open PySem PySem.Spec PyProof.Rows L2
def topS (i : Nat) : Stmt := PySem.Challenge.pw_pulltree_k54_plants_not_shown.main.body.getD i (.Pass ⟨0, 0, 0, 0⟩)
abbrev sIsInteger : Stmt := topS 18
theorem scIsInteger : FnScope ["value"] ["value"] (defScope sIsInteger) := ⟨rfl, rfl, rfl, by decide +kernel, rfl, by decide +kernel, by decide +kernel⟩
abbrev sFitsPlant : Stmt := topS 19
theorem scFitsPlant : FnScope ["value", "greatest", "above"] ["value"] (defScope sFitsPlant) := ⟨rfl, rfl, rfl, by decide +kernel, rfl, by decide +kernel, by decide +kernel⟩
abbrev sFitsStock : Stmt := topS 20
theorem scFitsStock : FnScope ["plant", "value", "box"] ["plant", "value"] (defScope sFitsStock) := ⟨rfl, rfl, rfl, by decide +kernel, rfl, by decide +kernel, by decide +kernel⟩
abbrev sCheckPlant : Stmt := topS 21
theorem scCheckPlant : FnScope ["plant"] ["plant"] (defScope sCheckPlant) := ⟨rfl, rfl, rfl, by decide +kernel, rfl, by decide +kernel, by decide +kernel⟩
abbrev sCheckStock : Stmt := topS 22
theorem scCheckStock : FnScope ["plant", "stock"] ["plant", "stock"] (defScope sCheckStock) := ⟨rfl, rfl, rfl, by decide +kernel, rfl, by decide +kernel, by decide +kernel⟩
abbrev sShowPlant : Stmt := topS 24
theorem scShowPlant : FnScope ["plant", "stock", "customers", "station", "box"] ["plant", "stock"] (defScope sShowPlant) := ⟨rfl, rfl, rfl, by decide +kernel, rfl, by decide +kernel, by decide +kernel⟩
abbrev sLawFount : Stmt := topS 26
theorem scLawFount : FnScope ["script", "k", "cell"] ["script", "k"] (defScope sLawFount) := ⟨rfl, rfl, rfl, by decide +kernel, rfl, by decide +kernel, by decide +kernel⟩
abbrev sLawSip : Stmt := topS 27
theorem scLawSip : FnScope ["fount", "many", "found", "mixed"] ["fount", "many"] (defScope sLawSip) := ⟨rfl, rfl, rfl, by decide +kernel, rfl, by decide +kernel, by decide +kernel⟩
abbrev sLawMixed : Stmt := topS 28
theorem scLawMixed : FnScope ["fount", "items", "left", "turn"] ["fount", "items"] (defScope sLawMixed) := ⟨rfl, rfl, rfl, by decide +kernel, rfl, by decide +kernel, by decide +kernel⟩
abbrev sLawGrown : Stmt := topS 29
theorem scLawGrown : FnScope ["fount", "most", "count", "way", "found", "station", "any_one"] ["fount", "most"] (defScope sLawGrown) := ⟨rfl, rfl, rfl, by decide +kernel, rfl, by decide +kernel, by decide +kernel⟩
abbrev sLawFilled : Stmt := topS 30
theorem scLawFilled : FnScope ["fount", "plant", "count", "style", "way", "last", "at", "found", "wide"] ["fount", "plant"] (defScope sLawFilled) := ⟨rfl, rfl, rfl, by decide +kernel, rfl, by decide +kernel, by decide +kernel⟩
abbrev sLawKind : Stmt := topS 31
theorem scLawKind : FnScope ["caught", "some", "found", "name", "so"] ["caught"] (defScope sLawKind) := ⟨rfl, rfl, rfl, by decide +kernel, rfl, by decide +kernel, by decide +kernel⟩
abbrev sLawTried : Stmt := topS 32
theorem scLawTried : FnScope ["plant", "boxes", "e"] ["plant", "boxes"] (defScope sLawTried) := ⟨rfl, rfl, rfl, by decide +kernel, rfl, by decide +kernel, by decide +kernel⟩
abbrev sLawNoPlants : Stmt := topS 33
theorem scLawNoPlants : FnScope ["fount", "plant", "at", "odd", "found", "one"] ["fount", "plant"] (defScope sLawNoPlants) := ⟨rfl, rfl, rfl, by decide +kernel, rfl, by decide +kernel, by decide +kernel⟩
abbrev sLaw : Stmt := topS 34
theorem scLaw : FnScope ["script", "k", "fount", "plant", "boxes", "bad", "at", "kept", "value", "many", "one"] ["script"] (defScope sLaw) := ⟨rfl, rfl, rfl, by decide +kernel, rfl, by decide +kernel, by decide +kernel⟩
/-- where the defs stand behind the top, and which names are still the built-in ones -/
structure Tx (K : PySem.W.Frag) (mg : Str → Option Value) where
  f_is_integer : Addr
  d_is_integer : FuncData
  f_fits_plant : Addr
  d_fits_plant : FuncData
  f_fits_stock : Addr
  d_fits_stock : FuncData
  f_check_plant : Addr
  d_check_plant : FuncData
  f_check_stock : Addr
  d_check_stock : FuncData
  f_show_plant : Addr
  d_show_plant : FuncData
  f__law_fount : Addr
  d__law_fount : FuncData
  f__law_sip : Addr
  d__law_sip : FuncData
  f__law_mixed : Addr
  d__law_mixed : FuncData
  f__law_grown : Addr
  d__law_grown : FuncData
  f__law_filled : Addr
  d__law_filled : FuncData
  f__law_kind : Addr
  d__law_kind : FuncData
  f__law_tried : Addr
  d__law_tried : FuncData
  f__law_no_plants : Addr
  d__law_no_plants : FuncData
  t_MOST_STATIONS : Tok
  x_PlantError : Addr
  x_NoPlant : Addr
  x_NoStation : Addr
  x_NoStock : Addr
  x_NoPattern : Addr
  x_NoDays : Addr
  x_NoBox : Addr
  x_NotOrdered : Addr
  x_NoWords : Addr
  x_NoNumber : Addr
  x_Full : Addr
  x_Nothing : Addr
  x_NoText : Addr
  x_NoRow : Addr
  x_TooMany : Addr
  F_is_integer : Fun K "is_integer" "is_integer" sIsInteger f_is_integer d_is_integer
  b_is_integer : Binds K d_is_integer ["value"] []
  g_is_integer : mg "is_integer" = some (.ref f_is_integer)
  F_fits_plant : Fun K "fits_plant" "fits_plant" sFitsPlant f_fits_plant d_fits_plant
  b_fits_plant : Binds K d_fits_plant ["value"] []
  g_fits_plant : mg "fits_plant" = some (.ref f_fits_plant)
  F_fits_stock : Fun K "fits_stock" "fits_stock" sFitsStock f_fits_stock d_fits_stock
  b_fits_stock : Binds K d_fits_stock ["plant", "value"] []
  g_fits_stock : mg "fits_stock" = some (.ref f_fits_stock)
  F_check_plant : Fun K "check_plant" "check_plant" sCheckPlant f_check_plant d_check_plant
  b_check_plant : Binds K d_check_plant ["plant"] []
  g_check_plant : mg "check_plant" = some (.ref f_check_plant)
  F_check_stock : Fun K "check_stock" "check_stock" sCheckStock f_check_stock d_check_stock
  b_check_stock : Binds K d_check_stock ["plant", "stock"] []
  g_check_stock : mg "check_stock" = some (.ref f_check_stock)
  F_show_plant : Fun K "show_plant" "show_plant" sShowPlant f_show_plant d_show_plant
  b_show_plant : Binds K d_show_plant ["plant", "stock"] []
  g_show_plant : mg "show_plant" = some (.ref f_show_plant)
  F__law_fount : Fun K "_law_fount" "_law_fount" sLawFount f__law_fount d__law_fount
  b__law_fount : Binds K d__law_fount ["script", "k"] []
  g__law_fount : mg "_law_fount" = some (.ref f__law_fount)
  F__law_sip : Fun K "_law_sip" "_law_sip" sLawSip f__law_sip d__law_sip
  b__law_sip : Binds K d__law_sip ["fount", "many"] []
  g__law_sip : mg "_law_sip" = some (.ref f__law_sip)
  F__law_mixed : Fun K "_law_mixed" "_law_mixed" sLawMixed f__law_mixed d__law_mixed
  b__law_mixed : Binds K d__law_mixed ["fount", "items"] []
  g__law_mixed : mg "_law_mixed" = some (.ref f__law_mixed)
  F__law_grown : Fun K "_law_grown" "_law_grown" sLawGrown f__law_grown d__law_grown
  b__law_grown : Binds K d__law_grown ["fount", "most"] []
  g__law_grown : mg "_law_grown" = some (.ref f__law_grown)
  F__law_filled : Fun K "_law_filled" "_law_filled" sLawFilled f__law_filled d__law_filled
  b__law_filled : Binds K d__law_filled ["fount", "plant"] []
  g__law_filled : mg "_law_filled" = some (.ref f__law_filled)
  F__law_kind : Fun K "_law_kind" "_law_kind" sLawKind f__law_kind d__law_kind
  b__law_kind : Binds K d__law_kind ["caught"] []
  g__law_kind : mg "_law_kind" = some (.ref f__law_kind)
  F__law_tried : Fun K "_law_tried" "_law_tried" sLawTried f__law_tried d__law_tried
  b__law_tried : Binds K d__law_tried ["plant", "boxes"] []
  g__law_tried : mg "_law_tried" = some (.ref f__law_tried)
  F__law_no_plants : Fun K "_law_no_plants" "_law_no_plants" sLawNoPlants f__law_no_plants d__law_no_plants
  b__law_no_plants : Binds K d__law_no_plants ["fount", "plant"] []
  g__law_no_plants : mg "_law_no_plants" = some (.ref f__law_no_plants)
  g_MOST_STATIONS : mg "MOST_STATIONS" = some (.int 40 t_MOST_STATIONS)
  n_ValueError : mg "ValueError" = none
  n_all : mg "all" = none
  n_bool : mg "bool" = none
  n_int : mg "int" = none
  n_isinstance : mg "isinstance" = none
  n_len : mg "len" = none
  n_list : mg "list" = none
  n_max : mg "max" = none
  n_min : mg "min" = none
  n_range : mg "range" = none
  n_repr : mg "repr" = none
  n_set : mg "set" = none
  n_str : mg "str" = none
  n_tuple : mg "tuple" = none
  n_zip : mg "zip" = none
  X_PlantError : ExcC K mg "PlantError" x_PlantError
  X_NoPlant : ExcC K mg "NoPlant" x_NoPlant
  X_NoStation : ExcC K mg "NoStation" x_NoStation
  X_NoStock : ExcC K mg "NoStock" x_NoStock
  X_NoPattern : ExcC K mg "NoPattern" x_NoPattern
  X_NoDays : ExcC K mg "NoDays" x_NoDays
  X_NoBox : ExcC K mg "NoBox" x_NoBox
  X_NotOrdered : ExcC K mg "NotOrdered" x_NotOrdered
  X_NoWords : ExcC K mg "NoWords" x_NoWords
  X_NoNumber : ExcC K mg "NoNumber" x_NoNumber
  X_Full : ExcC K mg "Full" x_Full
  X_Nothing : ExcC K mg "Nothing" x_Nothing
  X_NoText : ExcC K mg "NoText" x_NoText
  X_NoRow : ExcC K mg "NoRow" x_NoRow
  g_TooMany : mg "TooMany" = some (.ref x_TooMany)
  E_all : Errs K x_PlantError [x_NoPlant, x_NoStation, x_NoStock, x_NoPattern, x_NoDays, x_NoBox, x_NotOrdered, x_NoWords, x_NoNumber, x_TooMany, x_Full, x_Nothing, x_NoText, x_NoRow]
/-- all classes of errors, in their order -/
abbrev Tx.errs {K : PySem.W.Frag} {mg : Str → Option Value} (T : Tx K mg) : List Addr := [T.x_NoPlant, T.x_NoStation, T.x_NoStock, T.x_NoPattern, T.x_NoDays, T.x_NoBox, T.x_NotOrdered, T.x_NoWords, T.x_NoNumber, T.x_TooMany, T.x_Full, T.x_Nothing, T.x_NoText, T.x_NoRow]
end PT

set_option maxHeartbeats 4000000
/-! where an exception is handled: a walk over a list, over zip of two lists; a tuple taken apart -/
namespace PT
open PySem PySem.Spec PyProof.Rows L2 L2H HotX
section
variable {prog : Program} {w : World} {A : Around} {E : Value → Shared → Prop} {s : Shared}
/-- the end of a walk, said while x1 is handled -/
theorem stop_hot {α : Type} {x1 : Addr} {Q : α → Shared → Prop} (hot : HotAt A x1 s.heap)
    (hE : ∀ h' e, (∀ b o, s.heap.get? b = some o → h'.get? b = some o) → (∃ o, h'.get? e = some o ∧ o.cls = .type "StopIteration") → E (.ref e) { s with heap := h' }) :
    wpAny (model prog w) A ((newExc (.type "StopIteration") [] >>= fun e => raiseNew e) : Sem α) Q E s := by
  obtain ⟨hh, o1, vs1, h1, d1, c1⟩ := hot
  refine wpAny_bind ?_
  simp only [newExc, newTuple]
  refine wpAny_bind (wpAny_newObj_type (wpAny_bind (m := firstArgMember _ _) (wpAny_of_eq (a := Value.none) (by simp only [firstArgMember]; rfl) (wpAny_newObj_type ?_ (by size_fits)))) (by size_fits))
  have up := Heap.get?_push_of_some { cls := .type "tuple", data := .seq #[] } h1
  refine raiseNew_hot ⟨hh, o1, vs1, Heap.get?_push_of_some _ up, d1, c1⟩ (Nat.ne_of_lt (Heap.lt_size up)) (Heap.get?_push_size _ rfl) rfl (by simp; omega) ?_
  refine hE _ _ (fun b o e => ?_) ⟨_, Heap.get?_update_self _ (Heap.get?_push_size _ rfl) rfl, rfl⟩
  have e2 := Heap.get?_push_of_some { cls := .type "tuple", data := .seq #[] } e
  exact (Heap.get?_update_other _ _ (Nat.ne_of_gt (Heap.lt_size e2))).trans (Heap.get?_push_of_some _ e2)
/-- what stands apart from an object that is set stays handled -/
theorem hot_upd {x1 it : Addr} {f : Obj → Obj} (hot : HotAt A x1 s.heap) (ne : x1 ≠ it) : HotAt A x1 (s.heap.update it f) := by
  obtain ⟨hh, o1, vs1, h1, d1, c1⟩ := hot
  exact ⟨hh, o1, vs1, (Heap.get?_update_other _ _ (Ne.symm ne)).trans h1, d1, c1⟩
theorem hot_push {x1 : Addr} {o : Obj} (hot : HotAt A x1 s.heap) : HotAt A x1 (s.heap.push o) := by
  obtain ⟨hh, o1, vs1, h1, d1, c1⟩ := hot
  exact ⟨hh, o1, vs1, Heap.get?_push_of_some _ h1, d1, c1⟩
/-- a list's walk has come to its end: `zip` asks -/
theorem ask_list_end {x1 it l : Addr} {i : Nat} {items : Array Value} {Q : Value → Shared → Prop} (hot : HotAt A x1 s.heap) (ne : x1 ≠ it) (hit : s.heap.IsListIter it l i) (hl : s.heap.IsList l items) (hx : items[i]? = none)
    (hE : ∀ h' e, (∀ b o, b ≠ it → s.heap.get? b = some o → h'.get? b = some o) → (∃ o, h'.get? e = some o ∧ o.cls = .type "StopIteration") → E (.ref e) { s with heap := h' }) :
    wpAny (model prog w) A (Builtin.SmallTypes.nextOf (.ref it)) Q E s := by
  obtain ⟨o, ho, hc, hd⟩ := id hit
  obtain ⟨ol, hol, _, nl, hdl⟩ := hl
  unfold Builtin.SmallTypes.nextOf
  refine wpAny_bind (wpAny_callSpecial?_slot (name := Str.ofString "__next__") hit.typeIs slot_listiter_next (wpAny_call_entry slot_listiter_next hit.typeIs entry_listiter_next ?_ (args_listiter_next _)))
  show wpAny _ _ (field (.ref it) 0 >>= _) _ _ s
  refine wpAny_bind (wpAny_field ho hd (x := .ref l) rfl ?_)
  show wpAny _ _ (if (Value.ref l == .none) = true then _ else _) _ _ _
  rw [if_neg (show ¬ ((Value.ref l == Value.none) = true) by exact Bool.false_ne_true)]
  show wpAny _ _ (field (.ref it) 1 >>= _) _ _ s
  refine wpAny_bind (wpAny_field (x := .int i 0) ho hd rfl ?_)
  show wpAny _ _ (seqItems? _ >>= _) _ _ s
  refine wpAny_bind (wpAny_seqItems hol hdl ?_)
  simp only [Int.toNat_natCast, hx]
  exact wpAny_bind (wpAny_rule (wpAny_bind (wpAny_setField ho hd (by simp) (stop_hot (hot_upd hot ne) fun h' e k q => hE h' e (fun b ob nb e' => k b ob ((Heap.get?_update_other _ _ (Ne.symm nb)).trans e')) q))))
/-- a list's walk has come to its end -/
theorem next_list_end {x1 it l : Addr} {i : Nat} {items : Array Value} {Q : Option Value → Shared → Prop} (hot : HotAt A x1 s.heap) (ne : x1 ≠ it) (hit : s.heap.IsListIter it l i) (hl : s.heap.IsList l items) (hx : items[i]? = none)
    (hQ : ∀ h', (∀ b o, b ≠ it → s.heap.get? b = some o → h'.get? b = some o) → Q none { s with heap := h' }) : wpAny (model prog w) A (pyNext (.ref it)) Q E s := by
  obtain ⟨o, ho, hc, hd⟩ := id hit
  obtain ⟨ol, hol, _, nl, hdl⟩ := hl
  unfold pyNext
  refine wpAny_bind (wpAny_attempt (wpAny_callSpecial?_slot (name := Str.ofString "__next__") hit.typeIs slot_listiter_next (wpAny_call_entry slot_listiter_next hit.typeIs entry_listiter_next ?_ (args_listiter_next _))))
  show wpAny _ _ (field (.ref it) 0 >>= _) _ _ s
  refine wpAny_bind (wpAny_field ho hd (x := .ref l) rfl ?_)
  show wpAny _ _ (if (Value.ref l == .none) = true then _ else _) _ _ _
  rw [if_neg (show ¬ ((Value.ref l == Value.none) = true) by exact Bool.false_ne_true)]
  show wpAny _ _ (field (.ref it) 1 >>= _) _ _ s
  refine wpAny_bind (wpAny_field (x := .int i 0) ho hd rfl ?_)
  show wpAny _ _ (seqItems? _ >>= _) _ _ s
  refine wpAny_bind (wpAny_seqItems hol hdl ?_)
  simp only [Int.toNat_natCast, hx]
  refine wpAny_bind (wpAny_rule (wpAny_bind (wpAny_setField ho hd (by simp) (stop_hot (hot_upd hot ne) fun h' e k ⟨q, e1, e2⟩ => ?_))))
  refine wpAny_bind (wpAny_isInstance (T := "StopIteration") (b := true) ⟨q, e1, e2⟩ isSubtype_stop (wpAny_pure ?_))
  exact hQ h' fun b ob nb e' => k b ob ((Heap.get?_update_other _ _ (Ne.symm nb)).trans e')
/-- a tuple's walk has come to its end -/
theorem next_tup_end {x1 it t : Addr} {i : Nat} {items : Array Value} {Q : Option Value → Shared → Prop} (hot : HotAt A x1 s.heap) (ne : x1 ≠ it) (hit : IsTupIter s.heap it t i) (ht : IsTup s.heap t items) (hx : items[i]? = none)
    (hQ : ∀ h', (∀ b o, b ≠ it → s.heap.get? b = some o → h'.get? b = some o) → Q none { s with heap := h' }) : wpAny (model prog w) A (pyNext (.ref it)) Q E s := by
  obtain ⟨o, ho, hc, hd⟩ := id hit
  obtain ⟨ol, hol, _, nl, hdl⟩ := ht
  unfold pyNext
  refine wpAny_bind (wpAny_attempt (wpAny_callSpecial?_slot (name := Str.ofString "__next__") hit.typeIs slot_tupleiter_next (wpAny_call_entry slot_tupleiter_next hit.typeIs entry_tupleiter_next ?_ (args_tupleiter_next _))))
  show wpAny _ _ (field (.ref it) 0 >>= _) _ _ s
  refine wpAny_bind (wpAny_field ho hd (x := .ref t) rfl ?_)
  show wpAny _ _ (if (Value.ref t == .none) = true then _ else _) _ _ _
  rw [if_neg (show ¬ ((Value.ref t == Value.none) = true) by exact Bool.false_ne_true)]
  show wpAny _ _ (field (.ref it) 1 >>= _) _ _ s
  refine wpAny_bind (wpAny_field (x := .int i 0) ho hd rfl ?_)
  show wpAny _ _ (seqItems? _ >>= _) _ _ s
  refine wpAny_bind (wpAny_seqItems hol hdl ?_)
  simp only [Int.toNat_natCast, hx]
  refine wpAny_bind (wpAny_rule (wpAny_bind (wpAny_setField ho hd (by simp) (stop_hot (hot_upd hot ne) fun h' e k ⟨q, e1, e2⟩ => ?_))))
  refine wpAny_bind (wpAny_isInstance (T := "StopIteration") (b := true) ⟨q, e1, e2⟩ isSubtype_stop (wpAny_pure ?_))
  exact hQ h' fun b ob nb e' => k b ob ((Heap.get?_update_other _ _ (Ne.symm nb)).trans e')
/-- zip has come to the end of its first list -/
theorem zip_first_end {x1 z TI TO i1 i2 l1 l2 : Addr} {k1 : Nat} {xs : Array Value} {a b : Value} {Q : Option Value → Shared → Prop} (hot : HotAt A x1 s.heap) (nz : x1 ≠ z) (n1 : x1 ≠ i1) (D : ZipApart z TI TO i1 i2 l1 l2)
    (hz : IsZip s.heap z TI TO .none) (hTI : IsPair s.heap TI (.ref i1) (.ref i2)) (hTO : IsPair s.heap TO a b) (h1 : s.heap.IsListIter i1 l1 k1) (hl1 : s.heap.IsList l1 xs) (hend : xs[k1]? = none)
    (hQ : ∀ h', (∀ c o, c ≠ z → c ≠ i1 → s.heap.get? c = some o → h'.get? c = some o) → Q none { s with heap := h' }) : wpAny (model prog w) A (pyNext (.ref z)) Q E s := by
  have hT : s.TypeIs (.ref z) "zip" := ⟨_, hz, rfl⟩
  unfold pyNext
  refine wpAny_bind (wpAny_attempt (wpAny_callSpecial?_slot (name := Str.ofString "__next__") hT F.slot_zip_next (wpAny_call_entry F.slot_zip_next hT F.entry_zip_next ?_ (F.args_zip_next_1 _))))
  show wpAny _ _ (field (.ref z) 2 >>= _) _ _ _
  refine wpAny_bind (wpAny_field (x := .bool false) hz rfl rfl ?_)
  show wpAny _ _ (field (.ref z) 3 >>= _) _ _ _
  refine wpAny_bind (wpAny_field hz rfl (x := .ref TI) rfl (wpAny_bind (wpAny_seqItems hTI rfl ?_)))
  show wpAny _ _ (Builtin.SmallTypes.ownedTupleIsFree _ >>= _) _ _ _
  refine wpAny_bind ?_
  unfold Builtin.SmallTypes.ownedTupleIsFree
  refine wpAny_bind (wpAny_field (x := .none) hz rfl rfl (wpAny_pure ?_))
  simp only [if_true]
  refine wpAny_bind (wpAny_rule (wpAny_bind (wpAny_field hz rfl (x := .ref TO) rfl (wpAny_bind (wpAny_setField_rec hz (by simp) fun g1 hz1 hs1 => ?_)))))
  replace hz1 : IsZip g1 z TI TO .ellipsis := hz1
  refine wpAny_bind ?_
  simp only [List.zipIdx_cons, List.zipIdx_nil, List.forIn_cons, List.forIn_nil]
  refine wpAny_bind (wpAny_bind (wpAny_onRaise ?_))
  show wpAny _ _ (Builtin.SmallTypes.nextOf (.ref i1) >>= _) _ _ _
  have hot1 : HotAt A x1 g1 := by
    obtain ⟨hh, o1, vs1, e1, d1, c1⟩ := hot
    exact ⟨hh, o1, vs1, hs1.extBut _ _ nz e1, d1, c1⟩
  refine wpAny_bind (ask_list_end hot1 n1 (h1.extBut hs1.extBut D.i1z) (hl1.extBut hs1.extBut D.l1z) hend fun g2 e hs2 ⟨oe, hoe, hce⟩ => ?_)
  have hz2 : IsZip g2 z TI TO .ellipsis := hs2 _ _ D.i1z.symm hz1
  have hez : e ≠ z := fun x => by
    rw [x, hz2] at hoe
    cases hoe
    simp at hce
  refine wpAny_setField_rec hz2 (by simp) fun g3 _ hs3 => ?_
  refine wpAny_bind (wpAny_isInstance (T := "StopIteration") (b := true) ⟨oe, hs3.extBut _ _ hez hoe, hce⟩ isSubtype_stop (wpAny_pure ?_))
  exact hQ g3 fun c o c1 c2 q => hs3.extBut _ _ c1 (hs2 _ _ c2 (hs1.extBut _ _ c1 q))
/-- the items of a tuple, taken out while x1 is handled -/
theorem unpack_hot {x1 t : Addr} {items : Array Value} {targets : List (Bool × (Value → Sem Unit))} {Q : Unit → Shared → Prop} (hot : HotAt A x1 s.heap) (ht : IsTup s.heap t items) (hn : targets.length = items.size) (hstar : targets.findIdx? (·.1) = none)
    (h : ∀ h', (∀ b o, s.heap.get? b = some o → h'.get? b = some o) → wpAny (model prog w) A (assignInOrder (targets.map (·.2)) items.toList) Q E { s with heap := h' }) :
    wpAny (model prog w) A (unpack (.ref t) targets) Q E s := by
  unfold unpack
  rw [hn, hstar]
  have hlt : t ≠ s.heap.objs.size := by obtain ⟨o, ho, _⟩ := ht; exact Nat.ne_of_lt (Heap.lt_size ho)
  refine wpAny_bind (wpAny_holding ?_)
  unfold unpackItems
  refine wpAny_bind ?_
  unfold notIterableAtAll
  refine wpAny_bind (wpAny_specialOf ht.typeIs slot_tuple_iter.lookup (wpAny_pure ?_))
  simp only [Bool.false_eq_true, if_false]
  refine wpAny_bind (wpAny_holding (iter_tuple ht (wpAny_bind (wpAny_holding (draw_tuple hlt items.size 0 _ _ ⟨_, Heap.get?_push_size _ rfl, rfl, rfl⟩ (ht.push _) (by omega) fun g1 hit1 hs1 => ?_)))))
  rw [show List.take items.size (List.drop 0 items.toList) = items.toList by rw [List.drop_zero]; exact List.take_of_length_le (by simp), if_neg (by simp)]
  have up : ∀ b o, s.heap.get? b = some o → g1.get? b = some o := fun b o e => hs1.extBut b o (Nat.ne_of_lt (Heap.lt_size e)) (Heap.get?_push_of_some _ e)
  obtain ⟨hh, o1, vs1, e1, d1, c1⟩ := hot
  have x1s : x1 ≠ s.heap.objs.size := Nat.ne_of_lt (Heap.lt_size e1)
  refine wpAny_bind (wpAny_holding (next_tup_end (x1 := x1) ⟨hh, o1, vs1, up _ _ e1, d1, c1⟩ x1s hit1 ((ht.push _).extBut hs1.extBut hlt) (by simp) fun g2 he2 => ?_))
  simp only [Option.isSome_none, Bool.false_eq_true, if_false]
  exact wpAny_pure (h g2 fun b o e => he2 b o (Nat.ne_of_lt (Heap.lt_size e)) (up b o e))
end
section
variable {X : Cx} {pins : List (Addr × Obj)} {σ : L2.St} {H : Hp} {s : Shared}
/-- the handled exception stands apart from a walk's own objects -/
theorem hot_apart (hc : HotC X) (I : Inv X pins σ H s) : ∃ x1, HotAt X.A x1 s.heap ∧ ∀ b, FpOk X pins H b → x1 ≠ b := by
  obtain ⟨p, ⟨hh, v1, e1, c1⟩, hp⟩ := hc
  exact ⟨p.1, ⟨hh, p.2, v1, (I.pin p (List.mem_append_left _ hp)).1, e1, c1⟩, fun b f => f.2.2.2.2.2 p (List.mem_append_left _ hp)⟩
/-- a target that takes a tuple apart -/
theorem pg_tupH {es : List Expr} {k n : Nat} {t : TGs} {pos : Pos} (hc : HotC X) (h : PGs X es t) (hn : (assignEach es X.env).length = n := by rfl) (hst : (assignEach es X.env).findIdx? (·.1) = none := by rfl) : PG X (.Tuple es k pos) (gTup X.K n t) := by
  refine ⟨fun ps s σ H v u Q I r hw => ?_⟩
  obtain ⟨a, xs, rfl, hq, hl, hw⟩ := hw
  cases r
  obtain ⟨its, rv, ht, hz⟩ := I.tuple hq
  obtain ⟨x1, hot⟩ := hc.at I
  rw [assign_Tuple]
  refine wpAny_bind (wpAny_standAt (unpack_hot hot ht (by simp [hn, ← hl, rv.length]) hst fun h' hx => ?_))
  exact h.run ps _ σ H xs _ Q (I.kept (t' := s.toks) hx) (by simpa using rv) hw
end
/-- the list at a, walked where an exception is handled -/
theorem turn_listH {P : Program} {w : World} {K : PySem.W.Frag} {tg : Expr} (a it : Addr) : TurnH P w K tg (Itl K a) [it] it (fun i h => h.IsListIter it a i) where
  mem := (turn_list (P := P) (w := w) (K := K) (tg := tg) a it).mem
  obj := (turn_list (P := P) (w := w) (K := K) (tg := tg) a it).obj
  keep := (turn_list (P := P) (w := w) (K := K) (tg := tg) a it).keep
  self := (turn_list (P := P) (w := w) (K := K) (tg := tg) a it).self
  item := by
    rintro X rfl rfl rfl hc i ps s σ H E I hf st ⟨xs, x, hq, hx⟩
    obtain ⟨its, rv, p, _⟩ := I.list hq
    obtain ⟨u, hu, ru⟩ := rv.get hx
    obtain ⟨g0, g1, _, g3, g4, g5⟩ := hf it List.mem_cons_self
    refine wpAny_pyNext_list_item st p.isList (x := u) (by simpa using hu) fun h' st' keep => ?_
    obtain ⟨o, e, c, d⟩ := id st'
    refine ⟨u, rfl, go_of (s := { s with heap := h' }) e c d (by decide) ⟨x, H, I.turned (t' := s.toks) (fun b o nb e => (keep.2 b nb).trans e) g0 g1 g3 g4 g5, ru, ⟨rfl, fun ys hy => ?_⟩, st', fun b hb => (hf b hb).1⟩⟩
    rw [I.list_inj hy hq]
    exact hx
  done := by
    rintro X rfl rfl rfl hc i ps s σ H E I hf st ⟨xs, hq, hx⟩
    obtain ⟨its, rv, p, _⟩ := I.list hq
    obtain ⟨g0, g1, _, g3, g4, g5⟩ := hf it List.mem_cons_self
    have hl := rv.length
    obtain ⟨x1, hot, ap⟩ := hot_apart hc I
    exact next_list_end hot (ap it (hf it List.mem_cons_self)) st p.isList (by simp; omega) fun h' eb => ⟨rfl, I.turned (t' := s.toks) (fun b o nb e => eb b o nb e) g0 g1 g3 g4 g5⟩
theorem pi_listH {X : Cx} {tg l : Expr} {tl : TE} (hl : PE X l tl) : PIH X tg l (iList X.K tl) := by
  refine ⟨fun ps s σ H R I h => thn (hl.run ps s σ H _ I h) fun v s1 ⟨x, H1, I1, r1, a, e, ⟨xs, hq⟩, q⟩ => ?_⟩
  subst e
  cases r1
  obtain ⟨its, rv, p, _⟩ := I1.list hq
  refine wpAny_pyIter_list p.isList ⟨s1.heap.objs.size, [s1.heap.objs.size], _, _, H1, rfl, I1.kept (t' := s1.toks) fun b o e => Heap.get?_push_of_some _ e, turn_listH a _, ⟨_, Heap.get?_push_size _ rfl, rfl, rfl⟩, fun b hb => ?_, q⟩
  rw [List.mem_singleton.mp hb]
  exact I1.fpOk (Nat.le_refl _) (I1.hok.fresh (Nat.le_refl _))
/-- two lists' items in new pairs, till the first one's end -/
def ItzF (K : PySem.W.Frag) (a b : Addr) : It := ⟨(Itz K a b).go, (Itz K a b).yld, fun i H => ∃ xs : List V, SqL K H a xs ∧ xs.length ≤ i⟩
theorem turn_zipH {P : Program} {w : World} {K : PySem.W.Frag} {elts : List Expr} {kk : Nat} {tpos : Pos} {a b z TI TO i1 i2 : Addr} (D : ZipApart z TI TO i1 i2 a b) : TurnH P w K (.Tuple elts kk tpos) (ItzF K a b) [z, TI, TO, i1, i2] z
    (fun i h => IsZip h z TI TO .none ∧ IsPair h TI (.ref i1) (.ref i2) ∧ (∃ x y, IsPair h TO x y) ∧ h.IsListIter i1 a i ∧ h.IsListIter i2 b i) where
  mem := (turn_zip (P := P) (w := w) (K := K) (elts := elts) (kk := kk) (tpos := tpos) D).mem
  obj := (turn_zip (P := P) (w := w) (K := K) (elts := elts) (kk := kk) (tpos := tpos) D).obj
  keep := (turn_zip (P := P) (w := w) (K := K) (elts := elts) (kk := kk) (tpos := tpos) D).keep
  self := (turn_zip (P := P) (w := w) (K := K) (elts := elts) (kk := kk) (tpos := tpos) D).self
  item := by
    rintro X rfl rfl rfl hc i ps s σ H E I hf ⟨hz, hTI, ⟨x0, y0, hTO⟩, h1, h2⟩ ⟨xs, ys, x, y, qx, qy, ex, ey⟩
    obtain ⟨its, rv, p1, _⟩ := I.list qx
    obtain ⟨jts, rw_, p2, _⟩ := I.list qy
    obtain ⟨u, hu, ru⟩ := rv.get ex
    obtain ⟨t, ht, rt⟩ := rw_.get ey
    have zl : z < s.heap.objs.size := Heap.lt_size hz
    have low : ∀ c ∈ [z, TI, TO, i1, i2], c < s.heap.objs.size := fun c hcm => by
      obtain ⟨o, e, _⟩ := (turn_zip (P := X.prog) (w := X.w) (K := X.K) (elts := elts) (kk := kk) (tpos := tpos) D).obj i s.heap ⟨hz, hTI, ⟨x0, y0, hTO⟩, h1, h2⟩ c hcm
      exact Heap.lt_size e
    refine wpAny_pyNext_zip_item D hz hTI hTO h1 h2 p1.isList p2.isList (x := u) (y := t) (by simpa using hu) (by simpa using ht) fun g zg Og j1 j2 Tg gsz gk => ⟨_, rfl, ?_⟩
    refine wpAny_letOwnedTupleGo_zip (s := { s with heap := g }) zg fun k zk sb => ?_
    have Tk : k.get? s.heap.objs.size = some { cls := .type "tuple", data := .seq #[u, t] } := (sb.2 _ (Nat.ne_of_gt zl)).trans Tg
    have nw : ObjOk X.prog X.w (upd H s.heap.objs.size (.tup [x, y])) k s.heap.objs.size (.tup [x, y]) := ⟨by show 2 ≤ sizeLine; decide, [u, t], .cons ru (.cons rt .nil), _, Tk, rfl, _, rfl⟩
    have J : Inv X ps σ (upd H s.heap.objs.size (.tup [x, y])) { s with heap := k } := by
      refine I.turnedNew (t' := s.toks) (ch := [z, TI, TO, i1, i2]) (fun c o hb e => ?_) hf (Nat.le_refl _) nw
      simp only [List.mem_cons, List.not_mem_nil, or_false, not_or] at hb
      exact (sb.2 c hb.1).trans (gk c o hb.1 hb.2.2.1 hb.2.2.2.1 hb.2.2.2.2 e)
    refine ⟨.ref s.heap.objs.size, _, J, rfl, ⟨_, x, y, rfl, I.hok.fresh (Nat.le_refl _), rfl, fun l hl => ?_, fun l hl => ?_⟩, ⟨zk, (sb.2 _ D.TIz).trans (gk _ _ D.TIz D.TITO D.TIi1 D.TIi2 hTI), ⟨u, t, (sb.2 _ D.TOz).trans Og⟩, j1.at fun o e => (sb.2 _ D.i1z).trans e, j2.at fun o e => (sb.2 _ D.i2z).trans e⟩, fun c hcm => ?_⟩
    · rw [I.list_inj hl qx]
      exact ex
    · rw [I.list_inj hl qy]
      exact ey
    · rw [upd_ne (Nat.ne_of_lt (low c hcm))]
      exact (hf c hcm).1
  done := by
    rintro X rfl rfl rfl hc i ps s σ H E I hf ⟨hz, hTI, ⟨x0, y0, hTO⟩, h1, h2⟩ ⟨xs, qx, hx⟩
    obtain ⟨its, rv, p1, _⟩ := I.list qx
    have l1 := rv.length
    obtain ⟨x1, hot, ap⟩ := hot_apart hc I
    refine zip_first_end hot (ap z (hf z (by simp))) (ap i1 (hf i1 (by simp))) D hz hTI hTO h1 p1.isList (by simp; omega) fun g gk => ⟨rfl, I.turnedL (t' := s.toks) (ch := [z, TI, TO, i1, i2]) (fun c o hb e => ?_) hf⟩
    simp only [List.mem_cons, List.not_mem_nil, or_false, not_or] at hb
    exact gk c o hb.1 hb.2.2.2.1 e
/-- zip(a, b), as it is read -/
def iZipF (K : PySem.W.Frag) (ta : TA) : TI := fun σ H R => ta σ H fun vs H1 => ∃ (a b : Addr) (xs ys : List V), vs = [.ref a, .ref b] ∧ SqL K H1 a xs ∧ SqL K H1 b ys ∧ R (ItzF K a b) H1
theorem pi_zipH {X : Cx} {e e2 : Expr} {ta : TA} {p pos tpos : Pos} {elts : List Expr} {kk : Nat} (hg : Gl X "zip") (hm : X.mg "zip" = none) (ha : PA X [e, e2] ta)
    (hs : starEach [e, e2] X.env = (false, eval e X.env) :: starEach [e2] X.env := by rfl) (hb : (backTo pos (starEach [e2] X.env)).any (·.1) = false := by rfl) : PIH X (.Tuple elts kk tpos) (.Call (.Name "zip" p) [e, e2] [] pos) (iZipF X.K ta) := by
  refine ⟨fun ps s σ H R I h => Call_ (ld_blt I hg hm PyProof.Rows.boot_zip (PyProof.Rows.callWith_type1 (thn (ha.run pos ps s σ H _ I h) fun us s1 ⟨vs, H1, I1, r1, a, b, xs, ys, ev, qx, qy, q⟩ => ?_) hs hb))⟩
  subst ev
  rcases r1 with _ | ⟨r, _ | ⟨r', r2⟩⟩
  cases r2
  cases r
  cases r'
  obtain ⟨its, rv, p1, _⟩ := I1.list qx
  obtain ⟨jts, rw_, p2, _⟩ := I1.list qy
  refine call_zip_2 p1.isList p2.isList fun g hz hTI hTO h1 h2 gsz gk => wpAny_pyIter_zip hz ?_
  refine ⟨s1.heap.objs.size + 4, [s1.heap.objs.size + 4, s1.heap.objs.size + 2, s1.heap.objs.size + 3, s1.heap.objs.size, s1.heap.objs.size + 1], _, _, H1, rfl, I1.kept (t' := s1.toks) gk, turn_zipH (PySem.W.ktu_apart _ a b p1.lt p2.lt), ⟨hz, hTI, ⟨_, _, hTO⟩, h1, h2⟩, fun c hcm => ?_, q⟩
  have le : s1.heap.objs.size ≤ c := by
    simp only [List.mem_cons, List.not_mem_nil, or_false] at hcm
    rcases hcm with r | r | r | r | r <;> rw [r]
    · exact Nat.le_add_right _ _
    · exact Nat.le_add_right _ _
    · exact Nat.le_add_right _ _
    · exact Nat.le_refl _
    · exact Nat.le_add_right _ _
  exact I1.fpOk le (I1.hok.fresh le)
/-- a comprehension over zip of two lists that stand -/
theorem lc_zipF {K : PySem.W.Frag} {a b : Addr} {xs ys : List V} {g : TG} {tt : TT} {te : TE} {vs : List Nat} {σ : L2.St} {H1 : Hp} {D : Addr} {Qd : Hp → Prop} (len : xs.length ≤ ys.length) (Pv : Nat → Hp → Prop) (h0 : Pv 0 (upd H1 D (.lst [])))
    (hl : ∀ i H, i ≤ xs.length → Pv i H → SqL K H a xs ∧ SqL K H b ys)
    (hs : ∀ i x y H T, xs[i]? = some x → ys[i]? = some y → H T = none → Pv i H → g (.ref T) (wipe σ vs) (upd H T (.tup [x, y])) fun σ2 H2 => wipe σ2 vs = wipe σ vs ∧ tt σ2 H2 fun c H3 =>
      if c = true then te σ2 H3 fun z H4 => ∃ acc, H4 D = some (.lst acc) ∧ acc.length < sizeLine ∧ Pv (i + 1) (upd H4 D (.lst (acc ++ [z]))) else Pv (i + 1) H3) (hd : ∀ H, Pv xs.length H → Qd H) :
    ∃ W : Nat → Nat → Hp → Prop, (∃ m, W 0 m (upd H1 D (.lst []))) ∧ ∀ i m H, W i m H → ((ItzF K a b).stop i H ∧ Qd H) ∨ ((ItzF K a b).go i H ∧ ∃ Nx : Hp → Prop, (∀ H', Nx H' → ∃ m', m' < m ∧ W (i + 1) m' H') ∧
      ∀ x H', (ItzF K a b).yld i H x H' → g x (wipe σ vs) H' fun σ2 H2 => wipe σ2 vs = wipe σ vs ∧ tt σ2 H2 fun c H3 => if c = true then te σ2 H3 fun z H4 => ∃ acc, H4 D = some (.lst acc) ∧ acc.length < sizeLine ∧ Nx (upd H4 D (.lst (acc ++ [z]))) else Nx H3) := by
  refine ⟨fun i m H => m = xs.length - i ∧ i ≤ xs.length ∧ Pv i H, ⟨xs.length, (Nat.sub_zero _).symm, Nat.zero_le _, h0⟩, ?_⟩
  rintro i m H ⟨rfl, hi, p⟩
  obtain ⟨q1, q2⟩ := hl i H hi p
  rcases Nat.lt_or_ge i xs.length with lt | ge
  · have ex := List.getElem?_eq_getElem lt
    have ey := List.getElem?_eq_getElem (Nat.lt_of_lt_of_le lt len)
    refine .inr ⟨⟨xs, ys, _, _, q1, q2, ex, ey⟩, Pv (i + 1), fun H' p' => ⟨xs.length - (i + 1), by omega, rfl, lt, p'⟩, ?_⟩
    rintro v H' ⟨T, x, y, rfl, nT, rfl, e1, e2⟩
    exact hs i x y H T (e1 xs q1) (e2 ys q2) nT p
  · have e : i = xs.length := by omega
    subst e
    exact .inl ⟨⟨xs, q1, Nat.le_refl _⟩, hd H p⟩
end PT


set_option maxHeartbeats 4000000
/-! the names of the classes of an error that is handled, each by its own name -/
namespace PT
open PySem PySem.Spec PyProof.Rows L2 L2H HotX
theorem roomH_units {k : Nat} {A : Around} (r : RoomH k A) : A.units + 64 < cLine := by
  have := r.un
  omega
/-- an expression that is never reached -/
theorem pe_no {X : Cx} {e : Expr} : PE X e (fun _ _ _ => False) := ⟨fun _ _ _ _ _ _ h => h.elim⟩
def clsNames : List String := ["NoPlant", "NoStation", "NoStock", "NoPattern", "NoDays", "NoBox", "NotOrdered", "NoWords", "NoNumber", "TooMany", "Full", "Nothing", "NoText", "NoRow", "odd"]
def clsSel (j k : Nat) : Bool := if k < 14 then k == j else false
def clsVs (j n : Nat) : List V := ((List.range n).filter (clsSel j)).map fun k => .str (Str.ofString (clsNames.getD k ""))
/-- the name that the law gives to the j-th class -/
def clsName (j : Nat) : Str := Str.ofString (clsNames.getD j "")
theorem clsVs_all : ∀ j < 14, clsVs j 15 = [.str (clsName j)] := by decide +kernel
theorem clsName_many : ∀ j < 14, j ≠ 9 → PyData.eqv (.list [.str (clsName j)]) (.list [.str "TooMany"]) = false := by decide +kernel
theorem shaped_one {x : Str} (h : PyData.strOk x = true) : SeqAt.shaped (.list [.str x]) = true := by
  unfold SeqAt.shaped
  simp [PyData.canLay0, PyData.canLayAll0, PyData.depth, PyData.depthAll, h]
theorem clsName_ok : ∀ j < 14, PyData.strOk (clsName j) = true := by decide +kernel
theorem clsVs_next {j i : Nat} : clsVs j (i + 1) = clsVs j i ++ if clsSel j i = true then [.str (Str.ofString (clsNames.getD i ""))] else [] := by
  unfold clsVs
  rw [List.range_succ, List.filter_append, List.map_append]
  congr 1
  simp only [List.filter_cons, List.filter_nil]
  split <;> rfl
theorem clsVs_len {j i : Nat} : (clsVs j i).length ≤ i := by
  unfold clsVs
  rw [List.length_map]
  exact Nat.le_trans (List.length_filter_le _ _) (Nat.le_of_eq List.length_range)
section
variable {P : Program} {w : World} {K : PySem.W.Frag} {mg : Str → Option Value} {base : Heap}
def spClasses (Cs : List Addr) : Addr → Value → Option Addr → Sp := fun a c d vs H Q _ => ∃ j, vs = [.ref a] ∧ c = .ref (Cs.getD j 0) ∧ d = none ∧ j < 14 ∧ j ≠ 9 ∧
  ∀ (H' : Hp) (l : Addr), Same H H' → H l = none → H' l = some (.lst [.str (clsName j)]) → Q (.ref l) H'
end
end PT


set_option maxHeartbeats 4000000
/-! the word of the one class of an error that is handled -/
namespace PT
open PySem PySem.Spec PyProof.Rows L2 L2H HotX
def kindNames : List String := ["plant", "station", "stock", "pattern", "days", "box", "ordered", "words", "number", "many", "full", "nothing", "text", "row"]
def kindName (j : Nat) : Str := Str.ofString (kindNames.getD j "")
/-- pairs of a word and whether it is j's -/
def Prs (j : Nat) (H G : Hp) (l : Addr) (ts : List Addr) : Prop := Same H G ∧ G l = some (.lst (ts.map V.ref)) ∧ ∀ (i : Nat) (t : Addr), ts[i]? = some t → G t = some (.tup [.str (kindName i), .bl (i == j)])
theorem prs_more {j : Nat} {H G : Hp} {l : Addr} {ts : List Addr} (h : Prs j H G l ts) {t0 t1 a b : Addr} {n : Nat} (ln : ts.length = n) (n0 : G t0 = none) (n1 : upd G t0 (.tup [.str (kindName n), .bl (n == j)]) t1 = none)
    (na : upd (upd G t0 (.tup [.str (kindName n), .bl (n == j)])) t1 (.tup [.str (kindName (n + 1)), .bl (n + 1 == j)]) a = none)
    (nb : upd (upd (upd G t0 (.tup [.str (kindName n), .bl (n == j)])) t1 (.tup [.str (kindName (n + 1)), .bl (n + 1 == j)])) a (.lst [.ref t0, .ref t1]) b = none) :
    Prs j H (upd (upd (upd (upd G t0 (.tup [.str (kindName n), .bl (n == j)])) t1 (.tup [.str (kindName (n + 1)), .bl (n + 1 == j)])) a (.lst [.ref t0, .ref t1])) b (.lst (ts.map V.ref ++ [.ref t0, .ref t1]))) b (ts ++ [t0, t1]) := by
  refine ⟨(((h.1.trans (same_new n0)).trans (same_new n1)).trans (same_new na)).trans (same_new nb), by rw [upd_same, List.map_append]; rfl, fun i t e => ?_⟩
  by_cases c : i < ts.length
  · rw [List.getElem?_append_left c] at e
    exact upd_at (upd_at (upd_at (upd_at (h.2.2 i t e) n0) n1) na) nb
  · rw [List.getElem?_append_right (by omega)] at e
    have hm : i - ts.length = 0 ∨ i - ts.length = 1 := by
      have := (List.getElem?_eq_some_iff.mp e).1
      simp at this
      omega
    rcases hm with m | m
    · rw [m] at e
      cases e
      rw [show i = n by omega]
      exact upd_at (upd_at (upd_at upd_same n1) na) nb
    · rw [m] at e
      cases e
      rw [show i = n + 1 by omega]
      exact upd_at (upd_at upd_same na) nb
/-- the words found among the first ones -/
def kinds (j n : Nat) : List V := ((List.range n).filter fun i => i == j).map fun i => .str (kindName i)
theorem kinds_next {j i : Nat} : kinds j (i + 1) = kinds j i ++ if (i == j) = true then [.str (kindName i)] else [] := by
  unfold kinds
  rw [List.range_succ, List.filter_append, List.map_append]
  congr 1
  simp only [List.filter_cons, List.filter_nil]
  split <;> rfl
theorem kinds_len {j i : Nat} : (kinds j i).length ≤ i := by
  unfold kinds
  rw [List.length_map]
  exact Nat.le_trans (List.length_filter_le _ _) (Nat.le_of_eq List.length_range)
theorem kinds_all : ∀ j < 14, kinds j 14 = [.str (kindName j)] := by decide +kernel
section
variable {P : Program} {w : World} {K : PySem.W.Frag} {mg : Str → Option Value} {base : Heap}
def spKind (Cs : List Addr) : Addr → Value → Option Addr → Sp := fun a c d vs H Q _ => ∃ j, vs = [.ref a] ∧ c = .ref (Cs.getD j 0) ∧ d = none ∧ j < 14 ∧
  ∀ (H' : Hp), Same H H' → Q (.str (kindName j)) H'
theorem ok_kind (T : Tx K mg) : FnE P w K mg base 1 T.f__law_kind T.d__law_kind ["caught"] (spKind T.errs) := by
  refine Fun.okE T.F__law_kind scLawKind (fun a c d vs H Q E h => ?_) (fun cdv A out s H vs Q E a oe c d hot zn room h => ?_)
  · obtain ⟨j, rfl, _⟩ := h
    rfl
  · obtain ⟨j, rfl, rfl, rfl, lj, qq⟩ := h
    have nd := scLawKind.nd
    have G : Errs K T.x_PlantError T.errs := T.E_all
    have len : T.errs.length = 14 := rfl
    have fl : ∃ vs, oe.data = .fields vs := let ⟨_, vs, e, _⟩ := hot; ⟨vs, e⟩
    refine ⟨_, (pss_cons (ps_set (i := 1) nd rfl (.inl rfl) (pe_lst (pa_cons (pe_tup (pa_cons pe_str (pa_cons (pe_callB (call_isH (j := j) (a := a) (oe := oe) G (by omega) ⟨List.mem_singleton_self _, zn, fl⟩) (by rfl) T.n_isinstance (by decide +kernel) (pa_cons (pv 0) (pa_cons (pe_glob (v := .ref T.x_NoPlant) rfl T.X_NoPlant.g rfl) pa_nil))) pa_nil))) (pa_cons (pe_tup (pa_cons pe_str (pa_cons (pe_callB (call_isH (j := j) (a := a) (oe := oe) G (by omega) ⟨List.mem_singleton_self _, zn, fl⟩) (by rfl) T.n_isinstance (by decide +kernel) (pa_cons (pv 0) (pa_cons (pe_glob (v := .ref T.x_NoStation) rfl T.X_NoStation.g rfl) pa_nil))) pa_nil))) pa_nil))))
(pss_cons (ps_set (i := 1) nd rfl (.inl rfl) (pe_op op_cat (pv 1) (pe_lst (pa_cons (pe_tup (pa_cons pe_str (pa_cons (pe_callB (call_isH (j := j) (a := a) (oe := oe) G (by omega) ⟨List.mem_singleton_self _, zn, fl⟩) (by rfl) T.n_isinstance (by decide +kernel) (pa_cons (pv 0) (pa_cons (pe_glob (v := .ref T.x_NoStock) rfl T.X_NoStock.g rfl) pa_nil))) pa_nil))) (pa_cons (pe_tup (pa_cons pe_str (pa_cons (pe_callB (call_isH (j := j) (a := a) (oe := oe) G (by omega) ⟨List.mem_singleton_self _, zn, fl⟩) (by rfl) T.n_isinstance (by decide +kernel) (pa_cons (pv 0) (pa_cons (pe_glob (v := .ref T.x_NoPattern) rfl T.X_NoPattern.g rfl) pa_nil))) pa_nil))) pa_nil)))))
(pss_cons (ps_set (i := 1) nd rfl (.inl rfl) (pe_op op_cat (pv 1) (pe_lst (pa_cons (pe_tup (pa_cons pe_str (pa_cons (pe_callB (call_isH (j := j) (a := a) (oe := oe) G (by omega) ⟨List.mem_singleton_self _, zn, fl⟩) (by rfl) T.n_isinstance (by decide +kernel) (pa_cons (pv 0) (pa_cons (pe_glob (v := .ref T.x_NoDays) rfl T.X_NoDays.g rfl) pa_nil))) pa_nil))) (pa_cons (pe_tup (pa_cons pe_str (pa_cons (pe_callB (call_isH (j := j) (a := a) (oe := oe) G (by omega) ⟨List.mem_singleton_self _, zn, fl⟩) (by rfl) T.n_isinstance (by decide +kernel) (pa_cons (pv 0) (pa_cons (pe_glob (v := .ref T.x_NoBox) rfl T.X_NoBox.g rfl) pa_nil))) pa_nil))) pa_nil)))))
(pss_cons (ps_set (i := 1) nd rfl (.inl rfl) (pe_op op_cat (pv 1) (pe_lst (pa_cons (pe_tup (pa_cons pe_str (pa_cons (pe_callB (call_isH (j := j) (a := a) (oe := oe) G (by omega) ⟨List.mem_singleton_self _, zn, fl⟩) (by rfl) T.n_isinstance (by decide +kernel) (pa_cons (pv 0) (pa_cons (pe_glob (v := .ref T.x_NotOrdered) rfl T.X_NotOrdered.g rfl) pa_nil))) pa_nil))) (pa_cons (pe_tup (pa_cons pe_str (pa_cons (pe_callB (call_isH (j := j) (a := a) (oe := oe) G (by omega) ⟨List.mem_singleton_self _, zn, fl⟩) (by rfl) T.n_isinstance (by decide +kernel) (pa_cons (pv 0) (pa_cons (pe_glob (v := .ref T.x_NoWords) rfl T.X_NoWords.g rfl) pa_nil))) pa_nil))) pa_nil)))))
(pss_cons (ps_set (i := 1) nd rfl (.inl rfl) (pe_op op_cat (pv 1) (pe_lst (pa_cons (pe_tup (pa_cons pe_str (pa_cons (pe_callB (call_isH (j := j) (a := a) (oe := oe) G (by omega) ⟨List.mem_singleton_self _, zn, fl⟩) (by rfl) T.n_isinstance (by decide +kernel) (pa_cons (pv 0) (pa_cons (pe_glob (v := .ref T.x_NoNumber) rfl T.X_NoNumber.g rfl) pa_nil))) pa_nil))) (pa_cons (pe_tup (pa_cons pe_str (pa_cons (pe_callB (call_isH (j := j) (a := a) (oe := oe) G (by omega) ⟨List.mem_singleton_self _, zn, fl⟩) (by rfl) T.n_isinstance (by decide +kernel) (pa_cons (pv 0) (pa_cons (pe_glob (v := .ref T.x_TooMany) rfl T.g_TooMany rfl) pa_nil))) pa_nil))) pa_nil)))))
(pss_cons (ps_set (i := 1) nd rfl (.inl rfl) (pe_op op_cat (pv 1) (pe_lst (pa_cons (pe_tup (pa_cons pe_str (pa_cons (pe_callB (call_isH (j := j) (a := a) (oe := oe) G (by omega) ⟨List.mem_singleton_self _, zn, fl⟩) (by rfl) T.n_isinstance (by decide +kernel) (pa_cons (pv 0) (pa_cons (pe_glob (v := .ref T.x_Full) rfl T.X_Full.g rfl) pa_nil))) pa_nil))) (pa_cons (pe_tup (pa_cons pe_str (pa_cons (pe_callB (call_isH (j := j) (a := a) (oe := oe) G (by omega) ⟨List.mem_singleton_self _, zn, fl⟩) (by rfl) T.n_isinstance (by decide +kernel) (pa_cons (pv 0) (pa_cons (pe_glob (v := .ref T.x_Nothing) rfl T.X_Nothing.g rfl) pa_nil))) pa_nil))) pa_nil)))))
(pss_cons (ps_set (i := 1) nd rfl (.inl rfl) (pe_op op_cat (pv 1) (pe_lst (pa_cons (pe_tup (pa_cons pe_str (pa_cons (pe_callB (call_isH (j := j) (a := a) (oe := oe) G (by omega) ⟨List.mem_singleton_self _, zn, fl⟩) (by rfl) T.n_isinstance (by decide +kernel) (pa_cons (pv 0) (pa_cons (pe_glob (v := .ref T.x_NoText) rfl T.X_NoText.g rfl) pa_nil))) pa_nil))) (pa_cons (pe_tup (pa_cons pe_str (pa_cons (pe_callB (call_isH (j := j) (a := a) (oe := oe) G (by omega) ⟨List.mem_singleton_self _, zn, fl⟩) (by rfl) T.n_isinstance (by decide +kernel) (pa_cons (pv 0) (pa_cons (pe_glob (v := .ref T.x_NoRow) rfl T.X_NoRow.g rfl) pa_nil))) pa_nil))) pa_nil)))))
(pss_cons (ps_setLcH (i := 2) (own := [("name", 3), ("so", 4)]) (g := gTup K 2 (gCons (gName 3) (gCons (gName 4) gNil))) (tt := tB (tVar 4)) (te := tVar 3) ⟨(a, oe), hot, List.mem_singleton_self _⟩ nd (by rfl) rfl (sw_true rfl rfl rfl (by decide +kernel)) (pi_listH (pv 1)) (blkOk_by (N := ["caught", "some", "found", "name", "so"]) (sc := defScope sLawKind) (by decide +kernel)) (fun _ _ _ _ _ => pg_tupH ⟨(a, oe), hot, List.mem_singleton_self _⟩ (pgs_cons (pg_name (i := 3) nd rfl (.inl rfl)) (pgs_cons (pg_name (i := 4) nd rfl (.inl rfl)) pgs_nil))) (fun _ _ _ _ _ => pts_one (pt_val (pv 4))) (fun _ _ _ _ _ => pv 3))
(pss_one (ps_ret (pe_ifExp (PW.pt (pw_and (pt_cmpR op_eq (pe_callB call_len_seq (by rfl) T.n_len PySem.boot_len (pa_cons (pv 2) pa_nil)) pe_int (nomark _)) (pw_and1 (pt_val (pe_callB (call_isH (j := j) (a := a) (oe := oe) G (by omega) ⟨List.mem_singleton_self _, zn, fl⟩) (by rfl) T.n_isinstance (by decide +kernel) (pa_cons (pv 0) (pa_cons (pe_bltn (v := .ty "ValueError") (by rfl) T.n_ValueError (by decide +kernel) rfl) pa_nil))))))) (pe_ix ix_list (pv 2) pe_int (fun _ _ => rfl)) pe_str))))))))))), ?_⟩
    have no : ∀ {Hx : Hp} dx, (none : Option Addr) = some dx → ∃ fs, Hx dx = some (.xd fs) := fun dx z => nomatch z
    have is : ∀ i, i < 14 → PySem.W.kitOne K (.ref (T.errs.getD j 0)) (.ref (T.errs.getD i 0)) = some (i == j) := fun i li => G.is (by omega) (by omega)
    refine ⟨_, rfl, no, _, _, _, rfl, .own _, is 0 (by decide), (by show 2 ≤ sizeLine; decide), fun t0 k0 => ⟨_, rfl, no, _, _, _, rfl, .own _, is 1 (by decide), (by show 2 ≤ sizeLine; decide), fun t1 k1 => ⟨(by show 2 ≤ sizeLine; decide), fun l0 h0 => ?_⟩⟩⟩
    refine heap_cut (P := fun G => Prs j H G l0 [t0, t1]) ⟨((same_new k0).trans (same_new k1)).trans (same_new h0), upd_same, fun i t e => ?_⟩ fun G0 p0 => ?_
    · match i, e with
      | 0, e => cases e; exact upd_at (upd_at upd_same k1) h0
      | 1, e => cases e; exact upd_at upd_same h0
    clear k0 k1 h0
    refine ⟨_, rfl, _, rfl, no, _, _, _, rfl, .own _, is 2 (by decide), (by show 2 ≤ sizeLine; decide), fun t2 k2 => ⟨_, rfl, no, _, _, _, rfl, .own _, is 3 (by decide), (by show 2 ≤ sizeLine; decide), fun t3 k3 => ⟨(by show 2 ≤ sizeLine; decide), fun m1 h1 => ⟨l0, m1, _, _, rfl, rfl, upd_at (upd_at (upd_at p0.2.1 k2) k3) h1, upd_same, (by show 4 ≤ sizeLine; decide), fun l1 g1 => ?_⟩⟩⟩⟩
    refine heap_cut (P := fun G => Prs j H G l1 [t0, t1, t2, t3]) (prs_more p0 (n := 2) rfl k2 k3 h1 g1) fun G1 p1 => ?_
    clear k2 k3 h1 g1 p0
    refine ⟨_, rfl, _, rfl, no, _, _, _, rfl, .own _, is 4 (by decide), (by show 2 ≤ sizeLine; decide), fun t4 k4 => ⟨_, rfl, no, _, _, _, rfl, .own _, is 5 (by decide), (by show 2 ≤ sizeLine; decide), fun t5 k5 => ⟨(by show 2 ≤ sizeLine; decide), fun m2 h2 => ⟨l1, m2, _, _, rfl, rfl, upd_at (upd_at (upd_at p1.2.1 k4) k5) h2, upd_same, (by show 6 ≤ sizeLine; decide), fun l2 g2 => ?_⟩⟩⟩⟩
    refine heap_cut (P := fun G => Prs j H G l2 [t0, t1, t2, t3, t4, t5]) (prs_more p1 (n := 4) rfl k4 k5 h2 g2) fun G2 p2 => ?_
    clear k4 k5 h2 g2 p1
    refine ⟨_, rfl, _, rfl, no, _, _, _, rfl, .own _, is 6 (by decide), (by show 2 ≤ sizeLine; decide), fun t6 k6 => ⟨_, rfl, no, _, _, _, rfl, .own _, is 7 (by decide), (by show 2 ≤ sizeLine; decide), fun t7 k7 => ⟨(by show 2 ≤ sizeLine; decide), fun m3 h3 => ⟨l2, m3, _, _, rfl, rfl, upd_at (upd_at (upd_at p2.2.1 k6) k7) h3, upd_same, (by show 8 ≤ sizeLine; decide), fun l3 g3 => ?_⟩⟩⟩⟩
    refine heap_cut (P := fun G => Prs j H G l3 [t0, t1, t2, t3, t4, t5, t6, t7]) (prs_more p2 (n := 6) rfl k6 k7 h3 g3) fun G3 p3 => ?_
    clear k6 k7 h3 g3 p2
    refine ⟨_, rfl, _, rfl, no, _, _, _, rfl, .own _, is 8 (by decide), (by show 2 ≤ sizeLine; decide), fun t8 k8 => ⟨_, rfl, no, _, _, _, rfl, .own _, is 9 (by decide), (by show 2 ≤ sizeLine; decide), fun t9 k9 => ⟨(by show 2 ≤ sizeLine; decide), fun m4 h4 => ⟨l3, m4, _, _, rfl, rfl, upd_at (upd_at (upd_at p3.2.1 k8) k9) h4, upd_same, (by show 10 ≤ sizeLine; decide), fun l4 g4 => ?_⟩⟩⟩⟩
    refine heap_cut (P := fun G => Prs j H G l4 [t0, t1, t2, t3, t4, t5, t6, t7, t8, t9]) (prs_more p3 (n := 8) rfl k8 k9 h4 g4) fun G4 p4 => ?_
    clear k8 k9 h4 g4 p3
    refine ⟨_, rfl, _, rfl, no, _, _, _, rfl, .own _, is 10 (by decide), (by show 2 ≤ sizeLine; decide), fun t10 k10 => ⟨_, rfl, no, _, _, _, rfl, .own _, is 11 (by decide), (by show 2 ≤ sizeLine; decide), fun t11 k11 => ⟨(by show 2 ≤ sizeLine; decide), fun m5 h5 => ⟨l4, m5, _, _, rfl, rfl, upd_at (upd_at (upd_at p4.2.1 k10) k11) h5, upd_same, (by show 12 ≤ sizeLine; decide), fun l5 g5 => ?_⟩⟩⟩⟩
    refine heap_cut (P := fun G => Prs j H G l5 [t0, t1, t2, t3, t4, t5, t6, t7, t8, t9, t10, t11]) (prs_more p4 (n := 10) rfl k10 k11 h5 g5) fun G5 p5 => ?_
    clear k10 k11 h5 g5 p4
    refine ⟨_, rfl, _, rfl, no, _, _, _, rfl, .own _, is 12 (by decide), (by show 2 ≤ sizeLine; decide), fun t12 k12 => ⟨_, rfl, no, _, _, _, rfl, .own _, is 13 (by decide), (by show 2 ≤ sizeLine; decide), fun t13 k13 => ⟨(by show 2 ≤ sizeLine; decide), fun m6 h6 => ⟨l5, m6, _, _, rfl, rfl, upd_at (upd_at (upd_at p5.2.1 k12) k13) h6, upd_same, (by show 14 ≤ sizeLine; decide), fun l6 g6 => ?_⟩⟩⟩⟩
    refine heap_cut (P := fun G => Prs j H G l6 [t0, t1, t2, t3, t4, t5, t6, t7, t8, t9, t10, t11, t12, t13]) (prs_more p5 (n := 12) rfl k12 k13 h6 g6) fun G6 p6 => ?_
    clear k12 k13 h6 g6 p5
    obtain ⟨s3, e7, ep⟩ := p6
    have hts : ([t0, t1, t2, t3, t4, t5, t6, t7, t8, t9, t10, t11, t12, t13] : List Addr).length = 14 := rfl
    revert s3 e7 ep hts
    generalize ([t0, t1, t2, t3, t4, t5, t6, t7, t8, t9, t10, t11, t12, t13] : List Addr) = ts
    intro s3 e7 ep hts
    refine ⟨.ref l6, rfl, l6, rfl, ⟨_, .inl (.inl e7)⟩, fun D nD => ?_⟩
    have nHD : H D = none := s3.free nD
    refine lc_list (K := K) (xs := ts.map V.ref) (fun i G => Same H G ∧ G l6 = some (.lst (ts.map V.ref)) ∧ (∀ (i : Nat) (t : Addr), ts[i]? = some t → G t = some (.tup [.str (kindName i), .bl (i == j)]) ∧ t ≠ D) ∧ G D = some (.lst (kinds j i)) ∧ l6 ≠ D)
      ⟨s3.trans (same_new nD), upd_at e7 nD, fun i t e => ⟨upd_at (ep i t e) nD, ne_of_none (ep i t e) nD⟩, upd_same, ne_of_none e7 nD⟩ (fun i G _ p1 => .inl (.inl p1.2.1)) (fun i x G ex p1 => ?_) (fun G7 p1 => ?_)
    · obtain ⟨sG, g7, gp, gD, d7⟩ := p1
      rw [List.getElem?_map] at ex
      obtain ⟨t, et, rfl⟩ : ∃ t, ts[i]? = some t ∧ V.ref t = x := by
        cases h : ts[i]? with
        | none => rw [h] at ex; cases ex
        | some t => rw [h] at ex; exact ⟨t, rfl, Option.some.inj ex⟩
      obtain ⟨gt, dt⟩ := gp i t et
      have hi : i < 14 := by
        rw [← hts]
        exact (List.getElem?_eq_some_iff.mp et).1
      refine ⟨t, _, rfl, .inl (.inl gt), rfl, _, _, rfl, _, _, rfl, rfl, rfl, _, rfl, _, rfl, ?_⟩
      have nx := kinds_next (j := j) (i := i)
      cases e : (i == j) with
      | true =>
        rw [e, if_pos rfl] at nx
        refine iteT ⟨_, rfl, _, gD, Nat.lt_of_le_of_lt kinds_len (small300 (by omega)), ?_, ?_, fun i' t' e' => ?_, ?_, d7⟩
        · intro b u hb
          rw [upd_ne (ne_of_none hb nHD)]
          exact sG b u hb
        · rw [upd_ne d7]; exact g7
        · obtain ⟨z, nz⟩ := gp i' t' e'
          exact ⟨by rw [upd_ne nz]; exact z, nz⟩
        · rw [upd_same, nx]
      | false =>
        rw [e, if_neg (by decide), List.append_nil] at nx
        exact iteF ⟨sG, g7, gp, by rw [nx]; exact gD, d7⟩
    · obtain ⟨sG, g7, gp, gD, d7⟩ := p1
      rw [List.length_map, hts, kinds_all j lj] at gD
      refine ⟨_, rfl, D, _, rfl, .inl (.inl (.inl gD)), ?_⟩
      refine ⟨rfl, _, rfl, iteT ⟨_, rfl, no, _, _, _, rfl, .ty _, G.value (by omega), true, rfl, iteT ?_⟩⟩
      refine ⟨.ref D, rfl, D, _, 0, _, rfl, rfl, .inl (.inl gD), atI_nat (j := 0) rfl, ?_⟩
      exact qq _ sG
end
end PT


set_option maxHeartbeats 4000000
/-! the checks of the program -/
namespace PT
open PySem PySem.Spec PyProof.Rows L2

theorem FitsIs.kd {H : Hp} {v : V} {r : Bool} (h : FitsIs H v r) : ∃ n, Kd H v n := by
  cases h with
  | no k _ => exact ⟨_, k⟩
  | tup a _ _ => exact ⟨_, .tup a⟩
theorem fitsV_no {xs : List V} {i : Nat} {x : V} (h : xs[i]? = some x) (c : okV 0 (i : Nat) x = false) : fitsV xs = false := by
  unfold fitsV
  have e := okVs_at h
  rw [c] at e
  have z : (okVs xs).all id = false := by
    rw [List.all_eq_false]
    exact ⟨false, List.mem_of_getElem? e, by decide⟩
  rw [z, Bool.and_false]
theorem okVs_next {xs : List V} {i : Nat} {x : V} (h : xs[i]? = some x) (a : ((okVs xs).take i).all id = true) (c : okV 0 (i : Nat) x = true) : ((okVs xs).take (i + 1)).all id = true := by
  rw [take_next (okVs_at h), List.all_append, a, c]
  rfl
section
variable {P : Program} {w : World} {K : PySem.W.Frag} {mg : Str → Option Value} {base : Heap}
def spIsInteger : Sp := fun vs H Q _ => ∃ v n, vs = [v] ∧ Kd H v n ∧ Q (.bl (isI v)) H
theorem Tx.isInteger (T : Tx K mg) {k : Nat} : FnOk P w K mg base CX0 (k + 1) T.f_is_integer T.d_is_integer ["value"] spIsInteger := by
  refine T.F_is_integer.ok scIsInteger (fun vs H Q E h => ?_) (fun cdv A outer s H vs Q E hr h => ?_)
  · obtain ⟨v, n, rfl, _⟩ := h
    rfl
  · obtain ⟨v, n, rfl, hk, q⟩ := h
    refine ⟨_, pss_one (ps_ret (pe_and (pe_callB call_isi (by rfl) T.n_isinstance (by decide +kernel) (pa_cons (pv 0) (pa_cons (pe_bltn (v := .ty "int") (by rfl) T.n_int (by decide +kernel) rfl) pa_nil)))
      (pe_one (pe_not (pe_callB call_isi (by rfl) T.n_isinstance (by decide +kernel) (pa_cons (pv 0) (pa_cons (pe_bltn (v := .ty "bool") (by rfl) T.n_bool (by decide +kernel) rfl) pa_nil))))))), ?_⟩
    refine ⟨v, rfl, v, .ty "int", _, _, _, rfl, .ty _, hk.tyx, kd_int hk, _, rfl, ?_⟩
    refine ite2 (fun e => ⟨v, rfl, v, .ty "bool", _, _, _, rfl, .ty _, hk.tyx, kd_bool hk, _, rfl, ?_⟩) fun e => ?_
    · cases v <;> first | exact q | (simp [isI, isB] at e)
    · cases v <;> first | exact q | (simp [isI, isB] at e)
def spIsWithin : Sp := fun vs H Q _ => ∃ v n lo hi, vs = [v, .int lo, .int hi] ∧ Kd H v n ∧ Q (.bl (okV lo hi v)) H
/-! ### fits_plant -/
def spFits : Sp := fun vs H Q _ => ∃ v r, vs = [v] ∧ FitsIs H v r ∧ ∀ H', Same H H' → Q (.bl r) H'
theorem Tx.fits (T : Tx K mg) {k : Nat} : FnOk P w K mg base CX0 (k + 1) T.f_fits_plant T.d_fits_plant ["value"] spFits := by
  refine T.F_fits_plant.ok scFitsPlant (fun vs H Q E h => ?_) (fun cdv A outer s H vs Q E hr h => ?_)
  · obtain ⟨v, r, rfl, _⟩ := h
    rfl
  · obtain ⟨v, r, rfl, hf, q⟩ := h
    have nd := scFitsPlant.nd
    refine ⟨_, pss_cons (ps_if (PW.pt (pw_or (pt_not (pt_val (pe_callB call_isi (by rfl) T.n_isinstance (by decide +kernel) (pa_cons (pv 0) (pa_cons (pe_bltn (v := .ty "tuple") (by rfl) T.n_tuple (by decide +kernel) rfl) pa_nil)))))
        (pw_or1 (pt_cmpR op_ge (pe_callB call_len_seq (by rfl) T.n_len PySem.boot_len (pa_cons (pv 0) pa_nil)) (pe_glob (v := .int 40) rfl T.g_MOST_STATIONS ⟨_, rfl⟩) (nomark _)))))
        (pss_one (ps_ret pe_bl)) pss_nil)
      (pss_cons (ps_set (i := 1) nd rfl (.inl rfl) pe_int)
      (pss_cons (ps_for PassesOwn.never rfl (pi_tup (pv 0)) (pg_name (i := 2) nd rfl (.inl rfl))
        (pss_cons (ps_if (PW.pt (pw_or (pt_not (pt_val (pe_callB call_isi (by rfl) T.n_isinstance (by decide +kernel) (pa_cons (pv 2) (pa_cons (pe_bltn (v := .ty "int") (by rfl) T.n_int (by decide +kernel) rfl) pa_nil)))))
            (pw_or (pt_cmpR op_isK (pv 2) pe_bl (nomark _)) (pw_or (pt_cmpR op_isK (pv 2) pe_bl (nomark _)) (pw_or (pt_cmpR op_lt (pv 2) pe_int (nomark _)) (pw_or1 (pt_cmpR op_gt (pv 2) (pv 1) (nomark _))))))))
          (pss_one (ps_ret pe_bl)) pss_nil)
        (pss_one (ps_aug (i := 1) nd rfl (.inl rfl) pe_int ip_add))))
      (pss_one (ps_ret pe_bl)))), ?_⟩
    cases hf with
    | no hk hn =>
      refine ⟨_, rfl, _, .ty "tuple", _, _, _, rfl, .ty _, hk.tyx, kd_tuple hk, _, rfl, ?_⟩
      rw [show (_ == "tuple") = false from beq_eq_false_iff_ne.mpr hn]
      exact iteT (iteT (q _ (Same.refl H)))
    | @tup a xs ha hl hx =>
      refine ⟨_, rfl, _, .ty "tuple", _, _, _, rfl, .ty _, (Kd.tup ha).tyx, kd_tuple (.tup ha), _, rfl, ?_⟩
      have hT : SqT K H a xs := .inl (.inl ha)
      refine iteF ⟨_, rfl, a, xs, rfl, .inr hT, (xs.length : Int), 40, rfl, rfl, _, rfl, ite2 (fun e => ?_) fun e => ?_⟩
      · have z : fitsV xs = false := by
          unfold fitsV
          rw [decide_eq_false (by have := of_decide_eq_true e; omega), Bool.false_and]
        rw [z] at q
        exact q _ (Same.refl H)
      · have lt : xs.length < 40 := by
          have := of_decide_eq_false (eq_false_of_ne_true e)
          omega
        have z : fitsV xs = (okVs xs).all id := by
          unfold fitsV
          rw [decide_eq_true lt, Bool.true_and]
        refine ⟨_, rfl, a, rfl, ⟨_, hT⟩, ?_⟩
        refine for_tup (xs := xs) (fun i σ H' => H' = H ∧ ((okVs xs).take i).all id = true ∧ ∃ o, σ = [some (.ref a), some (.int (i : Nat)), o]) ⟨rfl, rfl, none, rfl⟩ (fun i σ H' _ p => by rw [p.1]; exact hT) (fun i x σ H' ex p => ?_) (fun σ H' p => ?_)
        · obtain ⟨rfl, al, o, rfl⟩ := p
          obtain ⟨m, km⟩ := hx x (List.mem_of_getElem? ex)
          have bad : okV 0 (i : Nat) x = false → Q (.bl false) H' := fun c => by
            have y := q H' (Same.refl H')
            rw [fitsV_no ex c] at y
            exact y
          refine ⟨x, rfl, x, .ty "int", _, _, _, rfl, .ty _, km.tyx, kd_int km, _, rfl, ?_⟩
          by_cases c1 : (isI x || isB x) = true
          · rw [c1]
            have kb : (∃ a, x = V.bl a) ∨ ∃ i, x = V.int i := by
              cases x <;> first | exact .inl ⟨_, rfl⟩ | exact .inr ⟨_, rfl⟩ | exact nomatch (show false = true from c1)
            refine iteF ⟨x, rfl, true, rfl, kb, _, rfl, ?_⟩
            rcases kb with ⟨b, rfl⟩ | ⟨j, rfl⟩
            · cases b with
              | true => exact iteT (iteT (bad rfl))
              | false => exact iteF ⟨_, rfl, false, rfl, .inl ⟨_, rfl⟩, _, rfl, iteT (iteT (bad rfl))⟩
            · refine iteF ⟨_, rfl, false, rfl, .inr ⟨_, rfl⟩, _, rfl, iteF ⟨_, rfl, j, 0, rfl, rfl, _, rfl, ite2 (fun e1 => iteT ?ca) fun e1 => ⟨_, rfl, _, rfl, j, (i : Nat), rfl, rfl, _, rfl, ite2 (fun e2 => ?cb) fun e2 => ?cc⟩⟩⟩
              case ca =>
                refine bad ?_
                show (decide (0 ≤ j) && decide (j ≤ ((i : Nat) : Int))) = false
                rw [decide_eq_false (by have := of_decide_eq_true e1; omega), Bool.false_and]
              case cb =>
                refine bad ?_
                show (decide (0 ≤ j) && decide (j ≤ ((i : Nat) : Int))) = false
                rw [decide_eq_false (show ¬ j ≤ ((i : Nat) : Int) by have := of_decide_eq_true e2; omega), Bool.and_false]
              case cc =>
                have g1 := of_decide_eq_false (eq_false_of_ne_true e1)
                have g2 := of_decide_eq_false (eq_false_of_ne_true e2)
                have ok1 : okV 0 (i : Nat) (.int j) = true := by
                  show (decide (0 ≤ j) && decide (j ≤ ((i : Nat) : Int))) = true
                  rw [decide_eq_true (by omega), decide_eq_true (by omega)]
                  rfl
                refine ⟨_, rfl, _, _, rfl, rfl, rfl, okVs_next ex al ok1, _, rfl⟩
          · have c2 := eq_false_of_ne_true c1
            rw [c2]
            refine iteT (iteT (bad ?_))
            cases x <;> first | rfl | exact nomatch (show true = false from c2)
        · obtain ⟨rfl, al, o, rfl⟩ := p
          rw [List.take_of_length_le (by rw [okVs_len]; omega)] at al
          rw [z, al] at q
          exact q _ (Same.refl _)
/-! ### check_plant, check_station, is_plant -/
def spIsPlant : Sp := spFits
def spCheckPlant : Sp := fun vs H Q _ => ∃ v, vs = [v] ∧ FitsIs H v true ∧ ∀ H', Same H H' → Q .non H'
theorem Tx.checkPlant (T : Tx K mg) {k : Nat} : FnOk P w K mg base CX0 (k + 2) T.f_check_plant T.d_check_plant ["plant"] spCheckPlant := by
  refine T.F_check_plant.ok scCheckPlant (fun vs H Q E h => ?_) (fun cdv A outer s H vs Q E hr h => ?_)
  · obtain ⟨v, rfl, _⟩ := h
    rfl
  · obtain ⟨v, rfl, hf, q⟩ := h
    refine ⟨_, pss_one (ps_if (pt_not (pt_val (pe_call T.fits hr (by rfl) T.g_fits_plant T.F_fits_plant.kp T.b_fits_plant .nil pass0 (pa_cons (pv 0) pa_nil)))) (pss_one ps_never) pss_nil), ?_⟩
    exact ⟨v, rfl, v, true, rfl, hf, fun H' sm => ⟨true, rfl, iteF (q H' sm)⟩⟩
def spFitsStation : Sp := fun vs H Q _ => ∃ (p : Addr) (xs : List V) (v : V) (n : String), vs = [.ref p, v] ∧ SqT K H p xs ∧ Kd H v n ∧ Q (.bl (okV 0 (xs.length : Nat) v)) H
def spCheckStation : Sp := fun vs H Q _ => ∃ (p : Addr) (xs : List V) (j : Int), vs = [.ref p, .int j] ∧ SqT K H p xs ∧ 0 ≤ j ∧ j ≤ xs.length ∧ Q .non H
/-! ### fits_stock, check_stock, check_supplier, check_days -/
def spFitsStock : Sp := fun vs H Q _ => ∃ (p q : Addr) (xs : List V) (ss : List Int), vs = [.ref p, .ref q] ∧ SqT K H p xs ∧ H q = some (.tup (ss.map V.int)) ∧ ss.length = xs.length + 1 ∧ ss.length ≤ 100 ∧ ss.Nodup ∧ ∀ H', Same H H' → Q (.bl true) H'
theorem Tx.fitsStock (T : Tx K mg) {k : Nat} : FnOk P w K mg base CX0 (k + 2) T.f_fits_stock T.d_fits_stock ["plant", "value"] (spFitsStock (K := K)) := by
  refine T.F_fits_stock.ok scFitsStock (fun vs H Q E h => ?_) (fun cdv A outer s H vs Q E hr h => ?_)
  · obtain ⟨p, q, xs, ss, rfl, _⟩ := h
    rfl
  · obtain ⟨p, q, xs, ss, rfl, hT, hq, hl, hs, nd, qq⟩ := h
    refine ⟨_, pss_cons (ps_if (PW.pt (pw_or (pt_not (pt_val (pe_callB call_isi (by rfl) T.n_isinstance (by decide +kernel) (pa_cons (pv 1) (pa_cons (pe_bltn (v := .ty "tuple") (by rfl) T.n_tuple (by decide +kernel) rfl) pa_nil)))))
        (pw_or1 (pt_cmpR op_ne (pe_callB call_len_seq (by rfl) T.n_len PySem.boot_len (pa_cons (pv 1) pa_nil)) (pe_op op_add (pe_callB call_len_seq (by rfl) T.n_len PySem.boot_len (pa_cons (pv 0) pa_nil)) pe_int) (nomark _)))))
        (pss_one (ps_ret pe_bl)) pss_nil)
      (pss_cons (ps_if (pt_not (pt_val (pe_callB (cr_all rfl) (by rfl) T.n_all (by decide +kernel) (pa_cons
          (pe_lc (own := [("box", 2)]) (g := gName 2) (tt := tYes) (te := tCall spIsInteger [] E0 (tCons (tVar 2) tNil)) rfl scFitsStock.nd (pi_tup (pv 1)) (blkOk_by (N := ["plant", "value", "box"]) (sc := defScope sFitsStock) (by decide +kernel))
            (fun _ _ _ _ _ => pg_name (i := 2) scFitsStock.nd rfl (.inl rfl)) (fun _ _ _ _ _ => pts_nil)
            (fun _ _ _ _ _ => pe_call T.isInteger hr (by rfl) T.g_is_integer T.F_is_integer.kp T.b_is_integer .nil pass0 (pa_cons (pv 2) pa_nil))) pa_nil)))) (pss_one (ps_ret pe_bl)) pss_nil)
      (pss_one (ps_ret (pe_cmpR op_eq (pe_lenSetT (by rfl) T.n_len (by rfl) T.n_set (pv 1)) (pe_callB call_len_seq (by rfl) T.n_len PySem.boot_len (pa_cons (pv 1) pa_nil)) (nomark _))))), ?_⟩
    have hv : SqT K H q (ss.map V.int) := .inl (.inl hq)
    refine ⟨_, rfl, _, .ty "tuple", _, _, _, rfl, .ty _, (Kd.tup hq).tyx, kd_tuple (.tup hq), _, rfl, ?_⟩
    refine iteF ⟨_, rfl, q, _, rfl, .inr hv, .ref p, rfl, p, xs, rfl, .inr hT, _, 1, rfl, rfl, rfl, _, rfl, ?_⟩
    rw [show ((ss.map V.int).length : Int) = (xs.length : Int) + 1 by rw [List.length_map, hl]; rfl]
    rw [show (!decide (V.int ((xs.length : Int) + 1) = V.int ((xs.length : Int) + 1))) = false by rw [decide_eq_true rfl]; rfl]
    refine iteF ⟨.ref q, rfl, q, rfl, ⟨_, hv⟩, fun D nD => ?_⟩
    refine lc_tup (xs := ss.map V.int) (fun i H' => Same H H' ∧ H' D = some (.lst ((List.replicate i true).map V.bl))) ⟨same_new nD, upd_same⟩ (fun i H' _ p1 => seqT p1.1 hv) (fun i x H1 ex p1 => ?_) (fun H' p1 => ?_)
    · obtain ⟨sm, eD⟩ := p1
      obtain ⟨n, en, rfl⟩ : ∃ n, ss[i]? = some n ∧ V.int n = x := by
        rw [List.getElem?_map] at ex
        cases z : ss[i]? with
        | none => rw [z] at ex; cases ex
        | some n => rw [z] at ex; cases ex; exact ⟨n, rfl, rfl⟩
      have hi := (List.getElem?_eq_some_iff.mp en).1
      refine ⟨rfl, tyes_if ⟨.int n, rfl, .int n, "int", rfl, .int n, _, eD, ?_, fun b o hb => ?_, ?_⟩⟩
      · rw [List.length_map, List.length_replicate]
        exact small300 (by omega)
      · rw [upd_ne (ne_of_none hb nD)]
        exact sm _ _ hb
      · rw [upd_same, List.replicate_succ', List.map_append]
        rfl
    · obtain ⟨sm, eD⟩ := p1
      have ea : (List.replicate (ss.map V.int).length true).all id = true := by
        rw [List.all_replicate]
        simp
      refine ⟨D, _, rfl, .inl (.inl eD), _, rfl, ?_⟩
      rw [ea]
      refine iteF ⟨.ref q, rfl, q, ss, rfl, seqT sm hv, nd, by omega, .ref q, rfl, q, _, rfl, .inr (seqT sm hv), rfl, ?_⟩
      rw [show ((ss.map V.int).length : Int) = ((ss.length : Nat) : Int) by rw [List.length_map], decide_eq_true rfl]
      exact qq H' sm
def spCheckStock : Sp := spFitsStock (K := K)
theorem Tx.checkStock (T : Tx K mg) {k : Nat} : FnOk P w K mg base CX0 (k + 3) T.f_check_stock T.d_check_stock ["plant", "stock"] (fun vs H Q E => spFitsStock (K := K) vs H (fun _ H' => Q .non H') E) := by
  refine T.F_check_stock.ok scCheckStock (fun vs H Q E h => ?_) (fun cdv A outer s H vs Q E hr h => ?_)
  · obtain ⟨p, q, xs, ss, rfl, _⟩ := h
    rfl
  · obtain ⟨p, q, xs, ss, rfl, hT, hq, hl, hs, nd, qq⟩ := h
    refine ⟨_, pss_one (ps_if (pt_not (pt_val (pe_call T.fitsStock hr (by rfl) T.g_fits_stock T.F_fits_stock.kp T.b_fits_stock .nil pass0 (pa_cons (pv 0) (pa_cons (pv 1) pa_nil))))) (pss_one ps_never) pss_nil), ?_⟩
    exact ⟨.ref p, rfl, .ref q, rfl, p, q, xs, ss, rfl, hT, hq, hl, hs, nd, fun H' sm => ⟨true, rfl, iteF (qq H' sm)⟩⟩
def spCheckSupplier : Sp := fun vs H Q _ => ∃ (p : Addr) (pl : List Int) (v u : Nat), vs = [.ref p, .int (v : Int), .int (u : Int)] ∧ PlantAt H p pl ∧ 0 < u ∧ u ≤ pl.length ∧ cu pl u = v ∧ Q .non H
def spCheckDays : Sp := fun vs H Q _ => ∃ d lo hi : Int, vs = [.int d, .int lo, .int hi] ∧ lo ≤ d ∧ d ≤ hi ∧ Q .non H
end
end PT


set_option maxHeartbeats 4000000
/-! the check of a stock that its object knows -/
namespace PT
open PySem PySem.Spec PyProof.Rows L2
section
variable {P : Program} {w : World} {K : PySem.W.Frag} {mg : Str → Option Value} {base : Heap}
def spFitsStockF : Sp := fun vs H Q _ => ∃ (p q : Addr) (xs : List V) (ss : List Int), vs = [.ref p, .ref q] ∧ SqT K H p xs ∧ StkAt H q ss ∧ ss.length = xs.length + 1 ∧ ss.length ≤ 100 ∧ ss.Nodup ∧ ∀ H', Same H H' → Q (.bl true) H'
theorem Tx.fitsStockF (T : Tx K mg) {k : Nat} : FnOk P w K mg base CX0 (k + 2) T.f_fits_stock T.d_fits_stock ["plant", "value"] (spFitsStockF (K := K)) := by
  refine T.F_fits_stock.ok scFitsStock (fun vs H Q E h => ?_) (fun cdv A outer s H vs Q E hr h => ?_)
  · obtain ⟨p, q, xs, ss, rfl, _⟩ := h
    rfl
  · obtain ⟨p, q, xs, ss, rfl, hT, hq, hl, hs, nd, qq⟩ := h
    refine ⟨_, pss_cons (ps_if (PW.pt (pw_or (pt_not (pt_val (pe_callB call_isi (by rfl) T.n_isinstance (by decide +kernel) (pa_cons (pv 1) (pa_cons (pe_bltn (v := .ty "tuple") (by rfl) T.n_tuple (by decide +kernel) rfl) pa_nil)))))
        (pw_or1 (pt_cmpR op_ne (pe_callB call_len_seq (by rfl) T.n_len PySem.boot_len (pa_cons (pv 1) pa_nil)) (pe_op op_add (pe_callB call_len_seq (by rfl) T.n_len PySem.boot_len (pa_cons (pv 0) pa_nil)) pe_int) (nomark _)))))
        (pss_one (ps_ret pe_bl)) pss_nil)
      (pss_cons (ps_if (pt_not (pt_val (pe_callB (cr_all rfl) (by rfl) T.n_all (by decide +kernel) (pa_cons
          (pe_lc (own := [("box", 2)]) (g := gName 2) (tt := tYes) (te := tCall spIsInteger [] E0 (tCons (tVar 2) tNil)) rfl scFitsStock.nd (pi_tup (pv 1)) (blkOk_by (N := ["plant", "value", "box"]) (sc := defScope sFitsStock) (by decide +kernel))
            (fun _ _ _ _ _ => pg_name (i := 2) scFitsStock.nd rfl (.inl rfl)) (fun _ _ _ _ _ => pts_nil)
            (fun _ _ _ _ _ => pe_call T.isInteger hr (by rfl) T.g_is_integer T.F_is_integer.kp T.b_is_integer .nil pass0 (pa_cons (pv 2) pa_nil))) pa_nil)))) (pss_one (ps_ret pe_bl)) pss_nil)
      (pss_one (ps_ret (pe_cmpR op_eq (pe_lenSetT (by rfl) T.n_len (by rfl) T.n_set (pv 1)) (pe_callB call_len_seq (by rfl) T.n_len PySem.boot_len (pa_cons (pv 1) pa_nil)) (nomark _))))), ?_⟩
    have hv : SqT K H q (ss.map V.int) := hq.seq
    refine ⟨_, rfl, _, .ty "tuple", _, _, _, rfl, .ty _, hq.tyx, kit_tupT, _, rfl, ?_⟩
    refine iteF ⟨_, rfl, q, _, rfl, .inr hv, .ref p, rfl, p, xs, rfl, .inr hT, _, 1, rfl, rfl, rfl, _, rfl, ?_⟩
    rw [show ((ss.map V.int).length : Int) = (xs.length : Int) + 1 by rw [List.length_map, hl]; rfl]
    rw [show (!decide (V.int ((xs.length : Int) + 1) = V.int ((xs.length : Int) + 1))) = false by rw [decide_eq_true rfl]; rfl]
    refine iteF ⟨.ref q, rfl, q, rfl, ⟨_, hv⟩, fun D nD => ?_⟩
    refine lc_tup (xs := ss.map V.int) (fun i H' => Same H H' ∧ H' D = some (.lst ((List.replicate i true).map V.bl))) ⟨same_new nD, upd_same⟩ (fun i H' _ p1 => seqT p1.1 hv) (fun i x H1 ex p1 => ?_) (fun H' p1 => ?_)
    · obtain ⟨sm, eD⟩ := p1
      obtain ⟨n, en, rfl⟩ : ∃ n, ss[i]? = some n ∧ V.int n = x := by
        rw [List.getElem?_map] at ex
        cases z : ss[i]? with
        | none => rw [z] at ex; cases ex
        | some n => rw [z] at ex; cases ex; exact ⟨n, rfl, rfl⟩
      have hi := (List.getElem?_eq_some_iff.mp en).1
      refine ⟨rfl, tyes_if ⟨.int n, rfl, .int n, "int", rfl, .int n, _, eD, ?_, fun b o hb => ?_, ?_⟩⟩
      · rw [List.length_map, List.length_replicate]
        exact small300 (by omega)
      · rw [upd_ne (ne_of_none hb nD)]
        exact sm _ _ hb
      · rw [upd_same, List.replicate_succ', List.map_append]
        rfl
    · obtain ⟨sm, eD⟩ := p1
      have ea : (List.replicate (ss.map V.int).length true).all id = true := by
        rw [List.all_replicate]
        simp
      refine ⟨D, _, rfl, .inl (.inl eD), _, rfl, ?_⟩
      rw [ea]
      refine iteF ⟨.ref q, rfl, q, ss, rfl, seqT sm hv, nd, by omega, .ref q, rfl, q, _, rfl, .inr (seqT sm hv), rfl, ?_⟩
      rw [show ((ss.map V.int).length : Int) = ((ss.length : Nat) : Int) by rw [List.length_map], decide_eq_true rfl]
      exact qq H' sm
def spCheckStockF : Sp := spFitsStockF (K := K)
theorem Tx.checkStockF (T : Tx K mg) {k : Nat} : FnOk P w K mg base CX0 (k + 3) T.f_check_stock T.d_check_stock ["plant", "stock"] (fun vs H Q E => spFitsStockF (K := K) vs H (fun _ H' => Q .non H') E) := by
  refine T.F_check_stock.ok scCheckStock (fun vs H Q E h => ?_) (fun cdv A outer s H vs Q E hr h => ?_)
  · obtain ⟨p, q, xs, ss, rfl, _⟩ := h
    rfl
  · obtain ⟨p, q, xs, ss, rfl, hT, hq, hl, hs, nd, qq⟩ := h
    refine ⟨_, pss_one (ps_if (pt_not (pt_val (pe_call (T.fitsStockF (k := k)) hr (by rfl) T.g_fits_stock T.F_fits_stock.kp T.b_fits_stock .nil pass0 (pa_cons (pv 0) (pa_cons (pv 1) pa_nil))))) (pss_one ps_never) pss_nil), ?_⟩
    exact ⟨.ref p, rfl, .ref q, rfl, p, q, xs, ss, rfl, hT, hq, hl, hs, nd, fun H' sm => ⟨true, rfl, iteF (qq H' sm)⟩⟩
end
end PT

set_option maxHeartbeats 4000000
/-! defs that are called where nothing is being shown: they may use repr of data -/
namespace PT
open PySem PySem.Spec PyProof.Rows L2
/-- what such a def promises: as FnOk says, but only where the guards are known to be empty -/
structure FnG (Pg : Program) (wo : World) (K : PySem.W.Frag) (mg : Str → Option Value) (bs : Heap) (lv : Nat) (at_ : Addr) (fn : FuncData) (ps : List Str) (sp : Sp) : Prop where
  len : ∀ vs H Q E, sp vs H Q E → vs.length = ps.length
  run : ∀ (A : Around) (out : List Env) (st : Shared) (H : Hp) (given : Args) (us : List Value) (vs : List V) (Q : VK) (E : XK),
    A.guards = some [] → Room lv A → Env0 Pg wo K mg bs A out st H → BindsTo st fn given (ps.zip us) → Vals vs us → sp vs H Q E →
      codeAny (model Pg wo) A (.call (.ref at_) given) (CR CX0 out Pg wo H st Q E) st
section
variable {Pg : Program} {wo : World} {K : PySem.W.Frag} {mg : Str → Option Value} {bs : Heap} {at_ : Addr} {fn : FuncData} {ps : List Str} {sp : Sp}
theorem FnOk.toG {lv : Nat} (F : FnOk Pg wo K mg bs CX0 lv at_ fn ps sp) : FnG Pg wo K mg bs lv at_ fn ps sp := ⟨F.len, fun A out st H given us vs Q E _ => F.run A out st H given us vs Q E⟩
/-- from the reading of its body -/
theorem Fun.okG {name qual : Str} {st : Stmt} {N : List Str} {lv : Nat} (F : Fun K name qual st at_ fn) (S : FnScope N ps (defScope st)) (ln : ∀ vs H Q E, sp vs H Q E → vs.length = ps.length)
    (rd : ∀ (cdv : Value) (A : Around) (out : List Env) (s : Shared) (H : Hp) (vs : List V) (Q : VK) (E : XK),
      A.guards = some [] → Room lv (A.deeper (envOfC qual (defScope st) s.heap.objs.size at_ cdv)) → sp vs H Q E →
      ∃ t, PSs (cxOf CX0 Pg wo K mg bs N qual (defScope st) at_ cdv A out s H E).nox (defBody st) t ∧ t ⟨fun _ H2 => Q .non H2, Q, fun _ _ => False, fun _ _ => False⟩ (start N vs) H) :
    FnG Pg wo K mg bs (lv + 1) at_ fn ps sp := by
  obtain ⟨_, _, _, _, _, _, cdv, _, _, e, lk, cd⟩ := F.ex
  subst e
  refine ⟨ln, fun A out s H given us vs Q E empty room en bd rv hs => at_body lk cd S room en bd rv (ln _ _ _ _ hs) ?_⟩
  obtain ⟨t, h, q⟩ := rd cdv A out s H vs Q E empty (room.deeper _) hs
  exact ⟨t, h.nox, q⟩
end
section
variable {X : Cx} {lv : Nat} {at_ : Addr} {fn : FuncData} {ps : List Str} {sp : Sp} {more : List V} {ds : List Value}
theorem run_fnG {pins : List (Addr × Obj)} {σ : L2.St} {H : Hp} {st : Shared} {Q : VK} {E : XK} {us : List Value} {vs : List V} (F : FnG X.prog X.w X.K X.mg X.base lv at_ fn ps sp) (empty : X.A.guards = some []) (room : Room lv X.A)
    (bd : Binds X.K fn ps ds) (rm : Vals more ds) (J : Inv X pins σ H st) (rv : Vals vs us) (hs : sp (vs ++ more) H Q E) : wpAny (model X.prog X.w) X.A (call (.ref at_) us) (EP X pins σ Q) X.xe st := by
  have all := rv.append rm
  have count : (us ++ ds).length = ps.length := all.length.symm.trans (F.len _ _ _ _ hs)
  have ran := F.run X.A X.stack st H ⟨us, []⟩ _ _ Q E empty room J.env0 (bd st us J.kIn count) all hs
  refine wpAny_call (codeAny_mono ran ?_)
  rintro (er | fl) st2 z
  · exact z.elim
  · cases fl <;> first | exact J.after z | exact z.elim
/-- f(x, ..) for such a def -/
theorem pe_callG {name : Str} {p1 p2 : Pos} {a1 : Expr} {rest : List Expr} {t : TA} (F : FnG X.prog X.w X.K X.mg X.base lv at_ fn ps sp) (empty : X.A.guards = some []) (room : Room lv X.A) (gl : Gl X name) (is : X.mg name = some (.ref at_))
    (kp : PySem.W.keepIn X.K (.ref at_) = true) (bd : Binds X.K fn ps ds) (rm : Vals more ds) (hargs : PA X (a1 :: rest) t)
    (c1 : (name == ("__debug__" : Str)) = false := by decide) (c2 : starEach (a1 :: rest) X.env = (false, eval a1 X.env) :: starEach rest X.env := by rfl)
    (c3 : (backTo p2 (starEach rest X.env)).any (·.1) = false := by rfl) : PE X (.Call (.Name name p1) (a1 :: rest) [] p2) (tCall sp more E0 t) := by
  constructor
  intro pins st σ H Q J h
  have ran := hargs.run p2 pins st σ H _ J h
  refine wpAny_Call_Name_kw (ld_glob J gl is (PySem.W.callWith_K (h₀ := X.base) J.ok.mod.kin kp (thn ran ?_) c2 c3) c1)
  rintro us st2 ⟨vs, H2, J2, rv, q⟩
  exact ⟨J2.kIn, run_fnG F empty room bd rm J2 rv q⟩
end
end PT

set_option maxHeartbeats 4000000
/-! the law's own call where defs of the program make lambdas: their tables of code objects stand empty, and are tracked -/
namespace PT
open PySem PySem.Spec PyProof.Rows L2 LamX

/-- a def whose code object is known by its place -/
structure FunC (K : PySem.W.Frag) (x qual : Str) (st : Stmt) (f : Addr) (fd : FuncData) (c : Addr) : Prop where
  ex : ∃ (oc : Value) (od : Option Addr) (kV doc pm : Value) (an : Option Addr) (ct : Value) (osl : Array (Option Value)),
    fd = PySem.W.fnOf x qual (defArgs st) (defBody st) (defScope st) .none kV doc pm an (.ref c) ct ∧ K.lookup f = some ⟨oc, od, .func fd, osl⟩ ∧ PySem.W.codeIn K (.ref c) qual = true
  kp : PySem.W.keepIn K (.ref f) = true
section
variable {P : Program} {w : World} {K : PySem.W.Frag} {mg : Str → Option Value} {base : Heap}
theorem FunC.fun {x qual : Str} {st : Stmt} {f c : Addr} {fd : FuncData} (F : FunC K x qual st f fd c) : Fun K x qual st f fd :=
  ⟨let ⟨oc, od, kV, doc, pm, an, ct, osl, h⟩ := F.ex; ⟨oc, od, kV, doc, pm, an, .ref c, ct, osl, h⟩, F.kp⟩
theorem FunC.ok {x qual : Str} {st : Stmt} {f c : Addr} {fd : FuncData} {N ps : List Str} {k : Nat} {sp : Sp} (F : FunC K x qual st f fd c) (S : FnScope N ps (defScope st)) (len : ∀ vs H Q E, sp vs H Q E → vs.length = ps.length)
    (rd : ∀ (A : Around) (outer : List Env) (s : Shared) (H : Hp) (vs : List V) (Q : VK) (E : XK), Room k (A.deeper (envOfC qual (defScope st) s.heap.objs.size f (.ref c))) → sp vs H Q E →
      ∃ t, PSs (cxOf CX0 P w K mg base N qual (defScope st) f (.ref c) A outer s H E).nox (defBody st) t ∧ t { nx := fun _ H' => Q .non H', rt := Q } (start N vs) H) : FnOk P w K mg base CX0 (k + 1) f fd ps sp := by
  obtain ⟨oc, od, kV, doc, pm, an, ct, osl, e, lk, cd⟩ := F.ex
  subst e
  refine fn_of lk cd S len fun A outer s H vs Q E room hs => ?_
  obtain ⟨t, h, q⟩ := rd A outer s H vs Q E room hs
  exact ⟨t, h.nox, q⟩
theorem funC_mk {x qual : Str} {st : Stmt} {f c : Addr} {oc : Value} {od an : Option Addr} {osl : Array (Option Value)} {kV doc pm ct : Value} (l : K.lookup f = some ⟨oc, od, .func (PySem.W.fnOf x qual (defArgs st) (defBody st) (defScope st) .none kV doc pm an (.ref c) ct), osl⟩)
    (d : PySem.W.codeIn K (.ref c) qual = true) (k : PySem.W.keepIn K (.ref f) = true) : FunC K x qual st f (PySem.W.fnOf x qual (defArgs st) (defBody st) (defScope st) .none kV doc pm an (.ref c) ct) c := ⟨⟨oc, od, kV, doc, pm, an, ct, osl, rfl, l, d⟩, k⟩
end
/-- nothing is tracked but the script and these tables, all empty -/
def OnlyT (cs : List (Addr × Addr)) (H : Hp) : Prop := ∀ b, H b = none ∨ b ∈ cs.map (·.2) ∨ ∃ o xs, H b = some (.frz o (.lst xs))
theorem law_atGT {P : Program} {w : World} {K : PySem.W.Frag} {mg mb : Str → Option Value} {fa a : Addr} {s₁ : Shared} {vs : List Value} {ns : List Int} {cs : List (Addr × Addr)}
    (kin : K.In s₁.heap) (gl : s₁.heap.Ns mainGlobals mg) (bl : s₁.heap.Ns builtinsNs mb) (bb : ∀ x : Str, x ≠ "__name__" → mb x = bootBuiltins x) (nl : s₁.heap.NoLimit) (gn : s₁.gens = #[])
    (tb : ∀ p ∈ cs, s₁.heap.get? p.2 = some (PySem.W.tabObj #[])) (tn : ∀ p ∈ cs, K.lookup p.2 = none) (tc : ∀ p ∈ cs, PySem.W.CodeHd s₁.heap p.1 p.2)
    (bm : ∃ (m : Addr) (ob : Obj), mg "__builtins__" = some (.ref m) ∧ m ≠ builtinsNs ∧ s₁.heap.get? m = some ob ∧ ob.cls = .type "module" ∧ ob.dict = some builtinsNs ∧ ob.data = .plain)
    (ha : s₁.heap.get? a = some { cls := .type "list", data := .seq vs.toArray }) (hi : IntsAre vs ns) (hl : ns.length ≤ sizeLine)
    (F : ∀ (base : Heap) (H : Hp), K.In base → base.Ns mainGlobals mg → (∀ p ∈ cs, TabB base mg p.1 p.2) → (∀ p ∈ cs, H p.2 = some (.tbl #[])) → SqL K H a (ns.map V.int) → Env0 P w K mg base callerA [] s₁ H →
      codeAny (model P w) callerA (.call (.ref fa) ⟨[.ref a], []⟩) (CR CX0 [] P w H s₁ (fun v _ => v = .bl true) fun _ _ _ => False) s₁) :
    codeAny (model P w) callerA (.call (.ref fa) ⟨[.ref a], []⟩) (fun r s' => r = .ok (.ret (.bool true)) ∧ OldK s₁.heap s'.heap ∧ s'.os = s₁.os ∧ AllBare s'.gens) s₁ := by
  have rv := vals_ints hi
  have ln := hi.length
  have tabAt : ∀ b, b ∈ cs.map (·.2) → s₁.heap.get? b = some (PySem.W.tabObj #[]) := fun b hb => by
    obtain ⟨p, hp, rfl⟩ := List.mem_map.mp hb
    exact tb p hp
  have aNot : a ∉ cs.map (·.2) := fun z => by
    have y := tabAt a z
    rw [ha] at y
    have y2 := congrArg Obj.data (Option.some.inj y)
    cases y2
  have inT : ∀ p ∈ cs, p.2 ∈ cs.map (·.2) := fun p hp => List.mem_map.mpr ⟨p, hp, rfl⟩
  suffices main : ∃ H : Hp, OnlyT cs H ∧ (∀ p ∈ cs, H p.2 = some (.tbl #[])) ∧ SqL K H a (ns.map V.int) ∧ HOk P w H s₁.heap ∧ (∀ b, H b ≠ none → b ∈ cs.map (·.2) ∨ (b = a ∧ K.lookup a = none)) by
    obtain ⟨H, o1, ot, o2, ok, tr⟩ := main
    have keepH : ∀ {b : Addr} {o : Obj}, s₁.heap.get? b = some o → H b = none → (hidT s₁.heap H).get? b = some o := fun z n => hidT_get z n
    -- what is no list and no empty table is not tracked
    have free : ∀ {b : Addr} {o : Obj}, s₁.heap.get? b = some o → (∀ us n, o.data ≠ .seq us n) → o.data ≠ .fields #[] → H b = none := fun {b o} z1 z2 z3 => by
      by_cases n : H b = none
      · exact n
      · rcases tr b n with y | ⟨y, _⟩
        · rw [tabAt b y] at z1
          cases z1
          exact absurd rfl z3
        · rw [y, ha] at z1
          cases z1
          exact absurd rfl (z2 _ _)
    have seqNot : ∀ {b : Addr} {o : Obj} {es : Array DictEntry} {ep : Nat}, s₁.heap.get? b = some o → o.data = .dict es ep → H b = none := fun {b o es ep} z1 z2 =>
      free z1 (fun us n y => by rw [z2] at y; cases y) fun y => by rw [z2] at y; cases y
    have nss : ∀ {b : Addr} {m : Str → Option Value}, s₁.heap.Ns b m → (hidT s₁.heap H).Ns b m := by
      rintro b m ⟨o, es, ep, z1, z2, r⟩
      exact ⟨o, es, ep, keepH z1 (seqNot z1 z2), z2, r⟩
    have kb : K.In (hidT s₁.heap H) := by
      intro b o z
      refine keepH (kin b o z) ?_
      by_cases n : H b = none
      · exact n
      · rcases tr b n with y | ⟨y, y2⟩
        · obtain ⟨p, hp, e⟩ := List.mem_map.mp y
          rw [← e, tn p hp] at z
          cases z
        · rw [y, y2] at z
          cases z
    have md : Mod K mg (hidT s₁.heap H) := by
      obtain ⟨mc, c1, c2⟩ := nl
      exact ⟨kb, nss gl, ⟨mb, nss bl, bb⟩, ⟨mc, nss c1, c2⟩⟩
    have tabs : ∀ p ∈ cs, TabB (hidT s₁.heap H) mg p.1 p.2 := fun p hp => by
      have tp := tb p hp
      refine ⟨?_, ?_, fun z => ?_⟩
      · obtain ⟨o, us, f1, f2, f3, f4, f5, f6, f7, e1, e2, e3, rest⟩ := tc p hp
        refine ⟨o, us, f1, f2, f3, f4, f5, f6, f7, keepH e1 (free e1 (fun _ _ y => ?_) fun y => ?_), e2, e3, rest⟩
        · rw [e3] at y
          cases y
        · rw [e3] at y
          cases y
          have z := rest.1
          simp at z
      · obtain ⟨m, ob, b1, b2, b3, b4, b5, b6⟩ := bm
        have m1 : m ≠ mainGlobals := fun z => by
          obtain ⟨o, es, ep, y, yd, _⟩ := gl
          rw [z, y] at b3
          cases b3
          rw [yd] at b6
          cases b6
        have m2 : m ≠ p.2 := fun z => by
          rw [z, tp] at b3
          cases b3
          cases b6
        refine ⟨m, ob, b1, b2, m1, m2, keepH b3 (free b3 (fun _ _ y => ?_) fun y => ?_), b4, b5, b6⟩
        · rw [b6] at y
          cases y
        · rw [b6] at y
          cases y
      · obtain ⟨o, es, ep, y, yd, _⟩ := gl
        rw [z, tp] at y
        cases y
        cases yd
    have en : Env0 P w K mg (hidT s₁.heap H) callerA [] s₁ H :=
      ⟨rfl, md, fun _ _ z => of_hidT z, Nat.le_of_eq (hidT_size _ _), trivial, fun b z => absurd (show b ∈ ([] : List Addr) from z) (by simp), ok, .of_eq gn⟩
    refine codeAny_mono (F _ H kb (nss gl) tabs ot o2 en) fun r s2 z => ?_
    match r, z with
    | .error _, z => exact False.elim z
    | .ok .next, z => exact False.elim z
    | .ok .brk, z => exact False.elim z
    | .ok .cont, z => exact False.elim z
    | .ok (.ret u), z =>
      obtain ⟨v, H2, os, bare, un, ok2, rr, q⟩ := z
      have q2 : v = .bl true := q
      subst q2
      obtain rfl : u = Value.bool true := rr
      have same : ∀ b o, b ∉ cs.map (·.2) → s₁.heap.get? b = some o → s2.heap.get? b = some o := fun b o nb z => by
        rcases o1 b with n | y | ⟨ob, xs, y⟩
        · exact un.keep b o z n (fun y => absurd (show b ∈ ([] : List Addr) from y) (by simp)) (by simp)
        · exact absurd y nb
        · obtain ⟨y1, _⟩ := ok b _ y
          obtain ⟨y2, _⟩ := ok2 b _ (un.frzs b ob _ y)
          rw [z] at y1
          cases y1
          exact y2
      have more : ∀ p ∈ cs, ∃ m : Array Value, s2.heap.get? p.2 = some (PySem.W.tabObj m) := fun p hp => by
        obtain ⟨m, y⟩ := un.tbls p.2 #[] (ot p hp)
        exact ⟨_, ok2 p.2 _ y⟩
      refine ⟨rfl, ⟨fun b o z => ?_, fun b o z => ?_⟩, os, bare⟩
      · by_cases hb : b ∈ cs.map (·.2)
        · obtain ⟨p, hp, e⟩ := List.mem_map.mp hb
          obtain ⟨m, hm⟩ := more p hp
          rw [← e] at z ⊢
          rw [tb p hp] at z
          cases z
          exact .inr (.inl ⟨((tc p hp).tab (tb p hp)).isCodeTable, rfl, #[], m, rfl, by rw [Array.empty_append]; exact hm⟩)
        · exact .inl (same b o hb z)
      · by_cases hb : b ∈ cs.map (·.2)
        · obtain ⟨p, hp, e⟩ := List.mem_map.mp hb
          obtain ⟨m, hm⟩ := more p hp
          rw [← e]
          exact ⟨_, hm⟩
        · exact ⟨o, same b o hb z⟩
  let tabH : Hp := fun b => if b ∈ cs.map (·.2) then some (.tbl #[]) else none
  have t1 : ∀ {b}, b ∈ cs.map (·.2) → tabH b = some (.tbl #[]) := fun hb => if_pos hb
  have t0 : ∀ {b}, b ∉ cs.map (·.2) → tabH b = none := fun hb => if_neg hb
  cases hk : K.lookup a with
  | some o =>
    have z := kin a o hk
    rw [ha] at z
    cases z
    refine ⟨tabH, fun b => ?_, fun p hp => t1 (inT p hp), .inr ⟨_, vs.toArray, _, hk, rfl, rfl, rfl, by rw [List.size_toArray, ln]; exact hl, by simpa using rv⟩, fun b u y => ?_, fun b y => ?_⟩
    · by_cases hb : b ∈ cs.map (·.2)
      · exact .inr (.inl hb)
      · exact .inl (t0 hb)
    · by_cases hb : b ∈ cs.map (·.2)
      · have y2 := (t1 hb).symm.trans y
        cases y2
        exact tabAt b hb
      · have y2 := (t0 hb).symm.trans y
        cases y2
    · by_cases hb : b ∈ cs.map (·.2)
      · exact .inl hb
      · exact absurd (t0 hb) y
  | none =>
    let scr : HO := .frz { cls := .type "list", data := .seq vs.toArray } (.lst (ns.map V.int))
    have s0 : upd tabH a scr a = some scr := upd_same
    have s1 : ∀ {b}, b ≠ a → upd tabH a scr b = tabH b := fun hb => upd_ne hb
    refine ⟨upd tabH a scr, fun b => ?_, fun p hp => ?_, .inl (.inr ⟨_, s0⟩), fun b u y => ?_, fun b y => ?_⟩
    · by_cases e : b = a
      · subst e
        exact .inr (.inr ⟨_, _, s0⟩)
      · by_cases hb : b ∈ cs.map (·.2)
        · exact .inr (.inl hb)
        · exact .inl ((s1 e).trans (t0 hb))
    · have e : p.2 ≠ a := fun z => aNot (z ▸ inT p hp)
      exact (s1 e).trans (t1 (inT p hp))
    · by_cases e : b = a
      · subst e
        have y2 := s0.symm.trans y
        cases y2
        exact ⟨ha, by rw [List.length_map]; exact hl, vs, _, rv, ha⟩
      · have y1 := (s1 e).symm.trans y
        by_cases hb : b ∈ cs.map (·.2)
        · have y2 := (t1 hb).symm.trans y1
          cases y2
          exact tabAt b hb
        · have y2 := (t0 hb).symm.trans y1
          cases y2
    · by_cases e : b = a
      · exact .inr ⟨e, rfl⟩
      · by_cases hb : b ∈ cs.map (·.2)
        · exact .inl hb
        · exact absurd ((s1 e).trans (t0 hb)) y
/-- what k_head leaves, from such a call -/
theorem walk_GT {l : PySem.W.OpenLaw} {n : Nat} {q : Program} {loose : List Str} {XP : (Str → Option Value) → Heap → Prop} {YP : World → Heap → Prop} {d : DefRec} {K : Params → PySem.W.Frag} {ts : List Addr}
    (hn : l.most = some n) (hn2 : n ≤ sizeLine) (hdf : d.params.defaults = []) (hY : ∀ (w : World) (h : Heap), YP w h → (K w.params).In h ∧ ∀ P ∈ ts, h.get? P = some (PySem.W.tabObj #[]))
    (F : ∀ (w : World) (mg : Str → Option Value) (fa a : Addr) (st : Shared) (ns : List Int), (K w.params).In st.heap → st.heap.Ns mainGlobals mg → mg d.name = some (.ref fa) → ns.length ≤ n → (∀ P ∈ ts, st.heap.get? P = some (PySem.W.tabObj #[])) →
      ∃ cs : List (Addr × Addr), (∀ p ∈ cs, st.heap.get? p.2 = some (PySem.W.tabObj #[])) ∧ (∀ p ∈ cs, (K w.params).lookup p.2 = none) ∧ (∀ p ∈ cs, PySem.W.CodeHd st.heap p.1 p.2) ∧
        ∀ (base : Heap) (H : Hp), (K w.params).In base → base.Ns mainGlobals mg → (∀ p ∈ cs, TabB base mg p.1 p.2) → (∀ p ∈ cs, H p.2 = some (.tbl #[])) → SqL (K w.params) H a (ns.map V.int) → Env0 l.prog w (K w.params) mg base callerA [] st H →
          codeAny (model l.prog w) callerA (.call (.ref fa) ⟨[.ref a], []⟩) (CR CX0 [] l.prog w H st (fun v _ => v = .bl true) fun _ _ _ => False) st) :
    PySem.W.WalkO q loose XP YP l.row.toRowW d [] (fun f vs => PySem.call f vs) := by
  refine Att.attach_call hn hdf fun w s₀ s₁ mg mb fa o pm cd doc a vs ns G Y ho hd hcd hmg hobj hints hlen hg => ?_
  obtain ⟨kin, ht⟩ := hY w _ Y
  obtain ⟨cs, c1, c2, c3, c4⟩ := F w mg fa a s₁ ns kin G.T.g hmg hlen ht
  exact law_atGT kin G.T.g G.T.b G.T.builtins G.T.nolimit hg c1 c2 c3 G.T.bmain hobj hints (Nat.le_trans hlen hn2) c4
end PT

set_option maxHeartbeats 4000000
/-! a def whose last parameter has the default 0 -/
namespace PT
open PySem PySem.Spec PyProof.Rows L2
section
variable {P : Program} {w : World} {K : PySem.W.Frag} {mg : Str → Option Value} {base : Heap} {x qual : Str} {params : Arguments} {body : List Stmt} {scope : Scope} {dvs : List V} {f : Addr} {fd : FuncData}
theorem okD {N ps : List Str} {k : Nat} {sp : Sp} (F : FunD K x qual params body scope dvs [] f fd) (S : FnScope N ps scope) (len : ∀ vs H Q E, sp vs H Q E → vs.length = ps.length)
    (hbody : ∀ (cdv : Value) (A : Around) (outer : List Env) (s : Shared) (H : Hp) (vs : List V) (Q : VK) (E : XK), Room k (A.deeper (envOfC qual scope s.heap.objs.size f cdv)) → sp vs H Q E →
      ∃ t, PSs (cxOf CX0 P w K mg base N qual scope f cdv A outer s H E).nox body t ∧ t { nx := fun _ H' => Q .non H', rt := Q } (start N vs) H) : FnOk P w K mg base CX0 (k + 1) f fd ps sp :=
  F.ok S len fun cdv A outer s H vs Q E hr h => let ⟨t, p, q⟩ := hbody cdv A outer s H vs Q E hr h; ⟨t, p.nox, q⟩
theorem dfl0 {T : Addr} {c : Value} {d : Option Addr} {sl : Array (Option Value)} {tk : Tok} {n : Nat} (l : K.lookup T = some ⟨c, d, .seq #[.int 0 tk] n, sl⟩) : DflV K (.ref T) [.int 0] :=
  .inr ⟨by simp, T, _, [.int 0 tk], n, rfl, l, rfl, .cons ⟨tk, rfl⟩ .nil⟩
theorem funD_mk {oc : Value} {od an : Option Addr} {osl : Array (Option Value)} {dV kV doc pm cdv ct : Value} (l : K.lookup f = some ⟨oc, od, .func (PySem.W.fnOf x qual params body scope dV kV doc pm an cdv ct), osl⟩)
    (c : PySem.W.codeIn K cdv qual = true) (k : PySem.W.keepIn K (.ref f) = true) (d : DflV K dV dvs) : FunD K x qual params body scope dvs [] f (PySem.W.fnOf x qual params body scope dV kV doc pm an cdv ct) :=
  ⟨⟨oc, od, dV, kV, doc, pm, an, cdv, ct, osl, rfl, l, c, d, .inl rfl⟩, k⟩
theorem fnOk_of {CX : CXT} {k : Nat} {ps : List Str} {sp sp2 : Sp} (F : FnOk P w K mg base CX k f fd ps sp) (h : ∀ vs H Q E, sp2 vs H Q E → sp vs H Q E) : FnOk P w K mg base CX k f fd ps sp2 :=
  ⟨fun vs H Q E x => F.len vs H Q E (h vs H Q E x), fun A outer s H args us vs Q E a b c d e => F.run A outer s H args us vs Q E a b c d (h _ _ _ _ e)⟩
end
end PT

/-! boxes laid from the oldest on, each below its customer's: what comes out is ordered -/
namespace PT
def supN (pl : List Int) (j : Nat) : List Nat := ((List.range pl.length).filter fun k => decide (pl.getD k 0 = (j : Int))).map (· + 1)
theorem supN_sup (pl : List Int) (j : Nat) : natI (supN pl j) = sup pl pl.length j := by
  unfold natI supN sup
  rw [List.map_map]
  rfl
theorem supN_mem {pl : List Int} (hP : Plant pl) {j k : Nat} : k ∈ supN pl j ↔ 0 < k ∧ k ≤ pl.length ∧ cu pl k = j := by
  rw [← sup_cu hP, ← supN_sup]
  unfold natI
  rw [List.mem_map]
  constructor
  · intro h
    exact ⟨k, h, rfl⟩
  · rintro ⟨a, ha, e⟩
    have : a = k := by omega
    rw [← this]
    exact ha
theorem supN_nodup (pl : List Int) (j : Nat) : (supN pl j).Nodup := by
  unfold supN
  rw [List.Nodup, List.pairwise_map]
  exact (List.nodup_range.sublist List.filter_sublist).imp fun h z => h (by omega)
theorem pick_perm {α : Type} : ∀ {l : List α} {i : Nat} {x : α}, l[i]? = some x → (x :: l.eraseIdx i).Perm l
  | [], _, _, h => by simp at h
  | y :: r, 0, x, h => by
    have e : y = x := Option.some.inj h
    subst e
    exact .refl _
  | y :: r, i + 1, x, h => (List.Perm.swap y x (r.eraseIdx i)).trans ((pick_perm (l := r) (i := i) (x := x) (by simpa using h)).cons y)
structure CalmSt (pl ns : List Int) (i : Nat) (val : Nat → Option Int) (fr : List Nat) : Prop where
  nd : fr.Nodup
  fm : ∀ k, k ∈ fr ↔ k ≤ pl.length ∧ val k = none ∧ (k = 0 ∨ ∃ y, val (cu pl k) = some y)
  vl : ∀ k x, val k = some x → k ≤ pl.length ∧ ∃ j, j < i ∧ ns[j]? = some x
  inj : ∀ k1 k2 x, val k1 = some x → val k2 = some x → k1 = k2
  up : ∀ k x, 0 < k → val k = some x → ∃ y, val (cu pl k) = some y ∧ y < x
  cnt : (List.range (pl.length + 1)).countP (fun k => (val k).isSome) = i
theorem CalmSt.start (pl ns : List Int) : CalmSt pl ns 0 (fun _ => none) [0] := by
  refine ⟨by simp, fun k => ?_, fun k x e => (by cases e), fun k1 k2 x e => (by cases e), fun k x _ e => (by cases e), countP_none (fun _ => rfl) _⟩
  constructor
  · intro h
    rw [List.mem_singleton.mp h]
    exact ⟨Nat.zero_le _, rfl, .inl rfl⟩
  · rintro ⟨_, _, rfl | ⟨y, e⟩⟩
    · exact List.mem_singleton.mpr rfl
    · cases e
theorem CalmSt.pos {pl ns : List Int} {i : Nat} {val : Nat → Option Int} {fr : List Nat} (h : CalmSt pl ns i val fr) (hi : i ≤ pl.length) : 0 < fr.length := by
  have ex : ∃ k, k ≤ pl.length ∧ val k = none := Classical.byContradiction fun no => by
    have all : (List.range (pl.length + 1)).countP (fun k => (val k).isSome) = (List.range (pl.length + 1)).length := List.countP_eq_length.mpr fun k hk => by
      have := List.mem_range.mp hk
      cases e : val k with
      | none => exact absurd ⟨k, by omega, e⟩ no
      | some x => rfl
    rw [h.cnt, List.length_range] at all
    omega
  have least : ∀ k, k ≤ pl.length → val k = none → ∃ m, m ∈ fr := by
    intro k
    induction k using Nat.strongRecOn with
    | ind k ih =>
      intro hk e
      by_cases k0 : k = 0
      · exact ⟨k, (h.fm k).mpr ⟨hk, e, .inl k0⟩⟩
      · have c := cu_lt pl (show 0 < k by omega)
        cases q : val (cu pl k) with
        | none => exact ih _ c (by omega) q
        | some y => exact ⟨k, (h.fm k).mpr ⟨hk, e, .inr ⟨y, q⟩⟩⟩
  obtain ⟨k, hk, e⟩ := ex
  obtain ⟨m, hm⟩ := least k hk e
  exact List.length_pos_of_mem hm
theorem CalmSt.len {pl ns : List Int} {i : Nat} {val : Nat → Option Int} {fr : List Nat} (h : CalmSt pl ns i val fr) : fr.length ≤ pl.length + 1 := by
  have p : fr.Perm ((List.range (pl.length + 1)).filter fun k => decide (k ∈ fr)) := (List.perm_ext_iff_of_nodup h.nd (List.nodup_range.sublist List.filter_sublist)).mpr fun k => by
    rw [List.mem_filter, decide_eq_true_iff, List.mem_range]
    exact ⟨fun z => ⟨by have := ((h.fm k).mp z).1; omega, z⟩, fun z => z.2⟩
  have e := p.length_eq
  have l := List.length_filter_le (fun k => decide (k ∈ fr)) (List.range (pl.length + 1))
  rw [List.length_range] at l
  omega
theorem CalmSt.next {pl ns : List Int} {i r k : Nat} {x : Int} {val : Nat → Option Int} {fr : List Nat} (hP : Plant pl) (h : CalmSt pl ns i val fr) (inc : ns.Pairwise (· < ·)) (hk : fr[r]? = some k) (hx : ns[i]? = some x) :
    CalmSt pl ns (i + 1) (fun j => if j = k then some x else val j) (fr.eraseIdx r ++ supN pl k) := by
  have hm := List.mem_of_getElem? hk
  obtain ⟨k1, k2, k3⟩ := (h.fm k).mp hm
  have pp : (k :: fr.eraseIdx r).Perm fr := pick_perm hk
  have nd2 := pp.nodup_iff.mpr h.nd
  obtain ⟨nk, ne⟩ := List.nodup_cons.mp nd2
  have em : ∀ j, j ∈ fr.eraseIdx r ↔ j ∈ fr ∧ j ≠ k := fun j => by
    constructor
    · intro z
      exact ⟨pp.mem_iff.mp (List.mem_cons_of_mem _ z), fun y => nk (y ▸ z)⟩
    · rintro ⟨z, y⟩
      rcases List.mem_cons.mp (pp.mem_iff.mpr z) with w | w
      · exact absurd w y
      · exact w
  have less : ∀ j y, val j = some y → y < x := fun j y e => by
    obtain ⟨_, m, hm, em⟩ := h.vl j y e
    obtain ⟨a1, a2⟩ := List.getElem?_eq_some_iff.mp em
    obtain ⟨b1, b2⟩ := List.getElem?_eq_some_iff.mp hx
    have := List.pairwise_iff_getElem.mp inc m i a1 b1 hm
    omega
  have kc : ∀ j, 0 < j → cu pl j = k → val j = none := fun j j0 e => by
    cases q : val j with
    | none => rfl
    | some y =>
      obtain ⟨z, hz, _⟩ := h.up j y j0 q
      rw [e, k2] at hz
      cases hz
  refine ⟨?_, fun j => ?_, fun j y e => ?_, fun a b y ea eb => ?_, fun j y j0 e => ?_, ?_⟩
  · refine List.nodup_append.mpr ⟨ne, supN_nodup pl k, fun a ha b hb => ?_⟩
    rintro rfl
    obtain ⟨a1, _⟩ := (em a).mp ha
    obtain ⟨_, a2, a3⟩ := (h.fm a).mp a1
    obtain ⟨b1, b2, b3⟩ := (supN_mem hP).mp hb
    rcases a3 with z | ⟨y, z⟩
    · omega
    · rw [b3, k2] at z
      cases z
  · rw [List.mem_append, em, h.fm, supN_mem hP]
    constructor
    · rintro (⟨⟨a1, a2, a3⟩, a4⟩ | ⟨b1, b2, b3⟩)
      · refine ⟨a1, by rw [if_neg a4]; exact a2, a3.imp id fun ⟨y, e⟩ => ⟨y, ?_⟩⟩
        rw [if_neg fun z => by rw [z, k2] at e; cases e]
        exact e
      · have c := cu_lt pl b1
        refine ⟨b2, by rw [if_neg (by omega)]; exact kc j b1 b3, .inr ⟨x, if_pos b3⟩⟩
    · rintro ⟨a1, a2, a3⟩
      by_cases jk : j = k
      · rw [if_pos jk] at a2
        cases a2
      · rw [if_neg jk] at a2
        by_cases j0 : j = 0
        · exact .inl ⟨⟨a1, a2, .inl j0⟩, jk⟩
        · by_cases ck : cu pl j = k
          · exact .inr ⟨by omega, a1, ck⟩
          · refine .inl ⟨⟨a1, a2, .inr ?_⟩, jk⟩
            rcases a3 with z | ⟨y, z⟩
            · exact absurd z j0
            · rw [if_neg ck] at z
              exact ⟨y, z⟩
  · by_cases jk : j = k
    · rw [if_pos jk] at e
      cases e
      exact ⟨by omega, i, by omega, hx⟩
    · rw [if_neg jk] at e
      obtain ⟨a, m, b, c⟩ := h.vl j y e
      exact ⟨a, m, by omega, c⟩
  · by_cases ak : a = k <;> by_cases bk : b = k
    · rw [ak, bk]
    · rw [if_pos ak] at ea
      rw [if_neg bk] at eb
      cases ea
      have := less b _ eb
      omega
    · rw [if_neg ak] at ea
      rw [if_pos bk] at eb
      cases eb
      have := less a _ ea
      omega
    · rw [if_neg ak] at ea
      rw [if_neg bk] at eb
      exact h.inj a b y ea eb
  · by_cases jk : j = k
    · rw [if_pos jk] at e
      cases e
      rcases k3 with z | ⟨w, z⟩
      · omega
      · have c := cu_lt pl j0
        refine ⟨w, ?_, less _ w z⟩
        rw [jk] at c ⊢
        rw [if_neg (by omega)]
        exact z
    · rw [if_neg jk] at e
      obtain ⟨w, z, l⟩ := h.up j y j0 e
      refine ⟨w, ?_, l⟩
      rw [if_neg fun q => by rw [q, k2] at z; cases z]
      exact z
  · have e := countP_or (p := fun j => (val j).isSome) (q := fun j => decide (j = k)) (r := fun j => (if j = k then some x else val j).isSome) (fun j => by
      by_cases jk : j = k
      · simp [jk]
      · simp [jk]) (fun j hj => by
      by_cases jk : j = k
      · rw [jk, k2] at hj
        cases hj
      · simp [jk]) (List.range (pl.length + 1))
    rw [e, h.cnt, countP_one, if_pos (by omega)]
/-- all are laid -/
def laidS (pl : List Int) (val : Nat → Option Int) : List Int := (List.range (pl.length + 1)).map fun k => (val k).getD 0
theorem CalmSt.all {pl ns : List Int} {val : Nat → Option Int} {fr : List Nat} (h : CalmSt pl ns (pl.length + 1) val fr) : ∀ k, k ≤ pl.length → ∃ x, val k = some x := by
  intro k hk
  have z : (List.range (pl.length + 1)).countP (fun k => (val k).isSome) = (List.range (pl.length + 1)).length := by
    rw [h.cnt, List.length_range]
  have := List.countP_eq_length.mp z k (List.mem_range.mpr (by omega))
  cases e : val k with
  | none => rw [e] at this; cases this
  | some x => exact ⟨x, rfl⟩
theorem laid_at {pl : List Int} {val : Nat → Option Int} {k : Nat} {x : Int} (hk : k ≤ pl.length) (e : val k = some x) : (laidS pl val)[k]? = some x := by
  unfold laidS
  rw [List.getElem?_map, List.getElem?_range (by omega), Option.map_some, e]
  rfl
theorem CalmSt.ord {pl ns : List Int} {val : Nat → Option Int} {fr : List Nat} (h : CalmSt pl ns (pl.length + 1) val fr) : Ord pl (laidS pl val) := by
  intro k k0 k1
  have c := cu_lt pl k0
  obtain ⟨x, e⟩ := h.all k k1
  obtain ⟨y, z, l⟩ := h.up k x k0 e
  have a := laid_at k1 e
  have b := laid_at (show cu pl k ≤ pl.length by omega) z
  rw [bx_some a, bx_some b]
  exact l
theorem CalmSt.nodup {pl ns : List Int} {val : Nat → Option Int} {fr : List Nat} (h : CalmSt pl ns (pl.length + 1) val fr) : (laidS pl val).Nodup := by
  unfold laidS
  rw [List.Nodup, List.pairwise_map]
  refine List.nodup_range.imp_of_mem fun {a b} ha hb ne z => ne ?_
  obtain ⟨x, ex⟩ := h.all a (by have := List.mem_range.mp ha; omega)
  obtain ⟨y, ey⟩ := h.all b (by have := List.mem_range.mp hb; omega)
  rw [ex, ey] at z
  have z2 : x = y := z
  exact h.inj a b x ex (z2 ▸ ey)
end PT

set_option maxHeartbeats 4000000
/-! the way to the shop -/
namespace PT
theorem path_self (pl : List Int) (k : Nat) : k ∈ path pl k := List.mem_of_getElem? (path_head pl k)
theorem path_iff (pl : List Int) {v k : Nat} (h : 0 < k) : v ∈ path pl k ↔ v = k ∨ v ∈ path pl (cu pl k) := by
  rw [path_pos pl h, List.mem_cons]
theorem path_tr {pl : List Int} {a b : Nat} (h : a ∈ path pl b) : ∀ c, b ∈ path pl c → a ∈ path pl c := by
  intro c
  induction c using Nat.strongRecOn with
  | ind c ih =>
    intro hb
    by_cases h0 : 0 < c
    · rcases (path_iff pl h0).mp hb with rfl | z
      · exact h
      · exact (path_iff pl h0).mpr (.inr (ih _ (cu_lt pl h0) z))
    · have : c = 0 := by omega
      subst this
      rw [path_zero, List.mem_singleton] at hb
      rw [hb] at h
      exact h
theorem path_lin {pl : List Int} {a b : Nat} (hab : a ≤ b) : ∀ c, a ∈ path pl c → b ∈ path pl c → a ∈ path pl b := by
  intro c
  induction c using Nat.strongRecOn with
  | ind c ih =>
    intro ha hb
    by_cases h0 : 0 < c
    · rcases (path_iff pl h0).mp hb with rfl | z
      · exact ha
      · have := path_le pl _ _ z
        have := cu_lt pl h0
        rcases (path_iff pl h0).mp ha with e | y
        · omega
        · exact ih _ (cu_lt pl h0) y z
    · have : c = 0 := by omega
      subst this
      rw [path_zero, List.mem_singleton] at ha hb
      rw [ha, hb]
      exact path_self pl 0
theorem path_root (pl : List Int) (k : Nat) : 0 ∈ path pl k := by
  induction k using Nat.strongRecOn with
  | ind k ih =>
    by_cases h0 : 0 < k
    · exact (path_iff pl h0).mpr (.inr (ih _ (cu_lt pl h0)))
    · have : k = 0 := by omega
      subst this
      exact path_self pl 0
theorem path_sup {pl : List Int} {v : Nat} : ∀ {s : Nat}, v ∈ path pl s → v ≠ s → ∃ u, 0 < u ∧ u ≤ s ∧ cu pl u = v ∧ u ∈ path pl s := by
  intro s
  induction s using Nat.strongRecOn with
  | ind s ih =>
    intro hv hne
    have := path_le pl _ _ hv
    have h0 : 0 < s := by omega
    rcases (path_iff pl h0).mp hv with e | z
    · exact absurd e hne
    · by_cases c : v = cu pl s
      · exact ⟨s, h0, Nat.le_refl _, c.symm, path_self pl s⟩
      · have hc := cu_lt pl h0
        obtain ⟨u, a, b, d, e⟩ := ih _ hc z c
        exact ⟨u, a, by omega, d, (path_iff pl h0).mpr (.inr e)⟩
end PT

set_option maxHeartbeats 4000000
/-! the first boxes, in the order in which they are sold -/
namespace PT
/-- this box stands at or below v -/
def inAt (pl ss : List Int) (v : Nat) (x : Int) : Prop := ∃ k : Nat, k ≤ pl.length ∧ v ∈ path pl k ∧ bx ss k = x
theorem chn_path {pl ss : List Int} (hP : Plant pl) {v : Nat} : ∀ k : Nat, k ∈ chn pl ss 0 → v ∈ path pl k → v ∈ chn pl ss 0 := by
  intro k
  induction k using Nat.strongRecOn with
  | ind k ih =>
    intro hk hv
    by_cases h0 : 0 < k
    · rcases (path_iff pl h0).mp hv with rfl | z
      · exact hk
      · exact ih _ (cu_lt pl h0) (chn_cu hP hk h0).1 z
    · have : k = 0 := by omega
      subst this
      rw [path_zero, List.mem_singleton] at hv
      rw [hv]
      exact hk
theorem inAt_out {pl ss : List Int} (hP : Plant pl) (hs : ss.length = pl.length + 1) {v : Nat} (hv : v ∉ chn pl ss 0) (x : Int) : inAt pl (day pl ss 0).2 v x ↔ inAt pl ss v x := by
  have e : ∀ k : Nat, k ≤ pl.length → v ∈ path pl k → bx (day pl ss 0).2 k = bx ss k := fun k hk hp => by
    rw [day_at hs hk, if_neg fun z => hv (chn_path hP k z hp)]
  constructor
  · rintro ⟨k, h1, h2, h3⟩
    exact ⟨k, h1, h2, by rw [← e k h1 h2]; exact h3⟩
  · rintro ⟨k, h1, h2, h3⟩
    exact ⟨k, h1, h2, by rw [e k h1 h2]; exact h3⟩
theorem inAt_in {pl ss : List Int} (hP : Plant pl) (hs : ss.length = pl.length + 1) (hn : ss.Nodup) {v : Nat} (hv : v ∈ chn pl ss 0) {x : Int} (hx : x ≠ mxv ss + 1) : inAt pl (day pl ss 0).2 v x ↔ inAt pl ss v x ∧ x ≠ bx ss v := by
  have hvl := (chn_le (ss := ss) _ 0 rfl (Nat.zero_le _) v hv).2
  constructor
  · rintro ⟨k, h1, h2, h3⟩
    have hvk := path_le pl _ _ h2
    rw [day_at hs h1] at h3
    by_cases hk : k ∈ chn pl ss 0
    · rw [if_pos hk] at h3
      unfold nxt at h3
      by_cases g : gives pl ss k
      · rw [if_pos g] at h3
        have gb := g
        unfold gives at gb
        refine ⟨⟨bst pl ss k, gb.2, (path_iff pl (by omega)).mpr (.inr (by rw [gives_cu hP g]; exact h2)), h3⟩, fun e => ?_⟩
        have := bx_inj hn (by omega) (by omega) (h3.trans e)
        omega
      · rw [if_neg g] at h3
        exact absurd h3.symm hx
    · rw [if_neg hk] at h3
      refine ⟨⟨k, h1, h2, h3⟩, fun e => ?_⟩
      have := bx_inj hn (by omega) (by omega) (h3.trans e)
      rw [this] at hk
      exact hk hv
  · rintro ⟨⟨k, h1, h2, h3⟩, h4⟩
    have hne : v ≠ k := fun e => h4 (by rw [e]; exact h3.symm)
    have hvk := path_le pl _ _ h2
    by_cases hk : k ∈ chn pl ss 0
    · have h0 : 0 < k := by omega
      obtain ⟨c1, c2, c3⟩ := chn_cu hP hk h0
      have := cu_lt pl h0
      refine ⟨cu pl k, by omega, ?_, ?_⟩
      · rcases (path_iff pl h0).mp h2 with e | z
        · exact absurd e hne
        · exact z
      · rw [day_at hs (by omega), if_pos c1]
        unfold nxt
        rw [if_pos c2, c3]
        exact h3
    · exact ⟨k, h1, h2, by rw [day_at hs h1, if_neg hk]; exact h3⟩
structure Sale (pl f b : List Int) : Prop where
  up : ∀ k s : Nat, k ≤ pl.length → s ≤ pl.length → bx b k = bx f s → k ∈ path pl s
  nw : ∀ k : Nat, k ≤ pl.length → (∃ s : Nat, s ≤ pl.length ∧ bx b k = bx f s) ∨ mxv f < bx b k
  lo : ∀ v s : Nat, s ≤ pl.length → v ∈ path pl s → inAt pl b v (bx f s) → (s = v ∨ ¬ inAt pl b v (bx f (cu pl s))) → bx b v ≤ bx f s
  fr : ∀ v s : Nat, s ≤ pl.length → v ≤ pl.length → bx b v = bx f s → s = v ∨ ¬ inAt pl b v (bx f (cu pl s))
  mx : mxv f ≤ mxv b
theorem Sale.start {pl f : List Int} (hs : f.length = pl.length + 1) (hn : f.Nodup) : Sale pl f f := by
  refine ⟨fun k s hk h e => ?_, fun k hk => .inl ⟨k, hk, rfl⟩, fun v s h hp hi hc => ?_, fun v s h hv e => .inl (bx_inj hn (by omega) (by omega) e).symm, Int.le_refl _⟩
  · rw [bx_inj hn (by omega) (by omega) e]
    exact path_self pl s
  · rcases hc with rfl | hc
    · exact Int.le_refl _
    · by_cases e : s = v
      · rw [e]
        exact Int.le_refl _
      · have := path_le pl _ _ hp
        have h0 : 0 < s := by omega
        rcases (path_iff pl h0).mp hp with z | z
        · exact absurd z.symm e
        · have := cu_lt pl h0
          exact absurd ⟨cu pl s, by omega, z, rfl⟩ hc
theorem Sale.next {pl f b : List Int} (hP : Plant pl) (hf : f.length = pl.length + 1) (hs : b.length = pl.length + 1) (hn : b.Nodup) (h : Sale pl f b) : Sale pl f (day pl b 0).2 := by
  have fm : ∀ s : Nat, s ≤ pl.length → bx f s ≠ mxv b + 1 := fun s hs2 e => by
    have := mxv_lt (ss := f) (k := s) (by omega)
    have := h.mx
    omega
  have up' : ∀ k s : Nat, k ≤ pl.length → s ≤ pl.length → bx (day pl b 0).2 k = bx f s → k ∈ path pl s := fun k s hk hs2 e => by
    rw [day_at hs hk] at e
    by_cases m : k ∈ chn pl b 0
    · rw [if_pos m] at e
      unfold nxt at e
      by_cases g : gives pl b k
      · rw [if_pos g] at e
        have gb := g
        unfold gives at gb
        have z := h.up _ _ gb.2 hs2 e
        exact path_tr ((path_iff pl (by omega)).mpr (.inr (by rw [gives_cu hP g]; exact path_self pl k))) s z
      · rw [if_neg g] at e
        exact absurd e.symm (fm s hs2)
    · rw [if_neg m] at e
      exact h.up k s hk hs2 e
  refine ⟨up', fun k hk => ?_, fun v s hs2 hp hi hc => ?_, fun v s hs2 hv e => ?_, ?_⟩
  · rw [day_at hs hk]
    by_cases m : k ∈ chn pl b 0
    · rw [if_pos m]
      unfold nxt
      by_cases g : gives pl b k
      · rw [if_pos g]
        unfold gives at g
        exact h.nw _ g.2
      · rw [if_neg g]
        have := h.mx
        exact .inr (by omega)
    · rw [if_neg m]
      exact h.nw k hk
  · have hvs := path_le pl _ _ hp
    by_cases m : v ∈ chn pl b 0
    · rw [day_at hs (by omega), if_pos m]
      obtain ⟨i1, i2⟩ := (inAt_in hP hs hn m (fm s hs2)).mp hi
      by_cases e : s = v
      · exfalso
        subst e
        obtain ⟨k, k1, k2, k3⟩ := i1
        have k4 := h.up k s k1 hs2 k3
        have := path_le pl _ _ k2
        have := path_le pl _ _ k4
        have : k = s := by omega
        subst this
        exact i2 k3.symm
      · have h0 : 0 < s := by omega
        have hc2 : ¬ inAt pl (day pl b 0).2 v (bx f (cu pl s)) := hc.resolve_left e
        have hcs := cu_lt pl h0
        rw [inAt_in hP hs hn m (fm _ (by omega))] at hc2
        -- the supplier of v that is above s
        obtain ⟨k, k1, k2, k3⟩ := i1
        have k4 := h.up k s k1 hs2 k3
        have kv : v ≠ k := fun z => i2 (by rw [z]; exact k3.symm)
        have kvl := path_le pl _ _ k2
        obtain ⟨u, u0, u1, u2, us⟩ := path_sup hp (fun q => e q.symm)
        have hul : u ≤ pl.length := by omega
        obtain ⟨gv, g2⟩ := gives_of (ss := b) hP u0 hul
        rw [u2] at gv g2
        -- k stands at or below u
        have uk : u ∈ path pl k := by
          have hvu : cu pl u < u := cu_lt pl u0
          by_cases c : u ≤ k
          · exact path_lin c s us k4
          · exfalso
            have z := path_lin (Nat.le_of_lt (Nat.lt_of_not_le c)) s k4 us
            rcases (path_iff pl u0).mp z with y | y
            · omega
            · have := path_le pl _ _ y
              omega
        unfold nxt
        rw [if_pos gv]
        have l1 : bx b u ≤ bx f s := h.lo u s hs2 us ⟨k, k1, uk, k3⟩ (by
          by_cases es : s = u
          · exact .inl es
          · refine .inr fun z => hc2 ⟨?_, ?_⟩
            · obtain ⟨q, q1, q2, q3⟩ := z
              exact ⟨q, q1, path_tr ((path_iff pl u0).mpr (.inr (by rw [u2]; exact path_self pl v))) q q2, q3⟩
            · obtain ⟨q, q1, q2, q3⟩ := z
              intro y
              have := bx_inj hn (by omega) (by omega) (q3.trans y)
              have := path_le pl _ _ q2
              have := cu_lt pl u0
              omega)
        omega
    · rw [day_at hs (by omega), if_neg m]
      exact h.lo v s hs2 hp ((inAt_out hP hs m _).mp hi) (hc.imp id fun z y => z ((inAt_out hP hs m _).mpr y))
  · by_cases m : v ∈ chn pl b 0
    · rw [day_at hs hv, if_pos m] at e
      unfold nxt at e
      by_cases g : gives pl b v
      · rw [if_pos g] at e
        have gb := g
        unfold gives at gb
        have gc := gives_cu hP g
        have z := h.up _ _ gb.2 hs2 e
        have h0 : 0 < s := by have := path_le pl _ _ z; omega
        have hcs := cu_lt pl h0
        refine .inr ?_
        rw [inAt_in hP hs hn m (fm _ (by omega))]
        rintro ⟨⟨q, q1, q2, q3⟩, y⟩
        have qv : v ≠ q := fun w => y (by rw [w]; exact q3.symm)
        have qs := h.up q (cu pl s) q1 (by omega) q3
        have qvl := path_le pl _ _ q2
        rcases h.fr _ s hs2 gb.2 e with w | w
        · rw [w, gc] at qs
          have := path_le pl _ _ qs
          omega
        · refine w ⟨q, q1, ?_, q3⟩
          have qs2 : q ∈ path pl s := (path_iff pl h0).mpr (.inr qs)
          have b0 : 0 < bst pl b v := by omega
          by_cases c : bst pl b v ≤ q
          · exact path_lin c s z qs2
          · exfalso
            have z2 := path_lin (Nat.le_of_lt (Nat.lt_of_not_le c)) s qs2 z
            rcases (path_iff pl b0).mp z2 with y2 | y2
            · omega
            · rw [gc] at y2
              have := path_le pl _ _ y2
              omega
      · rw [if_neg g] at e
        exact absurd e.symm (fm s hs2)
    · rw [day_at hs hv, if_neg m] at e
      exact (h.fr v s hs2 hv e).imp id fun z y => z ((inAt_out hP hs m _).mp y)
  · have := day_mxv (pl := pl) hs
    have := h.mx
    omega
theorem sale_dyn {pl f : List Int} (hP : Plant pl) (hs : f.length = pl.length + 1) (hn : f.Nodup) : ∀ n, Sale pl f (dyn pl f n)
  | 0 => .start hs hn
  | n + 1 => (sale_dyn hP hs hn n).next hP hs (dyn_len hs hn n).1 (dyn_len hs hn n).2
/-- what the program keeps: the stations that wait, and those whose boxes are sold -/
structure Sel (pl f : List Int) (i : Nat) (ws M : List Nat) : Prop where
  wn : ws.Nodup
  wm : ∀ s, s ∈ ws ↔ s ≤ pl.length ∧ s ∉ M ∧ (s = 0 ∨ cu pl s ∈ M)
  mn : M.Nodup
  ml : M.length = i
  mm : ∀ s ∈ M, s ≤ pl.length
  cl : ∀ s ∈ M, s = 0 ∨ cu pl s ∈ M
  ms : ∀ s : Nat, s ≤ pl.length → (s ∈ M ↔ ¬ inAt pl (dyn pl f i) 0 (bx f s))
  sl : sold pl f i = M.map fun s : Nat => bx f s
theorem Sel.start (pl f : List Int) : Sel pl f 0 [0] [] := by
  refine ⟨by simp, fun s => ⟨fun h => ?_, fun h => ?_⟩, List.nodup_nil, rfl, fun s h => (by cases h), fun s h => (by cases h), fun s hs => ⟨fun h => (by cases h), fun h => absurd ⟨s, hs, path_root pl s, rfl⟩ h⟩, rfl⟩
  · rw [List.mem_singleton.mp h]
    exact ⟨Nat.zero_le _, (by simp), .inl rfl⟩
  · rcases h.2.2 with z | z
    · rw [z]
      simp
    · cases z
theorem Sel.next {pl f : List Int} {i m : Nat} {ws M : List Nat} (hP : Plant pl) (hs : f.length = pl.length + 1) (hn : f.Nodup) (h : Sel pl f i ws M) (hm : m ∈ ws) (lo : ∀ s ∈ ws, bx f m ≤ bx f s) :
    bx (dyn pl f i) 0 = bx f m ∧ Sel pl f (i + 1) (ws.filter (fun s => decide (s ≠ m)) ++ supN pl m) (M ++ [m]) := by
  obtain ⟨m1, m2, m3⟩ := (h.wm m).mp hm
  have S := sale_dyn hP hs hn i
  obtain ⟨dl, dn⟩ := dyn_len hs hn i
  have inM : ∀ s : Nat, s ≤ pl.length → s ∉ M → inAt pl (dyn pl f i) 0 (bx f s) := fun s h1 h2 => Classical.byContradiction fun z => h2 ((h.ms s h1).mpr z)
  have ub : bx (dyn pl f i) ((0 : Nat) : Int) ≤ bx f m := S.lo 0 m m1 (path_root pl m) (inM m m1 m2) (by
    rcases m3 with z | z
    · exact .inl z
    · exact .inr ((h.ms _ (by by_cases e : m = 0; (· rw [e]; unfold cu; omega); (have := cu_lt pl (show 0 < m by omega); omega))).mp z))
  have e0 : bx (dyn pl f i) ((0 : Nat) : Int) = bx f m := by
    rcases S.nw 0 (Nat.zero_le _) with ⟨s, s1, s2⟩ | z
    · have sw : s ∈ ws := by
        refine (h.wm s).mpr ⟨s1, fun y => (h.ms s s1).mp y ⟨0, Nat.zero_le _, path_self pl 0, s2⟩, ?_⟩
        rcases S.fr 0 s s1 (Nat.zero_le _) s2 with y | y
        · exact .inl y
        · by_cases q : s = 0
          · exact .inl q
          · have := cu_lt pl (show 0 < s by omega)
            exact .inr ((h.ms _ (by omega)).mpr y)
      have := lo s sw
      omega
    · have := mxv_lt (ss := f) (k := m) (by omega)
      omega
  refine ⟨by rw [← bx0]; exact e0, ?_⟩
  have fm : ∀ s : Nat, s ≤ pl.length → bx f s ≠ mxv (dyn pl f i) + 1 := fun s h2 e => by
    have := mxv_lt (ss := f) (k := s) (by omega)
    have := S.mx
    omega
  refine ⟨List.nodup_append.mpr ⟨h.wn.filter _, supN_nodup pl m, fun a ha b hb e => ?_⟩, fun s => ?_, List.nodup_append.mpr ⟨h.mn, by simp, fun a ha b hb e => ?_⟩, by rw [List.length_append, h.ml]; rfl, fun s h1 => ?_, fun s h1 => ?_, fun s h1 => ?_, ?_⟩
  · subst e
    obtain ⟨b1, b2, b3⟩ := (supN_mem hP).mp hb
    obtain ⟨a1, a2⟩ := List.mem_filter.mp ha
    obtain ⟨_, _, a3⟩ := (h.wm a).mp a1
    rcases a3 with z | z
    · omega
    · rw [b3] at z
      exact m2 z
  · rw [List.mem_append, List.mem_filter, decide_eq_true_eq, h.wm, supN_mem hP]
    constructor
    · rintro (⟨⟨a1, a2, a3⟩, a4⟩ | ⟨b1, b2, b3⟩)
      · refine ⟨a1, fun z => ?_, a3.imp id fun z => List.mem_append.mpr (.inl z)⟩
        rcases List.mem_append.mp z with z | z
        · exact a2 z
        · exact a4 (List.mem_singleton.mp z)
      · refine ⟨b2, fun z => ?_, .inr (List.mem_append.mpr (.inr (by rw [b3]; simp)))⟩
        rcases List.mem_append.mp z with z | z
        · rcases h.cl s z with q | q
          · omega
          · rw [b3] at q
            exact m2 q
        · have := List.mem_singleton.mp z
          have := cu_lt pl b1
          omega
    · rintro ⟨a1, a2, a3⟩
      have a2' : s ∉ M ∧ s ≠ m := ⟨fun z => a2 (List.mem_append.mpr (.inl z)), fun z => a2 (List.mem_append.mpr (.inr (by rw [z]; simp)))⟩
      rcases a3 with z | z
      · exact .inl ⟨⟨a1, a2'.1, .inl z⟩, a2'.2⟩
      · rcases List.mem_append.mp z with z | z
        · exact .inl ⟨⟨a1, a2'.1, .inr z⟩, a2'.2⟩
        · by_cases q : s = 0
          · exact .inl ⟨⟨a1, a2'.1, .inl q⟩, a2'.2⟩
          · exact .inr ⟨by omega, a1, List.mem_singleton.mp z⟩
  · subst e
    rw [List.mem_singleton.mp hb] at ha
    exact m2 ha
  · rcases List.mem_append.mp h1 with z | z
    · exact h.mm s z
    · rw [List.mem_singleton.mp z]
      exact m1
  · rcases List.mem_append.mp h1 with z | z
    · exact (h.cl s z).imp id fun q => List.mem_append.mpr (.inl q)
    · rw [List.mem_singleton.mp z]
      exact m3.imp id fun q => List.mem_append.mpr (.inl q)
  · show _ ↔ ¬ inAt pl (day pl (dyn pl f i) 0).2 0 (bx f s)
    rw [inAt_in hP dl dn (chn_self 0) (fm s h1), List.mem_append, List.mem_singleton]
    constructor
    · rintro (z | z)
      · exact fun y => (h.ms s h1).mp z y.1
      · exact fun y => y.2 (by rw [z]; exact e0.symm)
    · intro z
      by_cases q : s ∈ M
      · exact .inl q
      · refine .inr ?_
        have q2 := inM s h1 q
        have q3 : bx f s = bx (dyn pl f i) ((0 : Nat) : Int) := Classical.byContradiction fun y => z ⟨q2, y⟩
        exact bx_inj hn (by omega) (by omega) (q3.trans e0)
  · rw [sold_step, h.sl, List.map_append, ← bx0, e0]
    rfl
theorem Sel.le {pl f : List Int} {i : Nat} {ws M : List Nat} (h : Sel pl f i ws M) : i ≤ pl.length + 1 := by
  have z := h.mn.length_le_of_subset (l₂ := List.range (pl.length + 1)) fun s hs => List.mem_range.mpr (by have := h.mm s hs; omega)
  rw [List.length_range, h.ml] at z
  exact z
theorem Sel.end {pl f : List Int} {i : Nat} {ws M : List Nat} (h : Sel pl f i ws M) : ws = [] ↔ i = pl.length + 1 := by
  constructor
  · intro e
    have all : ∀ s, s ≤ pl.length → s ∈ M := by
      intro s
      induction s using Nat.strongRecOn with
      | ind s ih =>
        intro hs
        refine Classical.byContradiction fun z => ?_
        have : s ∈ ws := (h.wm s).mpr ⟨hs, z, by
          by_cases q : s = 0
          · exact .inl q
          · have := cu_lt pl (show 0 < s by omega)
            exact .inr (ih _ this (by omega))⟩
        rw [e] at this
        cases this
    have z := (List.nodup_range (n := pl.length + 1)).length_le_of_subset (l₂ := M) fun s hs => all s (by have := List.mem_range.mp hs; omega)
    rw [List.length_range, h.ml] at z
    have := h.le
    omega
  · intro e
    cases hw : ws with
    | nil => rfl
    | cons a r =>
      exfalso
      obtain ⟨a1, a2, _⟩ := (h.wm a).mp (by rw [hw]; simp)
      have z := (List.nodup_cons.mpr ⟨a2, h.mn⟩).length_le_of_subset (l₂ := List.range (pl.length + 1)) fun s hs => by
        rcases List.mem_cons.mp hs with y | y
        · exact List.mem_range.mpr (by omega)
        · exact List.mem_range.mpr (by have := h.mm s y; omega)
      rw [List.length_range, List.length_cons, h.ml] at z
      omega
theorem Sel.wl {pl f : List Int} {i : Nat} {ws M : List Nat} (h : Sel pl f i ws M) : ws.length ≤ pl.length + 1 := by
  have z := h.wn.length_le_of_subset (l₂ := List.range (pl.length + 1)) fun s hs => List.mem_range.mpr (by have := ((h.wm s).mp hs).1; omega)
  rw [List.length_range] at z
  exact z
end PT

set_option maxHeartbeats 4000000
/-! every new box is sold n days after it was made -/
namespace PT
theorem ord_late {pl ss : List Int} (hP : Plant pl) (hs : ss.length = pl.length + 1) (hn : ss.Nodup) {d : Nat} (h : pl.length ≤ d) : Ord pl (dyn pl ss d) := by
  obtain ⟨a, b⟩ := dyn_len hs hn pl.length
  have z := ord_dyn hP a b (ord_end hP hs hn) (d - pl.length)
  rw [← dyn_add, show pl.length + (d - pl.length) = d by omega] at z
  exact z
theorem all_sold {pl ss : List Int} (hP : Plant pl) (hs : ss.length = pl.length + 1) (hn : ss.Nodup) : ∀ x ∈ dyn pl ss (pl.length + 1), mxv ss < x := by
  have hI : Waits (mxv ss < ·) pl ss := fun k a b c => by
    have := mxv_lt (ss := ss) (k := cu pl k) (by have := cu_lt pl a; omega)
    omega
  have h1 := olds_dyn hP hs hn hI pl.length (Nat.le_refl _)
  have h2 := olds_day (m := 0) (dyn_len hs hn pl.length).1 (by rw [dyn_mxv hs hn]; omega) (inv_dyn hP hs hn hI pl.length) (by omega)
  intro x hx
  refine Classical.byContradiction fun z => ?_
  have : 0 < olds (mxv ss) (dyn pl ss (pl.length + 1)) := List.countP_pos_iff.mpr ⟨x, hx, decide_eq_true (by omega)⟩
  have e : dyn pl ss (pl.length + 1) = (day pl (dyn pl ss pl.length) 0).2 := rfl
  rw [e] at this
  omega
theorem late_box {pl ss : List Int} (hP : Plant pl) (hs : ss.length = pl.length + 1) (hn : ss.Nodup) {d : Nat} (h : pl.length + 1 ≤ d) : ∀ x ∈ dyn pl ss d, mxv ss + d - (pl.length + 1 : Nat) < x ∧ x ≤ mxv ss + d := by
  obtain ⟨a, b⟩ := dyn_len hs hn (d - (pl.length + 1))
  have z := all_sold hP a b
  rw [← dyn_add, show d - (pl.length + 1) + (pl.length + 1) = d by omega, dyn_mxv hs hn] at z
  intro x hx
  have h1 := z x hx
  have h2 := (mxv_mem (l := dyn pl ss d) (fun e => by rw [e] at hx; cases hx)).2 x hx
  rw [dyn_mxv hs hn] at h2
  omega
theorem full_low {l : List Int} {t : Int} {n : Nat} (nd : l.Nodup) (hl : l.length = n) (h : ∀ x ∈ l, t < x ∧ x ≤ t + n) {m : Int} (m0 : t < m) (m1 : m ≤ t + n) : m ∈ l := by
  refine Classical.byContradiction fun z => ?_
  have nd2 : (m :: l).Nodup := List.nodup_cons.mpr ⟨z, nd⟩
  have k := nd2.length_le_of_subset (l₂ := (List.range n).map fun i : Nat => t + 1 + (i : Int)) fun x hx => by
    refine List.mem_map.mpr ⟨(x - t - 1).toNat, ?_, ?_⟩
    · rcases List.mem_cons.mp hx with e | e
      · rw [e]
        exact List.mem_range.mpr (by omega)
      · have := h x e
        exact List.mem_range.mpr (by omega)
    · rcases List.mem_cons.mp hx with e | e
      · rw [e]
        omega
      · have := h x e
        omega
  rw [List.length_cons, List.length_map, List.length_range, hl] at k
  omega
theorem ord_min {pl ss : List Int} (hs : ss.length = pl.length + 1) (h : Ord pl ss) : ∀ k : Nat, k ≤ pl.length → bx ss 0 ≤ bx ss k := by
  intro k
  induction k using Nat.strongRecOn with
  | ind k ih =>
    intro hk
    by_cases h0 : 0 < k
    · have hc := cu_lt pl h0
      have := ih _ hc (by omega)
      have := h k h0 hk
      omega
    · have : k = 0 := by omega
      subst this
      exact Int.le_refl _
/-- what is sold late -/
theorem late_sold {pl ss : List Int} (hP : Plant pl) (hs : ss.length = pl.length + 1) (hn : ss.Nodup) {d : Nat} (h : pl.length + 1 ≤ d) : bx (dyn pl ss d) 0 = mxv ss + d + 1 - (pl.length + 1 : Nat) := by
  obtain ⟨a, b⟩ := dyn_len hs hn d
  have lb := late_box hP hs hn h
  have m := full_low (t := mxv ss + d - (pl.length + 1 : Nat)) b a (fun x hx => by have := lb x hx; omega) (m := mxv ss + d + 1 - (pl.length + 1 : Nat)) (by omega) (by omega)
  obtain ⟨k, hk, e⟩ := List.getElem_of_mem m
  have z := bx_at hk
  rw [List.getElem?_eq_getElem hk, e] at z
  have o := ord_min a (ord_late hP hs hn (d := d) (by omega)) k (by omega)
  rw [← Option.some.inj z] at o
  have l := (lb _ (bx_mem (ss := dyn pl ss d) (k := 0) (by omega))).1
  rw [bx0] at l
  omega
/-- the first sales: all first boxes, each once -/
theorem sel_end {pl ss : List Int} (hP : Plant pl) (hs : ss.length = pl.length + 1) (hn : ss.Nodup) : ∀ i, i ≤ pl.length + 1 → ∃ ws M, Sel pl ss i ws M
  | 0, _ => ⟨_, _, .start pl ss⟩
  | i + 1, h => by
    obtain ⟨ws, M, S⟩ := sel_end hP hs hn i (by omega)
    have hw : ws ≠ [] := fun e => by have := S.end.mp e; omega
    obtain ⟨m, h1, h2⟩ : ∃ m ∈ ws, ∀ s ∈ ws, bx ss m ≤ bx ss s := by
      clear S h
      induction ws with
      | nil => exact absurd rfl hw
      | cons x xs ih =>
        by_cases hx : xs = []
        · exact ⟨x, by simp, fun s hs2 => by rw [hx, List.mem_singleton] at hs2; rw [hs2]; exact Int.le_refl _⟩
        · obtain ⟨m, a, b⟩ := ih hx
          by_cases c : bx ss x ≤ bx ss m
          · refine ⟨x, List.mem_cons_self .., fun s hs2 => ?_⟩
            rcases List.mem_cons.mp hs2 with e | e
            · rw [e]
              exact Int.le_refl _
            · have := b s e
              omega
          · refine ⟨m, List.mem_cons_of_mem _ a, fun s hs2 => ?_⟩
            rcases List.mem_cons.mp hs2 with e | e
            · rw [e]
              omega
            · exact b s e
    exact ⟨_, _, (S.next hP hs hn h1 h2).2⟩
theorem sold_nodup {pl ss : List Int} (hP : Plant pl) (hs : ss.length = pl.length + 1) (hn : ss.Nodup) : (sold pl ss (pl.length + 1)).Nodup ∧ ∀ x, x ∈ sold pl ss (pl.length + 1) ↔ x ∈ ss := by
  obtain ⟨ws, M, S⟩ := sel_end hP hs hn (pl.length + 1) (Nat.le_refl _)
  rw [S.sl]
  have all : ∀ s, s ≤ pl.length → s ∈ M := fun s h => Classical.byContradiction fun z => by
    have k := (List.nodup_cons.mpr ⟨z, S.mn⟩).length_le_of_subset (l₂ := List.range (pl.length + 1)) fun y hy => by
      rcases List.mem_cons.mp hy with e | e
      · exact List.mem_range.mpr (by omega)
      · exact List.mem_range.mpr (by have := S.mm y e; omega)
    rw [List.length_range, List.length_cons, S.ml] at k
    omega
  refine ⟨?_, fun x => ⟨fun h => ?_, fun h => ?_⟩⟩
  · refine List.pairwise_map.mpr (S.mn.imp_of_mem fun {a b} ha hb hne e => hne ?_)
    have := S.mm a ha
    have := S.mm b hb
    exact bx_inj hn (by omega) (by omega) e
  · obtain ⟨s, h1, rfl⟩ := List.mem_map.mp h
    have := S.mm s h1
    exact bx_mem (by omega)
  · obtain ⟨k, hk, rfl⟩ := List.getElem_of_mem h
    have z := bx_at hk
    rw [List.getElem?_eq_getElem hk] at z
    exact List.mem_map.mpr ⟨k, all k (by omega), (Option.some.inj z).symm⟩
theorem sold_at (pl ss : List Int) {n i : Nat} (h : i < n) : (sold pl ss n)[i]? = some (bx (dyn pl ss i) 0) := by
  unfold sold
  rw [List.getElem?_map, List.getElem?_range h]
  rfl
/-- the sales of all days are different boxes -/
theorem sale_inj {pl ss : List Int} (hP : Plant pl) (hs : ss.length = pl.length + 1) (hn : ss.Nodup) {i j : Nat} (e : bx (dyn pl ss i) 0 = bx (dyn pl ss j) 0) : i = j := by
  obtain ⟨nd, mem⟩ := sold_nodup hP hs hn
  have small : ∀ d, d ≤ pl.length → bx (dyn pl ss d) 0 ≤ mxv ss := fun d h => by
    have m : bx (dyn pl ss d) 0 ∈ ss := (mem _).mp (List.mem_of_getElem? (sold_at pl ss (n := pl.length + 1) (by omega)))
    exact (mxv_mem (fun z => by rw [z] at m; cases m)).2 _ m
  rcases Nat.lt_or_ge pl.length i with hi | hi
  · have a := late_sold hP hs hn (d := i) hi
    rcases Nat.lt_or_ge pl.length j with hj | hj
    · have b := late_sold hP hs hn (d := j) hj
      omega
    · have := small j hj
      omega
  · rcases Nat.lt_or_ge pl.length j with hj | hj
    · have := small i hi
      have b := late_sold hP hs hn (d := j) hj
      omega
    · have a := sold_at pl ss (n := pl.length + 1) (i := i) (by omega)
      have b := sold_at pl ss (n := pl.length + 1) (i := j) (by omega)
      rw [e, ← b] at a
      exact (List.getElem?_inj (i := i) (by rw [sold_len]; omega) nd).mp a
end PT

set_option maxHeartbeats 4000000
/-! ints among ints -/
namespace PT
open PySem PySem.Spec PyProof.Rows L2
theorem flat_intsV (ns : List Int) : (ns.map V.int).all flatV = true := List.all_eq_true.mpr fun v hv => by
  obtain ⟨n, _, rfl⟩ := List.mem_map.mp hv
  rfl
theorem inV_ints (x : Int) : ∀ ns : List Int, inV (.int x) (ns.map V.int) = decide (x ∈ ns)
  | [] => rfl
  | n :: ns => by
    have ih := inV_ints x ns
    have e : inV (.int x) ((n :: ns).map V.int) = (eqV (.int n) (.int x) || inV (.int x) (ns.map V.int)) := rfl
    rw [e, ih]
    by_cases c : n = x
    · subst c
      have : eqV (.int n) (.int n) = true := by simp [eqV]
      rw [this]
      simp
    · have : eqV (.int n) (.int x) = false := by simp [eqV, c]
      rw [this, Bool.false_or]
      by_cases d : x ∈ ns
      · rw [decide_eq_true d, decide_eq_true (List.mem_cons_of_mem _ d)]
      · rw [decide_eq_false d, decide_eq_false]
        intro z
        rcases List.mem_cons.mp z with y | y
        · exact c y.symm
        · exact d y
end PT


set_option maxHeartbeats 4000000
/-! the checks where they raise, the context none -/
namespace PT
open PySem PySem.Spec PyProof.Rows L2 LamX NdefX
/-- is it a stock of a plant with m stations? -/
inductive StIs (H : Hp) (m : Nat) : V → Bool → Prop
  | no {v : V} {n : String} : Kd H v n → n ≠ "tuple" → StIs H m v false
  | tup {a : Addr} {xs : List V} {r : Bool} : H a = some (.tup xs) → xs.length ≤ 250 → (∀ x ∈ xs, ∃ n, Kd H x n) → (r = true ↔ xs.length = m ∧ ∃ ns : List Int, xs = ns.map V.int ∧ ns.Nodup) → StIs H m (.ref a) r
theorem ints_all : ∀ {xs : List V}, xs.all isI = true → ∃ ns : List Int, xs = ns.map V.int
  | [], _ => ⟨[], rfl⟩
  | x :: xs, h => by
    rw [List.all_cons, Bool.and_eq_true] at h
    obtain ⟨ns, rfl⟩ := ints_all h.2
    cases x with
    | int i => exact ⟨i :: ns, rfl⟩
    | _ => simp [isI] at h

theorem Kd.ext {H H' : Hp} (e : ExtN H H') {v : V} {n : String} (h : Kd H v n) : Kd H' v n := by
  cases h with
  | non => exact .non
  | bl b => exact .bl b
  | int i => exact .int i
  | str x => exact .str x
  | lst q => exact .lst (extN_lst e q)
  | tup q => exact .tup (extN_tup e q)
  | dic q => exact .dic (e _ _ q fun _ z => by cases z)
theorem FitsIs.ext {H H' : Hp} (e : ExtN H H') {v : V} {r : Bool} (h : FitsIs H v r) : FitsIs H' v r := by
  cases h with
  | no k n => exact .no (k.ext e) n
  | tup a b c => exact .tup (extN_tup e a) b fun x hx => let ⟨m, k⟩ := c x hx; ⟨m, k.ext e⟩
theorem StIs.ext {H H' : Hp} (e : ExtN H H') {m : Nat} {v : V} {r : Bool} (h : StIs H m v r) : StIs H' m v r := by
  cases h with
  | no hk hn => exact .no (hk.ext e) hn
  | tup ha hl hx hr => exact .tup (extN_tup e ha) hl (fun x h => let ⟨n, k⟩ := hx x h; ⟨n, k.ext e⟩) hr
/-- what is wrong with a value that should be one of a plant -/
def NotStock (H : Hp) (pl : List Int) (v : V) : Prop := StIs H (pl.length + 1) v false
def NotStation (H : Hp) (pl : List Int) (v : V) : Prop := ∃ n, Kd H v n ∧ okV 0 (pl.length : Nat) v = false
def NotDays (lo hi : Int) (H : Hp) (pl : List Int) (v : V) : Prop := ∃ n, Kd H v n ∧ okV lo hi v = false
def NotMaker (H : Hp) (pl : List Int) (v : V) : Prop := NotStation H pl v ∨ ∃ m : Nat, v = .int (m : Int) ∧ m ≤ pl.length ∧ ((m : Nat) : Int) ∈ pl
/-- the first argument is no plant -/
def spB0 (C : Addr) (n : Nat) : Sp := fun vs H Q E => ∃ (v : V) (rest : List V), vs = v :: rest ∧ rest.length = n ∧ FitsIs H v false ∧ ∀ H', Same H H' → E (.ref C) none H'
/-- the second one is wrong -/
def spB1 (bad : Hp → List Int → V → Prop) (C : Addr) (n : Nat) : Sp := fun vs H Q E => ∃ (p : Addr) (pl : List Int) (v : V) (rest : List V), vs = .ref p :: v :: rest ∧ rest.length = n ∧ PlantAt H p pl ∧ bad H pl v ∧ ∀ H', Same H H' → E (.ref C) none H'
/-- the third one is wrong, behind a stock -/
def spB2 (bad : Hp → List Int → V → Prop) (C : Addr) (n : Nat) : Sp := fun vs H Q E => ∃ (p q : Addr) (pl ss : List Int) (v : V) (rest : List V), vs = .ref p :: .ref q :: v :: rest ∧ rest.length = n ∧ PlantAt H p pl ∧ StkAt H q ss ∧ ss.length = pl.length + 1 ∧ ss.Nodup ∧ bad H pl v ∧ ∀ H', Same H H' → E (.ref C) none H'
section
variable {P : Program} {w : World} {K : PySem.W.Frag} {mg : Str → Option Value} {base : Heap}
def spFitsStockG : Sp := fun vs H Q _ => ∃ (p : Addr) (ps : List V) (v : V) (r : Bool), vs = [.ref p, v] ∧ SqT K H p ps ∧ StIs H (ps.length + 1) v r ∧ ∀ H', Same H H' → Q (.bl r) H'
theorem Tx.fitsStockG (T : Tx K mg) {k : Nat} : FnOk P w K mg base CX0 (k + 2) T.f_fits_stock T.d_fits_stock ["plant", "value"] (spFitsStockG (K := K)) := by
  refine T.F_fits_stock.ok scFitsStock (fun vs H Q E h => ?_) (fun cdv A outer s H vs Q E hr h => ?_)
  · obtain ⟨p, ps, v, r, rfl, _⟩ := h
    rfl
  · obtain ⟨p, ps, v, r, rfl, hT, hv, qq⟩ := h
    refine ⟨_, pss_cons (ps_if (PW.pt (pw_or (pt_not (pt_val (pe_callB call_isi (by rfl) T.n_isinstance (by decide +kernel) (pa_cons (pv 1) (pa_cons (pe_bltn (v := .ty "tuple") (by rfl) T.n_tuple (by decide +kernel) rfl) pa_nil)))))
        (pw_or1 (pt_cmpR op_ne (pe_callB call_len_seq (by rfl) T.n_len PySem.boot_len (pa_cons (pv 1) pa_nil)) (pe_op op_add (pe_callB call_len_seq (by rfl) T.n_len PySem.boot_len (pa_cons (pv 0) pa_nil)) pe_int) (nomark _)))))
        (pss_one (ps_ret pe_bl)) pss_nil)
      (pss_cons (ps_if (pt_not (pt_val (pe_callB (cr_all rfl) (by rfl) T.n_all (by decide +kernel) (pa_cons
          (pe_lc (own := [("box", 2)]) (g := gName 2) (tt := tYes) (te := tCall spIsInteger [] E0 (tCons (tVar 2) tNil)) rfl scFitsStock.nd (pi_tup (pv 1)) (blkOk_by (N := ["plant", "value", "box"]) (sc := defScope sFitsStock) (by decide +kernel))
            (fun _ _ _ _ _ => pg_name (i := 2) scFitsStock.nd rfl (.inl rfl)) (fun _ _ _ _ _ => pts_nil)
            (fun _ _ _ _ _ => pe_call T.isInteger hr (by rfl) T.g_is_integer T.F_is_integer.kp T.b_is_integer .nil pass0 (pa_cons (pv 2) pa_nil))) pa_nil)))) (pss_one (ps_ret pe_bl)) pss_nil)
      (pss_one (ps_ret (pe_cmpR op_eq (pe_lenSetG (by rfl) T.n_len (by rfl) T.n_set (pv 1)) (pe_callB call_len_seq (by rfl) T.n_len PySem.boot_len (pa_cons (pv 1) pa_nil)) (nomark _))))), ?_⟩
    cases hv with
    | no hk hn =>
      refine ⟨_, rfl, _, .ty "tuple", _, _, _, rfl, .ty _, hk.tyx, kd_tuple hk, _, rfl, ?_⟩
      rw [show (_ == "tuple") = false from beq_eq_false_iff_ne.mpr hn]
      exact iteT (iteT (qq _ (Same.refl H)))
    | @tup a xs r ha hl hx hrr =>
      have hv : SqT K H a xs := .inl (.inl ha)
      refine ⟨_, rfl, _, .ty "tuple", _, _, _, rfl, .ty _, (Kd.tup ha).tyx, kd_tuple (.tup ha), _, rfl, ?_⟩
      refine iteF ⟨_, rfl, a, _, rfl, .inr hv, .ref p, rfl, p, ps, rfl, .inr hT, _, 1, rfl, rfl, rfl, _, rfl, ?_⟩
      by_cases c : xs.length = ps.length + 1
      · rw [show (!decide (V.int (xs.length : Int) = V.int ((ps.length : Int) + 1))) = false by rw [decide_eq_true (congrArg V.int (by omega))]; rfl]
        refine iteF ⟨.ref a, rfl, a, rfl, ⟨_, hv⟩, fun D nD => ?_⟩
        refine lc_tup (xs := xs) (fun i H' => Same H H' ∧ H' D = some (.lst (((xs.take i).map isI).map V.bl))) ⟨same_new nD, upd_same⟩ (fun i H' _ p1 => seqT p1.1 hv) (fun i x H1 ex p1 => ?_) (fun H' p1 => ?_)
        · obtain ⟨sm, eD⟩ := p1
          obtain ⟨n, hn⟩ := hx x (List.mem_of_getElem? ex)
          have hi := (List.getElem?_eq_some_iff.mp ex).1
          refine ⟨rfl, tyes_if ⟨x, rfl, x, n, rfl, hn.same sm, _, eD, ?_, fun b o hb => ?_, ?_⟩⟩
          · rw [List.length_map, List.length_map, List.length_take]
            exact small300 (by omega)
          · rw [upd_ne (ne_of_none hb nD)]
            exact sm _ _ hb
          · rw [upd_same, take_next ex, List.map_append, List.map_append]
            rfl
        · obtain ⟨sm, eD⟩ := p1
          rw [List.take_length] at eD
          refine ⟨D, _, rfl, .inl (.inl eD), _, rfl, ?_⟩
          have ea : (xs.map isI).all id = xs.all isI := by rw [List.all_map]; rfl
          rw [ea]
          cases z : xs.all isI with
          | false =>
            refine iteT ?_
            have e : r = false := by
              cases r with
              | false => rfl
              | true =>
                obtain ⟨_, ns, e1, _⟩ := hrr.mp rfl
                rw [e1, List.all_map] at z
                have z2 : (ns.all fun _ => true) = false := z
                simp at z2
            rw [e] at qq
            exact qq H' sm
          | true =>
            obtain ⟨ns, rfl⟩ := ints_all z
            rw [List.length_map] at c hl
            refine iteF ⟨.ref a, rfl, a, ns, rfl, seqT sm hv, by omega, fun k hk => ⟨.ref a, rfl, a, _, rfl, .inr (seqT sm hv), rfl, ?_⟩⟩
            have e : decide (V.int (k : Int) = V.int (((ns.map V.int).length : Nat) : Int)) = r := by
              rw [List.length_map]
              by_cases nd : ns.Nodup
              · rw [decide_eq_true (congrArg V.int (by have := hk.mpr nd; omega)), hrr.mpr ⟨by rw [List.length_map]; exact c, ns, rfl, nd⟩]
              · rw [decide_eq_false fun y => nd (hk.mp (by have := V.int.inj y; omega))]
                cases r with
                | false => rfl
                | true =>
                  obtain ⟨_, ms, e1, e2⟩ := hrr.mp rfl
                  have e3 : ns = ms := by
                    have f : Function.Injective V.int := fun _ _ y => V.int.inj y
                    exact (List.map_inj_right fun _ _ y => V.int.inj y).mp e1
                  exact absurd (e3 ▸ e2) nd
            rw [e]
            exact qq H' sm
      · rw [show (!decide (V.int (xs.length : Int) = V.int ((ps.length : Int) + 1))) = true by rw [decide_eq_false fun y => c (by have := V.int.inj y; omega)]; rfl]
        refine iteT ?_
        have e : r = false := by
          cases r with
          | false => rfl
          | true => exact absurd (hrr.mp rfl).1 c
        rw [e] at qq
        exact qq _ (Same.refl H)

def spChkPlant (C : Addr) : Sp := fun vs H Q E => ∃ v r, vs = [v] ∧ FitsIs H v r ∧ ∀ H', Same H H' → if r = true then Q .non H' else E (.ref C) none H'
theorem Tx.checkPlantN (T : Tx K mg) {k : Nat} : FnOk P w K mg base (L2N.CX P w) (k + 2) T.f_check_plant T.d_check_plant ["plant"] (spChkPlant T.x_NoPlant) := by
  refine Fun.okN T.F_check_plant scCheckPlant (fun vs H Q E h => ?_) (fun cdv A out s H vs Q E hr h => ?_)
  · obtain ⟨v, r, rfl, _⟩ := h
    rfl
  · obtain ⟨v, r, rfl, hf, q⟩ := h
    refine ⟨_, pss_one (ps_if (pt_not (pt_val (pe_call T.fits hr (by rfl) T.g_fits_plant T.F_fits_plant.kp T.b_fits_plant .nil pass0 (pa_cons (pv 0) pa_nil))))
      (pss_one (L2N.ps_raise rfl (L2N.takes_of rfl rfl rfl rfl) (L2N.pmk_own PySem.F.excBase_ValueError T.X_NoPlant.e T.X_NoPlant.g T.X_NoPlant.k (raises_own T.X_NoPlant.s T.X_NoPlant.t) (by rfl)))) pss_nil), ?_⟩
    refine ⟨v, rfl, v, r, rfl, hf, fun H' sm => ⟨r, rfl, ?_⟩⟩
    have z := q H' sm
    cases r with
    | true => exact iteF z
    | false => exact iteT z
def spChkStation (C : Addr) : Sp := fun vs H Q E => ∃ (p : Addr) (xs : List V) (v : V) (n : String), vs = [.ref p, v] ∧ SqT K H p xs ∧ Kd H v n ∧ if okV 0 (xs.length : Nat) v = true then Q .non H else E (.ref C) none H
def spChkDays (C : Addr) : Sp := fun vs H Q E => ∃ (v : V) (n : String) (lo hi : Int), vs = [v, .int lo, .int hi] ∧ Kd H v n ∧ if okV lo hi v = true then Q .non H else E (.ref C) none H
/-- a stock known to its object is told by StkAt -/
def spChkStock (C : Addr) : Sp := fun vs H Q E => ∃ (p : Addr) (ps : List V) (v : V) (r : Bool), vs = [.ref p, v] ∧ SqT K H p ps ∧ StIs H (ps.length + 1) v r ∧ ∀ H', Same H H' → if r = true then Q .non H' else E (.ref C) none H'
theorem Tx.checkStockN1 (T : Tx K mg) {k : Nat} : FnOk P w K mg base (L2N.CX P w) (k + 3) T.f_check_stock T.d_check_stock ["plant", "stock"]
    (spChkStock (K := K) T.x_NoStock) := by
  refine Fun.okN T.F_check_stock scCheckStock (fun vs H Q E h => ?_) (fun cdv A out s H vs Q E hr h => ?_)
  · obtain ⟨p, ps, v, r, rfl, _⟩ := h
    rfl
  · obtain ⟨p, ps, v, r, rfl, hT, hv, q⟩ := h
    refine ⟨_, pss_one (ps_if (pt_not (pt_val (pe_call T.fitsStockG hr (by rfl) T.g_fits_stock T.F_fits_stock.kp T.b_fits_stock .nil pass0 (pa_cons (pv 0) (pa_cons (pv 1) pa_nil)))))
      (pss_one (L2N.ps_raise rfl (L2N.takes_of rfl rfl rfl rfl) (L2N.pmk_own PySem.F.excBase_ValueError T.X_NoStock.e T.X_NoStock.g T.X_NoStock.k (raises_own T.X_NoStock.s T.X_NoStock.t) (by rfl)))) pss_nil), ?_⟩
    refine ⟨.ref p, rfl, v, rfl, p, ps, v, r, rfl, hT, hv, fun H' sm => ⟨r, rfl, ?_⟩⟩
    have z := q H' sm
    cases r with
    | true => exact iteF z
    | false => exact iteT z
/-- any value that is none, or a stock -/
def spChkStockA (C : Addr) : Sp := fun vs H Q E => ∃ (p : Addr) (pl : List Int) (v : V), vs = [.ref p, v] ∧ PlantAt H p pl ∧ ((NotStock H pl v ∧ ∀ H', Same H H' → E (.ref C) none H') ∨ (∃ q ss, v = .ref q ∧ StkAt H q ss ∧ ss.length = pl.length + 1 ∧ ss.Nodup ∧ ∀ H', Same H H' → Q .non H'))
theorem Tx.checkStockN (T : Tx K mg) {k : Nat} : FnOk P w K mg base (L2N.CX P w) (k + 3) T.f_check_stock T.d_check_stock ["plant", "stock"]
    (spChkStockA T.x_NoStock) := by
  have F := FnOk.or (T.checkStockN1 (P := P) (w := w) (base := base) (k := k)) (FnOk.quiet (T.checkStockF (P := P) (w := w) (base := base) (k := k)))
  refine fnOk_of F (fun vs H Q E h => ?_)
  obtain ⟨p, pl, v, rfl, hP, ⟨b, e⟩ | ⟨q, ss, rfl, hq, hl, nd, qq⟩⟩ := h
  · exact .inl ⟨p, _, v, false, rfl, hP.seq, by rw [List.length_map]; exact b, fun H' sm => iteF (e H' sm)⟩
  · have hn := hP.ok.len
    exact .inr ⟨p, q, _, ss, rfl, hP.seq, hq, by rw [List.length_map]; exact hl, by omega, nd, qq⟩
def spChkMaker (C : Addr) : Sp := fun vs H Q E => ∃ (p : Addr) (pl : List Int) (v : V), vs = [.ref p, v] ∧ PlantAt H p pl ∧ ((NotMaker H pl v ∧ E (.ref C) none H) ∨ (∃ m : Nat, v = .int (m : Int) ∧ m ≤ pl.length ∧ ((m : Nat) : Int) ∉ pl ∧ Q .non H))
end
end PT


set_option maxHeartbeats 1000000
/-! what a call comes to: it returns, or an error of one class leaves it; more is known of the heap (Z) -/
namespace PT
open PySem PySem.Spec PyProof.Rows L2 L2H HotX LamX NdefX
/-- of the alternatives A, one holds: with due for what comes of it -/
def Case (Z : Hp → Prop) (errs : List Addr) (A : Sp) (H : Hp) (xs : List V) (due : List Str) : Prop := ∀ H', ExtN H H' → Z H' → ∀ (Q : VK) (E : XK), (due = [] → ∀ v H2, ExtN H' H2 → Z H2 → Q v H2) →
  (∀ j H2, j < 14 → j ≠ 9 → due = [clsName j] → ExtN H' H2 → Z H2 → E (.ref (errs.getD j 0)) none H2) → A xs H' Q E
theorem Case.ext {Z : Hp → Prop} {errs : List Addr} {A : Sp} {H H' : Hp} {xs : List V} {due : List Str} (h : Case Z errs A H xs due) (e : ExtN H H') : Case Z errs A H' xs due := fun H2 e2 => h H2 (e.trans e2)
def SpO (A B : Sp) : Sp := fun vs H Q E => A vs H Q E ∨ B vs H Q E
theorem Case.l {Z : Hp → Prop} {errs : List Addr} {A B : Sp} {H : Hp} {xs : List V} {due : List Str} (h : Case Z errs A H xs due) : Case Z errs (SpO A B) H xs due := fun H' e zz Q E q r => .inl (h H' e zz Q E q r)
theorem Case.r {Z : Hp → Prop} {errs : List Addr} {A B : Sp} {H : Hp} {xs : List V} {due : List Str} (h : Case Z errs B H xs due) : Case Z errs (SpO A B) H xs due := fun H' e zz Q E q r => .inr (h H' e zz Q E q r)
theorem case_b0 {Z : Hp → Prop} (zs : ∀ {H H'}, Same H H' → Z H → Z H') {errs : List Addr} {H : Hp} {v : V} {rest : List V} {n : Nat} (h : FitsIs H v false) (l : rest.length = n) : Case Z errs (spB0 (errs.getD 0 0) n) H (v :: rest) [clsName 0] := fun H' e zz Q E _ r =>
  ⟨v, rest, rfl, l, h.ext e, fun H2 s => r 0 H2 (by decide) (by decide) rfl (same_extN s) (zs s zz)⟩
theorem case_b1 {Z : Hp → Prop} (zs : ∀ {H H'}, Same H H' → Z H → Z H') {errs : List Addr} {bad : Hp → List Int → V → Prop} {H : Hp} {p : Addr} {pl : List Int} {v : V} {rest : List V} {n j : Nat} (hP : PlantAt H p pl) (h : ∀ H', ExtN H H' → bad H' pl v) (l : rest.length = n) (lj : j < 14) (nj : j ≠ 9) :
    Case Z errs (spB1 bad (errs.getD j 0) n) H (.ref p :: v :: rest) [clsName j] := fun H' e zz Q E _ r =>
  ⟨p, pl, v, rest, rfl, l, extN_plant e hP, h H' e, fun H2 s => r j H2 lj nj rfl (same_extN s) (zs s zz)⟩
theorem case_b2 {Z : Hp → Prop} (zs : ∀ {H H'}, Same H H' → Z H → Z H') {errs : List Addr} {bad : Hp → List Int → V → Prop} {H : Hp} {p q : Addr} {pl ss : List Int} {v : V} {rest : List V} {n j : Nat} (hP : PlantAt H p pl) (hq : StkAt H q ss) (ln : ss.length = pl.length + 1) (nd : ss.Nodup) (h : ∀ H', ExtN H H' → bad H' pl v) (l : rest.length = n) (lj : j < 14) (nj : j ≠ 9) :
    Case Z errs (spB2 bad (errs.getD j 0) n) H (.ref p :: .ref q :: v :: rest) [clsName j] := fun H' e zz Q E _ r =>
  ⟨p, q, pl, ss, v, rest, rfl, l, extN_plant e hP, hq.ext e, ln, nd, h H' e, fun H2 s => r j H2 lj nj rfl (same_extN s) (zs s zz)⟩
theorem notDays_ext {lo hi : Int} {H : Hp} {pl : List Int} {v : V} (h : NotDays lo hi H pl v) : ∀ H', ExtN H H' → NotDays lo hi H' pl v := fun H' e => let ⟨n, k, z⟩ := h; ⟨n, k.ext e, z⟩
theorem notStation_ext {H : Hp} {pl : List Int} {v : V} (h : NotStation H pl v) : ∀ H', ExtN H H' → NotStation H' pl v := fun H' e => let ⟨n, k, z⟩ := h; ⟨n, k.ext e, z⟩
theorem notStock_ext {H : Hp} {pl : List Int} {v : V} (h : NotStock H pl v) : ∀ H', ExtN H H' → NotStock H' pl v := fun H' e => StIs.ext e h
theorem tabs_sameF {T : List (Addr × Str)} {H H' : Hp} (e : Same H H') (h : Tabs T H) : Tabs T H' := tabs_same h e
/-- around a body nothing is let out -/
theorem takesN0 {X : Cx} : L2N.Takes X (fun _ _ _ _ => False) := fun _ _ ⟨_, _, _, _, _, _, _, _, _, _, _, _, _, _, _, _, z⟩ => z.elim
end PT

set_option maxHeartbeats 4000000
/-! where the program's functions raise -/
namespace PT
open PySem PySem.Spec PyProof.Rows L2 LamX NdefX
section
variable {P : Program} {w : World} {K : PySem.W.Frag} {mg : Str → Option Value} {base : Heap}
theorem Tx.show_plantE0 (T : Tx K mg) : FnOk P w K mg base (L2N.CX P w) 9 T.f_show_plant T.d_show_plant ["plant", "stock"] (spB0 T.x_NoPlant 1) := by
  refine Fun.okN T.F_show_plant scShowPlant (fun vs H Q E h => ?_) (fun cdv A out s H vs Q E hr h => ?_)
  · obtain ⟨v, rest, rfl, hl, _⟩ := h
    show rest.length + 1 = _
    rw [hl]
    rfl
  · obtain ⟨v, rest, rfl, hl, hf, qq⟩ := h
    refine ⟨_, (pss_cons (ps_expr (pe_call (T.checkPlantN (k := 0)) (hr.mono (by omega)) (by rfl) T.g_check_plant T.F_check_plant.kp T.b_check_plant .nil (L2N.passes_call (L2N.takes_of rfl rfl rfl rfl) fun _ _ _ _ z => z) (pa_cons (pv 0) pa_nil)))
        (pss_cons (ps_expr (pe_call (T.checkStockN (k := 0)) (hr.mono (by omega)) (by rfl) T.g_check_stock T.F_check_stock.kp T.b_check_stock .nil (L2N.passes_call (L2N.takes_of rfl rfl rfl rfl) fun _ _ _ _ z => z) (pa_cons (pv 0) (pa_cons (pv 1) pa_nil))))
        pss_never)), ?_⟩
    exact ⟨v, rfl, v, false, rfl, hf, fun H1 s1 => iteF (qq H1 s1)⟩

theorem Tx.show_plantE1 (T : Tx K mg) : FnOk P w K mg base (L2N.CX P w) 9 T.f_show_plant T.d_show_plant ["plant", "stock"] (spB1 NotStock T.x_NoStock 0) := by
  refine Fun.okN T.F_show_plant scShowPlant (fun vs H Q E h => ?_) (fun cdv A out s H vs Q E hr h => ?_)
  · obtain ⟨p, pl, v, rest, rfl, hl, _⟩ := h
    show rest.length + 1 + 1 = _
    rw [hl]
    rfl
  · obtain ⟨p, pl, v, rest, rfl, hl, hP, hb, qq⟩ := h
    refine ⟨_, (pss_cons (ps_expr (pe_call (T.checkPlantN (k := 0)) (hr.mono (by omega)) (by rfl) T.g_check_plant T.F_check_plant.kp T.b_check_plant .nil (L2N.passes_call (L2N.takes_of rfl rfl rfl rfl) fun _ _ _ _ z => z) (pa_cons (pv 0) pa_nil)))
        (pss_cons (ps_expr (pe_call (T.checkStockN (k := 0)) (hr.mono (by omega)) (by rfl) T.g_check_stock T.F_check_stock.kp T.b_check_stock .nil (L2N.passes_call (L2N.takes_of rfl rfl rfl rfl) fun _ _ _ _ z => z) (pa_cons (pv 0) (pa_cons (pv 1) pa_nil))))
        pss_never)), ?_⟩
    refine ⟨.ref p, rfl, .ref p, true, rfl, hP.fits, fun H1 s1 => iteT ?_⟩
    exact ⟨.ref p, rfl, v, rfl, p, pl, v, rfl, hP.same s1, .inl ⟨StIs.ext (same_extN s1) hb, fun H9 sm => qq H9 (Same.trans s1 sm)⟩⟩

end
end PT

set_option maxHeartbeats 4000000
/-! the text of a plant and a stock -/
namespace PT
open PySem PySem.Spec PyProof.Rows L2
/-- a text out of parts -/
def tJoin (ts : List TE) : TE := fun σ H Q => tJs ts Str.empty σ H fun out H1 => Q (.str out) H1
theorem pe_joinedD {X : Cx} {v1 v2 : Expr} {rest : List Expr} {ts : List TE} {pos : Pos} (h : PJ X (v1 :: v2 :: rest) ts) : PE X (.JoinedStr (v1 :: v2 :: rest) pos) (tJoin ts) := pe_joined h
/-- a number's text -/
def numT (i : Int) : Str := Str.ofString (toString i)
theorem numT_len {i : Int} (h : i.natAbs < 10 ^ 50) : (numT i).length ≤ 60 := by
  have z := (nice_int h).lv
  simp only [PyData.leavesShort, decide_eq_true_eq] at z
  exact z
theorem numT_log {i : Int} (h : i.natAbs < 10 ^ 50) : i.natAbs.log2 < 1920 := by
  by_cases z : i.natAbs = 0
  · rw [z]; decide
  · exact (Nat.log2_lt z).mpr (Nat.lt_trans h (by decide))
/-- what stands first in a station's line -/
def bossT (pl : List Int) (k : Nat) : Str := match k with
  | 0 => Str.ofString "shop"
  | k + 1 => numT (pl.getD k 0)
def bosses (pl : List Int) : List Str := Str.ofString "shop" :: pl.map numT
def lineT (a : Str) (i : Int) : Str := a ++ Str.ofString " " ++ numT i ++ Str.ofString "\n"
def linesT : List Str → List Int → List Str
  | a :: as, i :: is => lineT a i :: linesT as is
  | _, _ => []
def showT (pl ss : List Int) : Str := Txt.join Str.empty (linesT (bosses pl) ss)
theorem linesT_len : ∀ {as : List Str} {is : List Int}, as.length = is.length → (linesT as is).length = as.length
  | [], [], _ => rfl
  | a :: as, i :: is, h => by
    rw [linesT, List.length_cons, List.length_cons, linesT_len (Nat.succ.inj h)]
theorem linesT_get : ∀ {as : List Str} {is : List Int} {k : Nat} {a : Str} {i : Int}, as[k]? = some a → is[k]? = some i → (linesT as is)[k]? = some (lineT a i)
  | _ :: _, _ :: _, 0, _, _, e, f => by cases e; cases f; rfl
  | _ :: as, _ :: is, k + 1, _, _, e, f => linesT_get (as := as) (is := is) (k := k) e f
theorem lineT_len {a : Str} {i : Int} (ha : a.length ≤ 60) (hi : i.natAbs < 10 ^ 50) : (lineT a i).length ≤ 130 := by
  have z := numT_len hi
  unfold lineT
  rw [Str.length_append, Str.length_append, Str.length_append]
  have e1 : (Str.ofString " ").length = 1 := by decide
  have e2 : (Str.ofString "\n").length = 1 := by decide
  omega
theorem linesT_all {p : Str → Prop} : ∀ {as : List Str} {is : List Int}, (∀ a ∈ as, ∀ i ∈ is, p (lineT a i)) → ∀ y ∈ linesT as is, p y
  | [], _, _, y, h => by cases h
  | _ :: _, [], _, y, h => by cases h
  | a :: as, i :: is, q, y, h => by
    rcases List.mem_cons.mp h with rfl | h
    · exact q a List.mem_cons_self i List.mem_cons_self
    · exact linesT_all (fun b hb j hj => q b (List.mem_cons_of_mem _ hb) j (List.mem_cons_of_mem _ hj)) y h
theorem bosses_len {pl : List Int} (h : ∀ x ∈ pl, x.natAbs < 10 ^ 50) : ∀ a ∈ bosses pl, a.length ≤ 60 := fun a ha => by
  rcases List.mem_cons.mp ha with rfl | ha
  · decide
  · obtain ⟨x, hx, rfl⟩ := List.mem_map.mp ha
    exact numT_len (h x hx)
theorem sum_le {B : Nat} : ∀ {ys : List Str}, (∀ y ∈ ys, y.length ≤ B) → (ys.map (·.length)).sum ≤ ys.length * B
  | [], _ => Nat.zero_le _
  | y :: ys, h => by
    have z1 := h y List.mem_cons_self
    have z2 := sum_le (ys := ys) fun x hx => h x (List.mem_cons_of_mem _ hx)
    rw [List.map_cons, List.sum_cons, List.length_cons, Nat.succ_mul]
    omega
end PT

set_option maxHeartbeats 4000000
/-! plain data in the heap; displays of written values -/
namespace PT
open PySem PySem.Spec PyProof.Rows L2 LamX NdefX
/-- the heap without one list that is written to -/
def hide (H : Hp) (b : Addr) : Hp := fun c => if c = b then none else H c
theorem hide_same {H H' : Hp} (e : Same H H') (b : Addr) : Same (hide H b) (hide H' b) := fun c o h => by
  unfold hide at h ⊢
  by_cases z : c = b
  · rw [if_pos z] at h; cases h
  · rw [if_neg z] at h ⊢; exact e c o h
theorem hide_bar {H H' : Hp} {b : Addr} (e : Bar b H H') : Same (hide H b) (hide H' b) := fun c o h => by
  unfold hide at h ⊢
  by_cases z : c = b
  · rw [if_pos z] at h; cases h
  · rw [if_neg z] at h ⊢; exact e c o z h
theorem hide_sub (H : Hp) (b : Addr) : Same (hide H b) H := fun c o h => by
  unfold hide at h
  by_cases z : c = b
  · rw [if_pos z] at h; cases h
  · rw [if_neg z] at h; exact h
theorem hide_at {H : Hp} {b c : Addr} {o : HO} (n : c ≠ b) (h : H c = some o) : hide H b c = some o := by
  unfold hide
  rw [if_neg n]
  exact h
mutual
/-- v stands for d, no locked tuple within -/
inductive DP (H : Hp) : V → PyData → Prop
  | non : DP H .non .none
  | bl (b : Bool) : DP H (.bl b) (.bool b)
  | int (i : Int) : DP H (.int i) (.int i)
  | str (x : Str) : DP H (.str x) (.str x)
  | dic {a : Addr} : H a = some (.dK []) → DP H (.ref a) (.dict [])
  | lst {a : Addr} {xs : List V} {ds : List PyData} : H a = some (.lst xs) → DPs H xs ds → DP H (.ref a) (.list ds)
  | tup {a : Addr} {xs : List V} {ds : List PyData} : H a = some (.tup xs) → DPs H xs ds → DP H (.ref a) (.tuple ds)
inductive DPs (H : Hp) : List V → List PyData → Prop
  | nil : DPs H [] []
  | cons {v : V} {d : PyData} {vs : List V} {ds : List PyData} : DP H v d → DPs H vs ds → DPs H (v :: vs) (d :: ds)
end
mutual
theorem DP.ext {H H' : Hp} (e : ExtN H H') : ∀ (d : PyData) (v : V), DP H v d → DP H' v d
  | .none, _, h => by cases h; exact .non
  | .bool b, _, h => by cases h; exact .bl b
  | .int i, _, h => by cases h; exact .int i
  | .str x, _, h => by cases h; exact .str x
  | .list ds, _, h => by
    cases h with
    | lst a b => exact .lst (extN_lst e a) (DPs.ext e ds _ b)
  | .tuple ds, _, h => by
    cases h with
    | tup a b => exact .tup (extN_tup e a) (DPs.ext e ds _ b)
  | .dict _, _, h => by
    cases h with
    | dic a => exact .dic (e _ _ a fun _ z => by cases z)
theorem DPs.ext {H H' : Hp} (e : ExtN H H') : ∀ (ds : List PyData) (vs : List V), DPs H vs ds → DPs H' vs ds
  | [], _, h => by cases h; exact .nil
  | d :: ds, _, h => by
    cases h with
    | cons a b => exact .cons (DP.ext e d _ a) (DPs.ext e ds _ b)
end
mutual
theorem DP.dd {H : Hp} : ∀ (d : PyData) (v : V), DP H v d → DD H v d
  | .none, _, h => by cases h; exact .non
  | .bool b, _, h => by cases h; exact .bl b
  | .int i, _, h => by cases h; exact .int i
  | .str x, _, h => by cases h; exact .str x
  | .list ds, _, h => by
    cases h with
    | lst a b => exact .lst a (DPs.dd ds _ b)
  | .tuple ds, _, h => by
    cases h with
    | tup a b => exact .tup a (DPs.dd ds _ b)
  | .dict _, _, h => by
    cases h with
    | dic a => exact .dic a
theorem DPs.dd {H : Hp} : ∀ (ds : List PyData) (vs : List V), DPs H vs ds → DDs H vs ds
  | [], _, h => by cases h; exact .nil
  | d :: ds, _, h => by
    cases h with
    | cons a b => exact .cons (DP.dd d _ a) (DPs.dd ds _ b)
end
theorem DP.same {H H' : Hp} (e : Same H H') {v : V} {d : PyData} (h : DP H v d) : DP H' v d := DP.ext (same_extN e) d v h
theorem DPs.same {H H' : Hp} (e : Same H H') {vs : List V} {ds : List PyData} (h : DPs H vs ds) : DPs H' vs ds := DPs.ext (same_extN e) ds vs h
theorem DPs.len {H : Hp} : ∀ {xs : List V} {ds : List PyData}, DPs H xs ds → xs.length = ds.length
  | _, _, .nil => rfl
  | _, _, .cons _ b => by rw [List.length_cons, List.length_cons, b.len]
theorem DPs.app {H : Hp} : ∀ {xs ys : List V} {ds es : List PyData}, DPs H xs ds → DPs H ys es → DPs H (xs ++ ys) (ds ++ es)
  | _, _, _, _, .nil, k => k
  | _, _, _, _, .cons a b, k => .cons a (b.app k)
theorem DPs.ints {H : Hp} : ∀ ns : List Int, DPs H (ns.map V.int) (ns.map PyData.int)
  | [] => .nil
  | n :: r => .cons (.int n) (DPs.ints r)
theorem DPs.rep {H : Hp} {v : V} {d : PyData} (h : DP H v d) : ∀ n : Nat, DPs H (List.replicate n v) (List.replicate n d)
  | 0 => .nil
  | n + 1 => .cons h (DPs.rep h n)
theorem DPs.get {H : Hp} : ∀ {xs : List V} {ds : List PyData}, DPs H xs ds → ∀ (i : Nat) (x : V), xs[i]? = some x → ∃ d, ds[i]? = some d ∧ DP H x d
  | _, _, .cons a _, 0, x, e => by
    cases e
    exact ⟨_, rfl, a⟩
  | _, _, .cons _ b, i + 1, x, e => b.get i x e
theorem DPs.mem {H : Hp} {xs : List V} {ds : List PyData} (h : DPs H xs ds) {x : V} (hx : x ∈ xs) : ∃ d ∈ ds, DP H x d := by
  obtain ⟨i, e⟩ := List.mem_iff_getElem?.mp hx
  obtain ⟨d, e2, z⟩ := h.get i x e
  exact ⟨d, List.mem_of_getElem? e2, z⟩
theorem DP.kd {H : Hp} {v : V} {d : PyData} (h : DP H v d) : ∃ n, Kd H v n := by
  cases h with
  | non => exact ⟨_, .non⟩
  | bl b => exact ⟨_, .bl b⟩
  | int i => exact ⟨_, .int i⟩
  | str x => exact ⟨_, .str x⟩
  | dic a => exact ⟨_, .dic a⟩
  | lst a b => exact ⟨_, .lst a⟩
  | tup a b => exact ⟨_, .tup a⟩
/-! ### what the checks say of data -/
def okPy (lo hi : Int) : PyData → Bool
  | .int j => decide (lo ≤ j) && decide (j ≤ hi)
  | _ => false
def okPys : Nat → List PyData → Bool
  | _, [] => true
  | i, d :: ds => okPy 0 (i : Nat) d && okPys (i + 1) ds
def fitsD : PyData → Bool
  | .tuple ds => decide (ds.length < 40) && okPys 0 ds
  | _ => false
theorem DP.okV {H : Hp} {v : V} {d : PyData} (h : DP H v d) (lo hi : Int) : okV lo hi v = okPy lo hi d := by
  cases h <;> rfl
theorem okPys_all {H : Hp} : ∀ {xs : List V} {ds : List PyData} (k : Nat), DPs H xs ds → ((List.range xs.length).map fun i => PT.okV 0 ((k + i : Nat) : Int) (xs.getD i .non)).all id = okPys k ds
  | _, _, k, .nil => rfl
  | _, _, k, .cons (v := v) (vs := vs) a b => by
    rw [List.length_cons, List.range_succ_eq_map, List.map_cons, List.all_cons, List.map_map]
    have ih := okPys_all (k + 1) b
    have e : ((fun i => PT.okV 0 ((k + i : Nat) : Int) ((v :: vs).getD i V.non)) ∘ Nat.succ) = fun i => PT.okV 0 ((k + 1 + i : Nat) : Int) (vs.getD i V.non) := by
      funext i
      show PT.okV 0 ((k + (i + 1) : Nat) : Int) _ = _
      rw [show k + (i + 1) = k + 1 + i by omega]
      rfl
    rw [e, ih, show okPys k (_ :: _) = (okPy 0 (k : Nat) _ && okPys (k + 1) _) from rfl, ← a.okV]
    rfl
theorem DP.fits {H : Hp} {v : V} {d : PyData} (h : DP H v d) (small : ∀ ds, d = .tuple ds → ds.length ≤ 300) : FitsIs H v (fitsD d) := by
  cases h with
  | non => exact .no .non (by decide)
  | bl b => exact .no (.bl b) (by decide)
  | int i => exact .no (.int i) (by decide)
  | str x => exact .no (.str x) (by decide)
  | dic a => exact .no (.dic a) (by decide)
  | lst a b => exact .no (.lst a) (by decide)
  | @tup a xs ds e b =>
    have s := small ds rfl
    have z : fitsD (.tuple ds) = fitsV xs := by
      show (decide (ds.length < 40) && okPys 0 ds) = (decide (xs.length < 40) && (okVs xs).all id)
      unfold okVs
      rw [← okPys_all 0 b, b.len]
      congr 2
      refine List.map_congr_left fun i hi => ?_
      rw [Nat.zero_add]
    rw [z]
    exact .tup e (by rw [b.len]; exact s) fun x hx => let ⟨d, _, k⟩ := b.mem hx; k.kd
/-! ### lists of plain data, where b is written to -/
theorem PotNe.same {H H' : Hp} {b : Addr} (e : Same H H') (h : H b ≠ none) : H' b ≠ none := fun z => by
  cases e2 : H b with
  | none => exact h e2
  | some o => rw [e _ _ e2] at z; cases z
theorem ne_bar {H : Hp} {b p : Addr} (hb : H b ≠ none) (np : H p = none) : p ≠ b := fun e => hb (e ▸ np)
theorem dp_new {H : Hp} {b p : Addr} {xs : List V} {ds : List PyData} (hb : H b ≠ none) (np : H p = none) (h : DPs (hide H b) xs ds) : DP (hide (upd H p (.lst xs)) b) (.ref p) (.list ds) :=
  .lst (hide_at (ne_bar hb np) upd_same) (h.same (hide_same (same_new np) b))
theorem dp_newT {H : Hp} {b p : Addr} {xs : List V} {ds : List PyData} (hb : H b ≠ none) (np : H p = none) (h : DPs (hide H b) xs ds) : DP (hide (upd H p (.tup xs)) b) (.ref p) (.tuple ds) :=
  .tup (hide_at (ne_bar hb np) upd_same) (h.same (hide_same (same_new np) b))
theorem same_lst {H : Hp} {b p : Addr} {xs : List V} {ds : List PyData} (np : H p = none) (h : DPs (hide H b) xs ds) : Same H (upd H p (.lst xs)) := same_new np
theorem rep_one (v : V) (n : Nat) : (List.replicate n [v]).flatten = List.replicate n v := by
  induction n with
  | zero => rfl
  | succ n ih => rw [List.replicate_succ, List.flatten_cons, ih]; rfl
/-! ### written values: te reads a display of d -/
def LEv (b : Addr) (te : TE) (d : PyData) : Prop := ∀ (σ : L2.St) (H : Hp) (Q : VK), H b ≠ none → (∀ v H', Same H H' → DP (hide H' b) v d → Q v H') → te σ H Q
def LEvs (b : Addr) (ta : TA) (ds : List PyData) : Prop := ∀ (σ : L2.St) (H : Hp) (Q : List V → Hp → Prop), H b ≠ none → (∀ vs H', Same H H' → DPs (hide H' b) vs ds → Q vs H') → ta σ H Q
section
variable {K : PySem.W.Frag} {b : Addr} {te : TE} {ta : TA} {d : PyData} {ds : List PyData}
theorem lev_non : LEv b (tC .non) .none := fun _ H _ _ q => q _ H (Same.refl H) .non
theorem lev_bl {c : Bool} : LEv b (tC (.bl c)) (.bool c) := fun _ H _ _ q => q _ H (Same.refl H) (.bl c)
theorem lev_int {i : Int} : LEv b (tC (.int i)) (.int i) := fun _ H _ _ q => q _ H (Same.refl H) (.int i)
theorem lev_str {x : Str} : LEv b (tC (.str x)) (.str x) := fun _ H _ _ q => q _ H (Same.refl H) (.str x)
theorem lev_neg {i : Int} : LEv b (tUn (rU fun i => .int (-i)) (tC (.int i))) (.int (-i)) := fun _ H _ _ q => ⟨i, rfl, q _ H (Same.refl H) (.int _)⟩
theorem lev_pow {i j : Int} (ok : CPow i j) : LEv b (tOp (rI CPow fun i j => .int (i ^ j.toNat)) (tC (.int i)) (tC (.int j))) (.int (i ^ j.toNat)) := fun _ H _ _ q => ⟨i, j, rfl, rfl, ok, q _ H (Same.refl H) (.int _)⟩
theorem lev_pow1 {i j k : Int} (ok : CPow i j) : LEv b (tOp (rI0 fun i j => .int (i + j)) (tOp (rI CPow fun i j => .int (i ^ j.toNat)) (tC (.int i)) (tC (.int j))) (tC (.int k))) (.int (i ^ j.toNat + k)) := fun _ H _ _ q => ⟨i, j, rfl, rfl, ok, _, k, rfl, rfl, q _ H (Same.refl H) (.int _)⟩
theorem lev_dic : LEv b tDNewK (.dict []) := fun _ _ _ hb q p np => q _ _ (same_new np) (.dic (hide_at (ne_bar hb np) upd_same))
theorem lev_lst (h : LEvs b ta ds) (small : ds.length ≤ 300) : LEv b (tLst ta) (.list ds) := fun σ H Q hb q => h σ H _ hb fun vs H1 s1 hv =>
  ⟨by rw [hv.len]; exact Nat.le_of_lt (small300 small), fun p np => q _ _ (s1.trans (same_new np)) (dp_new (PotNe.same s1 hb) np hv)⟩
theorem lev_tup (h : LEvs b ta ds) (small : ds.length ≤ 300) : LEv b (tTup ta) (.tuple ds) := fun σ H Q hb q => h σ H _ hb fun vs H1 s1 hv =>
  ⟨by rw [hv.len]; exact Nat.le_of_lt (small300 small), fun p np => q _ _ (s1.trans (same_new np)) (dp_newT (PotNe.same s1 hb) np hv)⟩
/-- a written value, as one step -/
def tLev (b : Addr) (d : PyData) : TE := fun _ H Q => H b ≠ none ∧ ∀ v H', Same H H' → DP (hide H' b) v d → Q v H'
def tLevs (b : Addr) (ds : List PyData) : TA := fun _ H Q => H b ≠ none ∧ ∀ vs H', Same H H' → DPs (hide H' b) vs ds → Q vs H'
theorem pe_lev {X : Cx} {e : Expr} (h : LEv b te d) (p : PE X e te) : PE X e (tLev b d) := ⟨fun pins s σ H Q I w => p.run pins s σ H Q I (h σ H Q w.1 w.2)⟩
theorem pa_lev {X : Cx} {es : List Expr} (h : LEvs b ta ds) (p : PA X es ta) : PA X es (tLevs b ds) := ⟨fun pos pins s σ H Q I w => p.run pos pins s σ H Q I (h σ H Q w.1 w.2)⟩
theorem lev_var {i : Nat} {σ : L2.St} {v : V} {H : Hp} {Q : VK} (e : σ[i]? = some (some v)) (q : Q v H) : tVar i σ H Q := ⟨v, e, q⟩
theorem levs_nil : LEvs b tNil [] := fun _ H _ _ q => q [] H (Same.refl H) .nil
theorem levs_cons (h : LEv b te d) (t : LEvs b ta ds) : LEvs b (tCons te ta) (d :: ds) := fun σ H Q hb q => h σ H _ hb fun v H1 s1 hv =>
  t σ H1 _ (PotNe.same s1 hb) fun vs H2 s2 hvs => q _ H2 (s1.trans s2) (.cons (hv.same (hide_same s2 b)) hvs)
theorem lev_rep {k : Int} (h : LEv b te d) (n : Nat) (e : k = (n : Int)) (l2 : 2 ≤ n) (l3 : n ≤ 300) : LEv b (tOp (rRepT K) (tTup (tCons te tNil)) (tC (.int k))) (.tuple (List.replicate n d)) := fun σ H Q hb q => by
  subst e
  refine h σ H _ hb fun v H1 s1 hv => ⟨by show 1 ≤ sizeLine; decide, fun p np => ?_⟩
  refine ⟨p, (n : Int), [v], rfl, rfl, .inl (.inl upd_same), by simp, by omega, by omega, (by show 1 ≤ 1000; decide), fun p2 np2 => ?_⟩
  rw [Int.toNat_natCast, rep_one]
  have s2 : Same H (upd H1 p (.tup [v])) := s1.trans (same_new np)
  exact q _ _ (s2.trans (same_new np2)) (dp_newT (PotNe.same s2 hb) np2 (DPs.rep (hv.same (hide_same (same_new np) b)) n))
end
theorem dp_lst {H : Hp} {b l : Addr} {ds : List PyData} (h : DP (hide H b) (.ref l) (.list ds)) : ∃ xs, H l = some (.lst xs) ∧ DPs (hide H b) xs ds := by
  cases h with
  | lst a c => exact ⟨_, hide_sub H b _ _ a, c⟩
theorem dp_tup {H : Hp} {b l : Addr} {ds : List PyData} (h : DP (hide H b) (.ref l) (.tuple ds)) : ∃ xs, H l = some (.tup xs) ∧ DPs (hide H b) xs ds := by
  cases h with
  | tup a c => exact ⟨_, hide_sub H b _ _ a, c⟩
theorem dp_isL {H : Hp} {v : V} {ds : List PyData} (h : DP H v (.list ds)) : ∃ l, v = .ref l := by
  cases h with
  | lst a c => exact ⟨_, rfl⟩
theorem dp_isT {H : Hp} {v : V} {ds : List PyData} (h : DP H v (.tuple ds)) : ∃ l, v = .ref l := by
  cases h with
  | tup a c => exact ⟨_, rfl⟩
/-- xs + ys -/
theorem dp_cat {H : Hp} {b : Addr} {x y : V} {ds es : List PyData} {Q : VK} (hb : H b ≠ none) (hx : DP (hide H b) x (.list ds)) (hy : DP (hide H b) y (.list es)) (small : ds.length + es.length ≤ 300)
    (q : ∀ z H', Same H H' → DP (hide H' b) z (.list (ds ++ es)) → Q z H') : rCat x y H Q := by
  obtain ⟨l, rfl⟩ := dp_isL hx
  obtain ⟨m, rfl⟩ := dp_isL hy
  obtain ⟨xs, e1, d1⟩ := dp_lst hx
  obtain ⟨ys, e2, d2⟩ := dp_lst hy
  refine ⟨l, m, xs, ys, rfl, rfl, e1, e2, ?_, fun p np => q _ _ (same_new np) (dp_new hb np (d1.app d2))⟩
  rw [d1.len, d2.len]
  exact Nat.le_of_lt (small300 small)
/-- xs * k -/
theorem dp_rep {H : Hp} {b : Addr} {x : V} {d : PyData} {i : Int} {Q : VK} (k : Nat) (ei : i = (k : Int)) (hb : H b ≠ none) (hx : DP (hide H b) x (.list [d])) (small : k ≤ 300)
    (q : ∀ z H', Same H H' → DP (hide H' b) z (.list (List.replicate k d)) → Q z H') : rRep x (.int i) H Q := by
  subst ei
  obtain ⟨l, rfl⟩ := dp_isL hx
  obtain ⟨xs, e1, d1⟩ := dp_lst hx
  cases d1 with
  | cons a r =>
    cases r
    have e : ∀ (v : V) (n : Nat), (List.replicate n [v]).flatten = List.replicate n v := fun v n => by
      induction n with
      | zero => rfl
      | succ n ih => rw [List.replicate_succ, List.flatten_cons, ih]; rfl
    refine ⟨l, _, _, rfl, rfl, e1, by omega, by omega, ?_, fun p np => ?_⟩
    · rw [Int.toNat_natCast]
      have := Nat.le_of_lt (small300 small)
      show 1 * k ≤ _
      omega
    · refine q _ _ (same_new np) ?_
      rw [Int.toNat_natCast, e]
      exact dp_new hb np (DPs.rep a k)
/-- xs * 8, as it is read -/
theorem dp_repC {H : Hp} {b : Addr} {x : V} {d : PyData} {i : Int} {σ : L2.St} {Q : VK} (k : Nat) (ei : i = (k : Int)) (hb : H b ≠ none) (hx : DP (hide H b) x (.list [d])) (small : k ≤ 300)
    (q : ∀ z H', Same H H' → DP (hide H' b) z (.list (List.replicate k d)) → Q z H') : tC (.int i) σ H fun y H2 => rRep x y H2 Q := dp_rep k ei hb hx small q
/-- xs[i] -/
theorem dp_ix {K : PySem.W.Frag} {H : Hp} {b : Addr} {x : V} {ds : List PyData} {i : Int} {Q : VK} (hx : DP (hide H b) x (.list ds)) (h0 : 0 ≤ i) (h1 : i < ds.length)
    (q : ∀ v d, d ∈ ds → ds[i.toNat]? = some d → DP (hide H b) v d → Q v H) : rIxL K x (.int i) H Q := by
  obtain ⟨l, rfl⟩ := dp_isL hx
  obtain ⟨xs, e1, d1⟩ := dp_lst hx
  have lt : i.toNat < xs.length := by rw [d1.len]; omega
  have ex : xs[i.toNat]? = some xs[i.toNat] := List.getElem?_eq_getElem lt
  obtain ⟨d, ed, hd⟩ := d1.get _ _ ex
  refine ⟨l, xs, i, _, rfl, rfl, .inl (.inl e1), ?_, q _ d (List.mem_of_getElem? ed) ed hd⟩
  have := atI_nat ex
  rwa [Int.toNat_of_nonneg h0] at this
theorem dp_cut {H : Hp} : ∀ {xs : List V} {ds : List PyData} (n : Nat), DPs H xs ds → DPs H (xs.take n) (ds.take n) ∧ DPs H (xs.drop n) (ds.drop n)
  | _, _, 0, h => ⟨.nil, h⟩
  | _, _, n + 1, .nil => ⟨.nil, .nil⟩
  | _, _, n + 1, .cons a b => ⟨.cons a (dp_cut n b).1, (dp_cut n b).2⟩
/-! ### what may be shown, and is short -/
def NiceV (d : PyData) : Prop := Nice 20000 6 d
def niceB (d : PyData) : Bool := d.showable && decide (d.depth ≤ 6) && d.leavesShort 60 && decide (d.weight ≤ 20000)
theorem niceV_of {d : PyData} (h : niceB d = true) : NiceV d := by
  unfold niceB at h
  simp only [Bool.and_eq_true, decide_eq_true_eq] at h
  exact ⟨h.1.1.1, h.1.1.2, h.1.2, h.2⟩
theorem niceV_ints {ns : List Int} (h : ∀ n ∈ ns, n.natAbs < 10 ^ 50) (l : ns.length ≤ 60) : NiceV (.tuple (ns.map PyData.int)) :=
  (nice_tup (nice_ints h) (L := 60) (by rw [List.length_map]; exact l)).mono
/-- a tuple with one entry of another kind -/
theorem niceV_odd {as bs : List Int} {d : PyData} (ha : ∀ n ∈ as, n.natAbs < 10 ^ 50) (hb : ∀ n ∈ bs, n.natAbs < 10 ^ 50) (hd : Nice 170 2 d) (l : as.length + bs.length ≤ 60) : NiceV (.tuple (as.map PyData.int ++ [d] ++ bs.map PyData.int)) := by
  refine (nice_tup (W := 170) (k := 2) (L := 61) (fun e he => ?_) (by simp; omega)).mono
  rcases List.mem_append.mp he with z | z
  · rcases List.mem_append.mp z with z | z
    · exact (nice_ints ha e z).mono
    · rw [List.mem_singleton.mp z]
      exact hd
  · exact (nice_ints hb e z).mono
end PT

set_option maxHeartbeats 4000000
/-! expressions read as data: at slots that hold data, in any heap that grew from one, but for some lists that are written to -/
namespace PT
open PySem PySem.Spec PyProof.Rows L2 LamX NdefX
/-- the heap without some lists -/
def hides (bs : List Addr) (H : Hp) : Hp := fun c => if c ∈ bs then none else H c
theorem hides_one (b : Addr) (H : Hp) : hides [b] H = hide H b := by
  funext c
  unfold hides hide
  by_cases z : c = b
  · rw [if_pos z, if_pos (List.mem_singleton.mpr z)]
  · rw [if_neg z, if_neg fun y => z (List.mem_singleton.mp y)]
theorem hides_two (b D : Addr) (H : Hp) : hides [D, b] H = hide (hide H b) D := by
  funext c
  unfold hides hide
  by_cases z : c = D
  · rw [if_pos z, if_pos (z ▸ List.mem_cons_self)]
  · rw [if_neg z]
    by_cases y : c = b
    · rw [if_pos y, if_pos (y ▸ List.mem_cons_of_mem _ List.mem_cons_self)]
    · rw [if_neg y, if_neg fun w => by
        rcases List.mem_cons.mp w with w | w
        · exact z w
        · exact y (List.mem_singleton.mp w)]
theorem hides_same {H H' : Hp} (e : Same H H') (bs : List Addr) : Same (hides bs H) (hides bs H') := fun c o h => by
  unfold hides at h ⊢
  by_cases z : c ∈ bs
  · rw [if_pos z] at h; cases h
  · rw [if_neg z] at h ⊢; exact e c o h
theorem hides_sub (bs : List Addr) (H : Hp) : Same (hides bs H) H := fun c o h => by
  unfold hides at h
  by_cases z : c ∈ bs
  · rw [if_pos z] at h; cases h
  · rw [if_neg z] at h; exact h
theorem hides_at {bs : List Addr} {H : Hp} {c : Addr} {o : HO} (n : c ∉ bs) (h : H c = some o) : hides bs H c = some o := by
  unfold hides
  rw [if_neg n]
  exact h
theorem hides_upd {bs : List Addr} {H : Hp} {c : Addr} {o : HO} (m : c ∈ bs) : hides bs (upd H c o) = hides bs H := by
  funext a
  unfold hides
  by_cases h : a ∈ bs
  · rw [if_pos h, if_pos h]
  · rw [if_neg h, if_neg h, upd_ne (show a ≠ c from fun e => h (by rw [e]; exact m))]
/-- the lists are there -/
def Ther (bs : List Addr) (H : Hp) : Prop := ∀ b ∈ bs, H b ≠ none
theorem Ther.same {bs : List Addr} {H H' : Hp} (e : Same H H') (h : Ther bs H) : Ther bs H' := fun b m => PotNe.same e (h b m)
theorem Ther.ne {bs : List Addr} {H : Hp} {c : Addr} (h : Ther bs H) (n : H c = none) : c ∉ bs := fun m => h c m n
theorem ther_one {b : Addr} {H : Hp} (h : H b ≠ none) : Ther [b] H := fun c m => by
  rw [List.mem_singleton.mp m]
  exact h
def Rd (bs : List Addr) (G : Hp) (σ : L2.St) (te : TE) (d : PyData) : Prop := ∀ (H : Hp) (Q : VK), Same G (hides bs H) → Ther bs H → (∀ v H', Same H H' → DP (hides bs H') v d → Q v H') → te σ H Q
def Rds (bs : List Addr) (G : Hp) (σ : L2.St) (ta : TA) (ds : List PyData) : Prop := ∀ (H : Hp) (Q : List V → Hp → Prop), Same G (hides bs H) → Ther bs H → (∀ vs H', Same H H' → DPs (hides bs H') vs ds → Q vs H') → ta σ H Q
section
variable {K : PySem.W.Frag} {bs : List Addr} {G : Hp} {σ : L2.St} {te tf : TE} {ta : TA} {d : PyData} {ds es : List PyData}
theorem Rd.run {b : Addr} (h : Rd [b] G σ te d) {H : Hp} {Q : VK} (s : Same G (hide H b)) (hb : H b ≠ none) (q : ∀ v H', Same H H' → DP (hide H' b) v d → Q v H') : te σ H Q :=
  h H Q (by rw [hides_one]; exact s) (ther_one hb) fun v H' s1 hv => q v H' s1 (by rw [hides_one] at hv; exact hv)
theorem rd_var {i : Nat} {v : V} (e : σ[i]? = some (some v)) (h : DP G v d) : Rd bs G σ (tVar i) d := fun H Q s _ q => ⟨v, e, q v H (Same.refl H) (h.same s)⟩
theorem rd_non : Rd bs G σ (tC .non) .none := fun H _ _ _ q => q _ H (Same.refl H) .non
theorem rd_bl {c : Bool} : Rd bs G σ (tC (.bl c)) (.bool c) := fun H _ _ _ q => q _ H (Same.refl H) (.bl c)
theorem rd_int {i : Int} : Rd bs G σ (tC (.int i)) (.int i) := fun H _ _ _ q => q _ H (Same.refl H) (.int i)
theorem rd_str {x : Str} : Rd bs G σ (tC (.str x)) (.str x) := fun H _ _ _ q => q _ H (Same.refl H) (.str x)
theorem rd_neg {i : Int} : Rd bs G σ (tUn (rU fun i => .int (-i)) (tC (.int i))) (.int (-i)) := fun H _ _ _ q => ⟨i, rfl, q _ H (Same.refl H) (.int _)⟩
theorem dps_newL {H : Hp} {p : Addr} {xs : List V} (hb : Ther bs H) (np : H p = none) (h : DPs (hides bs H) xs ds) : DP (hides bs (upd H p (.lst xs))) (.ref p) (.list ds) :=
  .lst (hides_at (hb.ne np) upd_same) (h.same (hides_same (same_new np) bs))
theorem dps_newT {H : Hp} {p : Addr} {xs : List V} (hb : Ther bs H) (np : H p = none) (h : DPs (hides bs H) xs ds) : DP (hides bs (upd H p (.tup xs))) (.ref p) (.tuple ds) :=
  .tup (hides_at (hb.ne np) upd_same) (h.same (hides_same (same_new np) bs))
theorem rd_dic : Rd bs G σ tDNewK (.dict []) := fun _ _ _ hb q p np => q _ _ (same_new np) (.dic (hides_at (hb.ne np) upd_same))
theorem rds_nil : Rds bs G σ tNil [] := fun H _ _ _ q => q [] H (Same.refl H) .nil
theorem rds_cons (h : Rd bs G σ te d) (t : Rds bs G σ ta ds) : Rds bs G σ (tCons te ta) (d :: ds) := fun H Q s hb q => h H _ s hb fun v H1 s1 hv =>
  t H1 _ (s.trans (hides_same s1 bs)) (hb.same s1) fun vs H2 s2 hvs => q _ H2 (s1.trans s2) (.cons (hv.same (hides_same s2 bs)) hvs)
theorem rd_lst (h : Rds bs G σ ta ds) (small : ds.length ≤ 300) : Rd bs G σ (tLst ta) (.list ds) := fun H Q s hb q => h H _ s hb fun vs H1 s1 hv =>
  ⟨by rw [hv.len]; exact Nat.le_of_lt (small300 small), fun p np => q _ _ (s1.trans (same_new np)) (dps_newL (hb.same s1) np hv)⟩
theorem rd_tup (h : Rds bs G σ ta ds) (small : ds.length ≤ 300) : Rd bs G σ (tTup ta) (.tuple ds) := fun H Q s hb q => h H _ s hb fun vs H1 s1 hv =>
  ⟨by rw [hv.len]; exact Nat.le_of_lt (small300 small), fun p np => q _ _ (s1.trans (same_new np)) (dps_newT (hb.same s1) np hv)⟩
theorem dps_ref {H : Hp} {x : V} (h : DP (hides bs H) x (.list ds)) : ∃ l xs, x = .ref l ∧ H l = some (.lst xs) ∧ DPs (hides bs H) xs ds := by
  cases h with
  | lst a c => exact ⟨_, _, rfl, hides_sub bs H _ _ a, c⟩
theorem dps_refT {H : Hp} {x : V} (h : DP (hides bs H) x (.tuple ds)) : ∃ l xs, x = .ref l ∧ H l = some (.tup xs) ∧ DPs (hides bs H) xs ds := by
  cases h with
  | tup a c => exact ⟨_, _, rfl, hides_sub bs H _ _ a, c⟩
theorem dp_intE {H : Hp} {x : V} {i : Int} (h : DP H x (.int i)) : x = .int i := by
  cases h
  rfl
/-- two readings, one after the other -/
theorem rd_two {r : R2} {e : PyData} (h : Rd bs G σ te d) (k : Rd bs G σ tf e) {u : PyData} (q : ∀ (x y : V) (H : Hp) (Q : VK), Ther bs H → DP (hides bs H) x d → DP (hides bs H) y e → (∀ v H', Same H H' → DP (hides bs H') v u → Q v H') → r x y H Q) : Rd bs G σ (tOp r te tf) u := fun H Q s hb qq =>
  h H _ s hb fun x H1 s1 hx => k H1 _ (s.trans (hides_same s1 bs)) (hb.same s1) fun y H2 s2 hy => q x y H2 Q (hb.same (s1.trans s2)) (hx.same (hides_same s2 bs)) hy fun v H3 s3 hv => qq v H3 ((s1.trans s2).trans s3) hv
theorem rd_cat (h : Rd bs G σ te (.list ds)) (k : Rd bs G σ tf (.list es)) (small : ds.length + es.length ≤ 300) : Rd bs G σ (tOp rCat te tf) (.list (ds ++ es)) := rd_two h k fun x y H Q hb hx hy q => by
  obtain ⟨l, xs, rfl, e1, d1⟩ := dps_ref hx
  obtain ⟨m, ys, rfl, e2, d2⟩ := dps_ref hy
  refine ⟨l, m, xs, ys, rfl, rfl, e1, e2, ?_, fun p np => q _ _ (same_new np) (dps_newL hb np (d1.app d2))⟩
  rw [d1.len, d2.len]
  exact Nat.le_of_lt (small300 small)
theorem rd_add {i j : Int} (h : Rd bs G σ te (.int i)) (k : Rd bs G σ tf (.int j)) : Rd bs G σ (tOp (rI0 fun i j => .int (i + j)) te tf) (.int (i + j)) := rd_two h k fun x y H Q _ hx hy q => ⟨i, j, dp_intE hx, dp_intE hy, q _ H (Same.refl H) (.int _)⟩
theorem rd_sub {i j : Int} (h : Rd bs G σ te (.int i)) (k : Rd bs G σ tf (.int j)) : Rd bs G σ (tOp (rI0 fun i j => .int (i - j)) te tf) (.int (i - j)) := rd_two h k fun x y H Q _ hx hy q => ⟨i, j, dp_intE hx, dp_intE hy, q _ H (Same.refl H) (.int _)⟩
/-- [x] * k -/
theorem rd_rep {k : Int} (h : Rd bs G σ te (.list [d])) (g : Rd bs G σ tf (.int k)) (n : Nat) (e : k = (n : Int)) (small : n ≤ 300) : Rd bs G σ (tOp rRep te tf) (.list (List.replicate n d)) := rd_two h g fun x y H Q hb hx hy q => by
  obtain ⟨l, xs, rfl, e1, d1⟩ := dps_ref hx
  rw [dp_intE hy, e]
  cases d1 with
  | cons a r =>
    cases r
    refine ⟨l, _, _, rfl, rfl, e1, by omega, by omega, ?_, fun p np => ?_⟩
    · rw [Int.toNat_natCast]
      have := Nat.le_of_lt (small300 small)
      show 1 * n ≤ _
      omega
    · refine q _ _ (same_new np) ?_
      rw [Int.toNat_natCast, rep_one]
      exact dps_newL hb np (DPs.rep a n)
/-- xs[i] -/
theorem rd_ix {i : Int} {k : Nat} (h : Rd bs G σ te (.list ds)) (g : Rd bs G σ tf (.int i)) (e : i = (k : Int)) (ed : ds[k]? = some d) : Rd bs G σ (tOp (rIxL K) te tf) d := rd_two h g fun x y H Q hb hx hy q => by
  obtain ⟨l, xs, rfl, e1, d1⟩ := dps_ref hx
  rw [dp_intE hy, e]
  have lt : k < xs.length := by rw [d1.len]; exact (List.getElem?_eq_some_iff.mp ed).1
  have ex : xs[k]? = some xs[k] := List.getElem?_eq_getElem lt
  obtain ⟨d', ed', hd⟩ := d1.get _ _ ex
  cases ed.symm.trans ed'
  exact ⟨l, xs, (k : Int), _, rfl, rfl, .inl (.inl e1), atI_nat ex, q _ H (Same.refl H) hd⟩
theorem cutV_to (xs : List V) (i : Nat) : cutV xs none (some (i : Int)) = xs.take i := by
  unfold cutV
  rw [HT.sIx_none, HT.sIx_nat, List.drop_zero, Nat.sub_zero]
  by_cases h : i ≤ xs.length
  · rw [Nat.min_eq_left h]
  · rw [Nat.min_eq_right (by omega), List.take_of_length_le (Nat.le_refl _), List.take_of_length_le (by omega)]
theorem cutV_from (xs : List V) (i : Nat) : cutV xs (some (i : Int)) none = xs.drop i := by
  unfold cutV
  rw [HT.sIx_none, HT.sIx_nat]
  by_cases h : i ≤ xs.length
  · rw [Nat.min_eq_left h, List.take_of_length_le (by rw [List.length_drop]; omega)]
  · rw [Nat.min_eq_right (by omega), List.drop_length, List.drop_of_length_le (by omega), List.take_nil]
theorem cutV_last (xs : List V) : cutV xs none (some (-1)) = xs.take (xs.length - 1) := by
  unfold cutV
  rw [HT.sIx_none, List.drop_zero, Nat.sub_zero]
  congr 1
  unfold HT.sIx
  simp
  omega
theorem DPs.takes {H : Hp} {xs : List V} (n : Nat) (h : DPs H xs ds) : DPs H (xs.take n) (ds.take n) := (dp_cut n h).1
theorem DPs.drops {H : Hp} {xs : List V} (n : Nat) (h : DPs H xs ds) : DPs H (xs.drop n) (ds.drop n) := (dp_cut n h).2
/-- xs[:i] -/
theorem rd_to {i : Int} {k : Nat} (h : Rd bs G σ te (.list ds)) (g : Rd bs G σ tf (.int i)) (e : i = (k : Int)) : Rd bs G σ (tSl (rSlL K) te tNoPart (tPart tf)) (.list (ds.take k)) := fun H Q s hb q =>
  h H _ s hb fun x H1 s1 hx => g H1 _ (s.trans (hides_same s1 bs)) (hb.same s1) fun y H2 s2 hy => by
    obtain ⟨l, xs, rfl, e1, d1⟩ := dps_ref (hx.same (hides_same s2 bs))
    refine ⟨i, dp_intE hy, l, xs, rfl, .inl (.inl e1), fun p np => ?_⟩
    rw [e, cutV_to]
    exact q _ _ ((s1.trans s2).trans (same_new np)) (dps_newL (hb.same (s1.trans s2)) np (d1.takes k))
/-- xs[i:] -/
theorem rd_from {i : Int} {k : Nat} (h : Rd bs G σ te (.list ds)) (g : Rd bs G σ tf (.int i)) (e : i = (k : Int)) : Rd bs G σ (tSl (rSlL K) te (tPart tf) tNoPart) (.list (ds.drop k)) := fun H Q s hb q =>
  h H _ s hb fun x H1 s1 hx => g H1 _ (s.trans (hides_same s1 bs)) (hb.same s1) fun y H2 s2 hy => by
    obtain ⟨l, xs, rfl, e1, d1⟩ := dps_ref (hx.same (hides_same s2 bs))
    refine ⟨i, dp_intE hy, l, xs, rfl, .inl (.inl e1), fun p np => ?_⟩
    rw [e, cutV_from]
    exact q _ _ ((s1.trans s2).trans (same_new np)) (dps_newL (hb.same (s1.trans s2)) np (d1.drops k))
/-- xs[:-1] -/
theorem rd_last (h : Rd bs G σ te (.list ds)) (g : Rd bs G σ tf (.int (-1))) : Rd bs G σ (tSl (rSlL K) te tNoPart (tPart tf)) (.list (ds.take (ds.length - 1))) := fun H Q s hb q =>
  h H _ s hb fun x H1 s1 hx => g H1 _ (s.trans (hides_same s1 bs)) (hb.same s1) fun y H2 s2 hy => by
    obtain ⟨l, xs, rfl, e1, d1⟩ := dps_ref (hx.same (hides_same s2 bs))
    refine ⟨-1, dp_intE hy, l, xs, rfl, .inl (.inl e1), fun p np => ?_⟩
    rw [cutV_last, d1.len]
    exact q _ _ ((s1.trans s2).trans (same_new np)) (dps_newL (hb.same (s1.trans s2)) np (d1.takes _))
abbrev tLen (K : PySem.W.Frag) (te : TE) : TE := tCB (fun xs H Q => ∃ p ys, xs = [.ref p] ∧ (SqL K H p ys ∨ SqT K H p ys) ∧ Q (.int (ys.length : Int)) H) (tCons te tNil)
theorem rd_len (h : Rd bs G σ te (.list ds)) : Rd bs G σ (tLen K te) (.int (ds.length : Nat)) := fun H Q s hb q =>
  h H _ s hb fun x H1 s1 hx => by
    obtain ⟨l, xs, rfl, e1, d1⟩ := dps_ref hx
    refine ⟨l, xs, rfl, .inl (.inl (.inl e1)), ?_⟩
    rw [d1.len]
    exact q _ _ s1 (.int _)
theorem rd_lenT (h : Rd bs G σ te (.tuple ds)) : Rd bs G σ (tLen K te) (.int (ds.length : Nat)) := fun H Q s hb q =>
  h H _ s hb fun x H1 s1 hx => by
    obtain ⟨l, xs, rfl, e1, d1⟩ := dps_refT hx
    refine ⟨l, xs, rfl, .inr (.inl (.inl e1)), ?_⟩
    rw [d1.len]
    exact q _ _ s1 (.int _)
abbrev tTupOf (K : PySem.W.Frag) (te : TE) : TE := tCB (fun xs H Q => ∃ p ys, xs = [.ref p] ∧ ((SqL K H p ys ∧ ∀ l, H l = none → Q (.ref l) (upd H l (.tup ys))) ∨ (SqT K H p ys ∧ Q (.ref p) H))) (tCons te tNil)
/-- tuple(xs) -/
theorem rd_tupOf (h : Rd bs G σ te (.list ds)) : Rd bs G σ (tTupOf K te) (.tuple ds) := fun H Q s hb q =>
  h H _ s hb fun x H1 s1 hx => by
    obtain ⟨l, xs, rfl, e1, d1⟩ := dps_ref hx
    exact ⟨l, xs, rfl, .inl ⟨.inl (.inl e1), fun p np => q _ _ (s1.trans (same_new np)) (dps_newT (hb.same s1) np d1)⟩⟩
/-- [e for x in xs]: f tells what e is -/
theorem rd_lc {i : Nat} {tl : TE} {vs : List Nat} {f : PyData → PyData} (hl : Rd bs G σ tl (.list ds)) (small : ds.length ≤ 300) (hw : ∀ v : V, wipe ((wipe σ vs).set i (some v)) vs = wipe σ vs)
    (el : ∀ d ∈ ds, ∀ (D : Addr) (v : V) (G' : Hp), Same G G' → DP G' v d → Rd (D :: bs) G' ((wipe σ vs).set i (some v)) te (f d)) : Rd bs G σ (tLc (iList K tl) (gName i) tYes te vs) (.list (ds.map f)) := fun H Q s hb q =>
  hl H _ s hb fun x H1 s1 hx => by
    obtain ⟨l, xs, rfl, e1, d1⟩ := dps_ref hx
    refine ⟨l, rfl, ⟨_, .inl (.inl e1)⟩, fun D nD => ?_⟩
    have tb := hb.same s1
    have nb : D ∉ bs := tb.ne nD
    refine lc_list (xs := xs) (fun j G' => Same H1 G' ∧ ∃ ys, G' D = some (.lst ys) ∧ DPs (hides (D :: bs) G') ys ((ds.take j).map f)) ⟨same_new nD, [], upd_same, .nil⟩ (fun j G' _ p1 => .inl (.inl (p1.1 _ _ e1))) (fun j y G' ex p1 => ?_) (fun G' p1 => ?_)
    · obtain ⟨s2, ys, eD, dy⟩ := p1
      obtain ⟨d, ed, hd⟩ := d1.get j y ex
      have hi := (List.getElem?_eq_some_iff.mp ed).1
      have sub : Same (hides bs H1) (hides (D :: bs) G') := fun c o h => by
        have n1 := hides_sub bs H1 _ _ h
        have c1 : c ∉ bs := fun m => by
          unfold hides at h
          rw [if_pos m] at h
          cases h
        have c2 : c ≠ D := ne_of_none n1 nD
        exact hides_at (fun m => (List.mem_cons.mp m).elim c2 c1) (s2 _ _ n1)
      have G1 : Same G (hides (D :: bs) G') := (s.trans (hides_same s1 bs)).trans sub
      refine ⟨hw y, tyes_if (el d (List.mem_of_getElem? ed) D y (hides (D :: bs) G') G1 (hd.same sub) G' _ (Same.refl _) (fun c m => ?_) fun v G2 s3 hv => ⟨ys, s3 _ _ eD, ?_, fun c o hc => ?_, ys ++ [v], upd_same, ?_⟩)⟩
      · rcases List.mem_cons.mp m with rfl | m
        · intro z
          rw [eD] at z
          cases z
        · exact PotNe.same s2 (tb c m)
      · rw [dy.len, List.length_map, List.length_take]
        exact small300 (by omega)
      · rw [upd_ne (ne_of_none hc nD)]
        exact s3 _ _ (s2 _ _ hc)
      · rw [hides_upd List.mem_cons_self, take_next ed, List.map_append]
        exact (dy.same (hides_same s3 _)).app (.cons hv .nil)
    · obtain ⟨s2, ys, eD, dy⟩ := p1
      rw [d1.len, List.take_length] at dy
      have dy2 : DPs (hides bs G') ys (ds.map f) := dy.same fun c o h => by
        have n1 := hides_sub _ _ _ _ h
        refine hides_at (fun m => ?_) n1
        unfold hides at h
        rw [if_pos (List.mem_cons_of_mem _ m)] at h
        cases h
      exact q _ _ (s1.trans s2) (.lst (hides_at nb eD) dy2)
end
section
variable {X : Cx}
/-- max(xs), xs of data alike: one of them -/
def rMaxL (K : PySem.W.Frag) : List V → Hp → VK → Prop := fun vs H Q => ∃ (a : Addr) (xs : List V) (d : PyData) (ds : List PyData), vs = [.ref a] ∧ SqL K H a xs ∧ DpAll K H xs (d :: ds) ∧ PySem.W.AlikeAll (d :: ds) ∧ PyData.depthAll (d :: ds) ≤ 8 ∧ ∀ (i : Nat) (v : V), xs[i]? = some v → Q v H
theorem call_maxL (hc : X.calm = true) (hu : X.A.units + 64 < cLine) : CallR X (.builtin "max") (rMaxL X.K) := by
  intro pins st σ H vs us Q I r h
  obtain ⟨a, xs, d, ds, rfl, hL, hd, ha, dp, q⟩ := h
  obtain ⟨its, rv, p, hz⟩ := I.list hL
  rw [Vals.ref1 r]
  obtain ⟨as, hr⟩ := Dp.readsAll I (d :: ds) _ its hd rv
  refine PySem.W.max_list_data (I.ok.hd hc) p.isList hr ha (by omega) fun i v h' tk bs hv _ hk => ?_
  have hv' : its[i]? = some v := by simpa using hv
  have lt : i < xs.length := by
    rw [rv.length]
    exact (List.getElem?_eq_some_iff.mp hv').1
  obtain ⟨u, hu2, ru⟩ := rv.get (List.getElem?_eq_getElem lt)
  cases hu2.symm.trans hv'
  exact ⟨_, H, I.kept hk, ru, q i _ (List.getElem?_eq_getElem lt)⟩
end
end PT
namespace PT
open PySem PySem.Spec PyProof.Rows L2 LamX NdefX
/-- an expression that is read as data at once -/
noncomputable def tMark (te : TE) : TE := Classical.choose (⟨te, rfl⟩ : ∃ t : TE, t = te)
theorem tMark_eq (te : TE) : tMark te = te := Classical.choose_spec (⟨te, rfl⟩ : ∃ t : TE, t = te)
theorem pe_mark {X : Cx} {e : Expr} {te : TE} (h : PE X e te) : PE X e (tMark te) := by
  rw [tMark_eq]
  exact h
theorem Rd.mark {b : Addr} {G : Hp} {σ : L2.St} {te : TE} {d : PyData} (h : Rd [b] G σ te d) {H : Hp} {Q : VK} (s : Same G (hide H b)) (hb : H b ≠ none) (q : ∀ v H', Same H H' → DP (hide H' b) v d → Q v H') : tMark te σ H Q := by
  rw [tMark_eq]
  exact h.run s hb q
theorem index_ints {ns : List Int} {k : Int} (h : k ∈ ns) : ∃ j : Nat, ns[j]? = some k ∧ ∀ (m : Nat) (z : V), m < j → (ns.map V.int)[m]? = some z → eqV z (.int k) = false := by
  have lt := List.idxOf_lt_length_of_mem h
  refine ⟨ns.idxOf k, by rw [List.getElem?_eq_getElem lt, List.getElem_idxOf], fun m z hm e => ?_⟩
  rw [List.getElem?_map] at e
  cases q : ns[m]? with
  | none => rw [q] at e; cases e
  | some x =>
    rw [q] at e
    cases e
    obtain ⟨lm, ex⟩ := List.getElem?_eq_some_iff.mp q
    have ne : x ≠ k := fun y => by
      have := List.not_of_lt_findIdx (p := (· == k)) (xs := ns) (i := m) hm
      rw [ex, y] at this
      simp at this
    show decide (x = k) = false
    exact decide_eq_false ne
end PT
namespace PT
open PySem PySem.Spec PyProof.Rows L2 LamX NdefX
theorem Rd.markL {bs : List Addr} {G : Hp} {σ : L2.St} {te : TE} {d : PyData} (h : Rd bs G σ te d) {H : Hp} {Q : VK} (s : Same G (hides bs H)) (hb : Ther bs H) (q : ∀ v H', Same H H' → DP (hides bs H') v d → Q v H') : tMark te σ H Q := by
  rw [tMark_eq]
  exact h H Q s hb q
theorem ther_two {b D : Addr} {H : Hp} (h : H b ≠ none) (k : H D ≠ none) : Ther [D, b] H := fun c m => by
  rcases List.mem_cons.mp m with e | e
  · rw [e]; exact k
  · rw [List.mem_singleton.mp e]; exact h
theorem DPs.vals {H : Hp} : ∀ {ns : List Int} {xs : List V}, DPs H xs (ns.map PyData.int) → xs = ns.map V.int
  | [], _, h => by cases h; rfl
  | n :: ns, _, h => by
    cases h with
    | cons a b =>
      cases a
      rw [DPs.vals b]
      rfl
end PT
namespace PT
open PySem PySem.Spec PyProof.Rows L2 LamX NdefX
theorem hide_put (G : Hp) (D : Addr) (o : HO) : hide (upd G D o) D = hide G D := by
  funext a
  unfold hide
  by_cases h : a = D
  · rw [if_pos h, if_pos h]
  · rw [if_neg h, if_neg h, upd_ne h]
end PT

set_option maxHeartbeats 4000000
/-! zip of a list and a tuple -/
namespace PT
open PySem PySem.Spec PyProof.Rows L2
/-- the list at a and the tuple at b as they stand, their items in new pairs -/
def ItM (K : PySem.W.Frag) (a b : Addr) : It :=
  ⟨fun i H => ∃ (xs ys : List V) (x y : V), SqL K H a xs ∧ SqT K H b ys ∧ xs[i]? = some x ∧ ys[i]? = some y,
   fun i H v H' => ∃ T x y, v = .ref T ∧ H T = none ∧ H' = upd H T (.tup [x, y]) ∧ (∀ xs, SqL K H a xs → xs[i]? = some x) ∧ ∀ ys, SqT K H b ys → ys[i]? = some y,
   fun i H => ∃ xs ys : List V, SqL K H a xs ∧ SqT K H b ys ∧ xs.length = ys.length ∧ i = xs.length⟩
theorem sep_of {z TI TO i1 i2 a b : Addr} (D : ZipApart z TI TO i1 i2 a b) (ia : a ≠ TO) (ib : b ≠ TO) : ZipSep2 z TI TO i1 i2 [i1, a] [i2, b] where
  TIz := D.TIz
  TOz := D.TOz
  TITO := D.TITO
  TIi1 := D.TIi1
  mem1 := List.mem_cons_self
  zf1 := fun h => by
    rcases List.mem_cons.mp h with e | e
    · exact D.i1z e.symm
    · exact D.l1z (List.mem_singleton.mp e).symm
  Tf1 := fun h => by
    rcases List.mem_cons.mp h with e | e
    · exact D.TOi1 e
    · exact ia (List.mem_singleton.mp e).symm
  TIi2 := D.TIi2
  mem2 := List.mem_cons_self
  zf2 := fun h => by
    rcases List.mem_cons.mp h with e | e
    · exact D.i2z e.symm
    · exact D.l2z (List.mem_singleton.mp e).symm
  Tf2 := fun h => by
    rcases List.mem_cons.mp h with e | e
    · exact D.TOi2 e
    · exact ib (List.mem_singleton.mp e).symm
  sep1_2 := fun h => by
    rcases List.mem_cons.mp h with e | e
    · exact D.i12 e
    · exact D.l2i1 (List.mem_singleton.mp e).symm
  sep2_1 := fun h => by
    rcases List.mem_cons.mp h with e | e
    · exact D.i12 e.symm
    · exact D.l1i2 (List.mem_singleton.mp e).symm
/-- the five cells of such a zip -/
def ZipM (a b z TI TO i1 i2 : Addr) (i : Nat) (h : Heap) : Prop := IsZip h z TI TO .none ∧ IsTupOf2 h TI (.ref i1) (.ref i2) ∧ (∃ x y, IsTupOf2 h TO x y) ∧ h.IsListIter i1 a i ∧ h.IsTupleIter i2 b i
theorem turn_M {P : Program} {w : World} {K : PySem.W.Frag} {elts : List Expr} {kk : Nat} {tpos : Pos} {a b z TI TO i1 i2 : Addr} (D : ZipApart z TI TO i1 i2 a b) : Turn P w K (.Tuple elts kk tpos) (ItM K a b) [z, TI, TO, i1, i2] z (ZipM a b z TI TO i1 i2) where
  mem := List.mem_cons_self
  obj := fun i h st c hc => by
    obtain ⟨q1, q2, ⟨x, y, q3⟩, ⟨u1, v1, _, d1⟩, ⟨u2, v2, _, d2⟩⟩ := st
    have cs : c = z ∨ c = TI ∨ c = TO ∨ c = i1 ∨ c = i2 := by simpa using hc
    rcases cs with rfl | rfl | rfl | rfl | rfl
    · exact ⟨_, q1, fun _ e => (by cases e)⟩
    · exact ⟨_, q2, fun _ e => (by cases e)⟩
    · exact ⟨_, q3, fun _ e => (by cases e)⟩
    · exact ⟨u1, v1, fun _ e => by rw [d1] at e; cases e⟩
    · exact ⟨u2, v2, fun _ e => by rw [d2] at e; cases e⟩
  keep := fun i h h' st k => by
    obtain ⟨q1, q2, ⟨x, y, q3⟩, q4, q5⟩ := st
    refine ⟨k z (by simp) _ q1, k TI (by simp) _ q2, ⟨x, y, k TO (by simp) _ q3⟩, q4.at fun o e => k i1 (by simp) o e, q5.at fun o e => k i2 (by simp) o e⟩
  item := by
    intro X eP ew eK hc i pins st σ H E I hf tn hg
    subst eP ew eK
    obtain ⟨q1, q2, ⟨x0, y0, q3⟩, q4, q5⟩ := tn
    obtain ⟨xs, ys, x, y, lx, ly, ex, ey⟩ := hg
    obtain ⟨its, rv, pl, _⟩ := I.list lx
    obtain ⟨jts, rw2, pt, _⟩ := I.tuple ly
    obtain ⟨u, eu, ru⟩ := rv.get ex
    obtain ⟨v, ev, rv2⟩ := rw2.get ey
    have la : a ≠ i1 := D.l1i1
    have lb : b ≠ i2 := D.l2i2
    have D1 := Draws.list (prog := X.prog) (w := X.w) (A := X.A.in1) (I.ok.hd hc) i1 a la its.toArray
    have D2 := Draws.tuple (prog := X.prog) (w := X.w) (A := X.A.in1) (I.ok.hd hc) i2 b lb jts.toArray
    have lz : z < st.heap.objs.size := Heap.lt_size q1
    have k1 : i < its.toArray.size := by
      obtain ⟨l, _⟩ := List.getElem?_eq_some_iff.mp eu
      simpa using l
    have k2 : i < jts.toArray.size := by
      obtain ⟨l, _⟩ := List.getElem?_eq_some_iff.mp ev
      simpa using l
    refine wpAny_pyNext_zipD2_item (sep_of D D.l1TO D.l2TO) D1 D2 q1 q2 q3 ⟨q4, pl.isList⟩ ⟨q5, pt⟩ k1 k2 fun p1 p2 g tk e1 e2 z1 t1 s1 s2 t2 size kp => ?_
    have a1 : p1 = u := by
      have e3 : its[i]? = some p1 := by simpa using e1
      exact Option.some.inj (e3.symm.trans eu)
    have a2 : p2 = v := by
      have e3 : jts[i]? = some p2 := by simpa using e2
      exact Option.some.inj (e3.symm.trans ev)
    subst a1 a2
    refine ⟨_, rfl, wpAny_letOwnedTupleGo_zip (s := { st with heap := g, toks := tk }) z1 fun f zf sb => ?_⟩
    have ft : f.get? st.heap.objs.size = some { cls := .type "tuple", data := .seq #[p1, p2] } := (sb.2 _ (Nat.ne_of_gt lz)).trans t2
    have fresh : ObjOk X.prog X.w (upd H st.heap.objs.size (.tup [x, y])) f st.heap.objs.size (.tup [x, y]) := ⟨by show 2 ≤ sizeLine; decide, [p1, p2], .cons ru (.cons rv2 .nil), ⟨_, ft, rfl, _, rfl⟩⟩
    have J : Inv X pins σ (upd H st.heap.objs.size (.tup [x, y])) { st with heap := f, toks := tk } :=
      I.turnedNew (ch := [z, TI, TO, i1, i2]) (fun c o hb q => (sb.2 c fun e => hb (by simp [e])).trans (kp c o (fun e => hb (by simp [e])) (fun e => hb (by simp [e])) (fun e => hb (by simp [e])) (fun e => hb (by simp [e])) q)) hf (Nat.le_refl _) fresh
    refine ⟨.ref st.heap.objs.size, _, J, rfl, ⟨_, x, y, rfl, I.hok.fresh (Nat.le_refl _), rfl, fun l hl => by rw [I.list_inj hl lx]; exact ex, fun l hl => by rw [I.tuple_inj hl ly]; exact ey⟩, ⟨zf, (sb.2 _ D.TIz).trans (kp _ _ D.TIz D.TITO D.TIi1 D.TIi2 q2), ⟨p1, p2, (sb.2 _ D.TOz).trans t1⟩, s1.1.at fun o e => (sb.2 _ D.i1z).trans e, s2.1.at fun o e => (sb.2 _ D.i2z).trans e⟩, fun c hcm => ?_⟩
    have lt : c < st.heap.objs.size := by
      have cs : c = z ∨ c = TI ∨ c = TO ∨ c = i1 ∨ c = i2 := by simpa using hcm
      rcases cs with rfl | rfl | rfl | rfl | rfl
      · exact lz
      · exact Heap.lt_size q2
      · exact Heap.lt_size q3
      · exact let ⟨_, e, _⟩ := q4; Heap.lt_size e
      · exact let ⟨_, e, _⟩ := q5; Heap.lt_size e
    rw [upd_ne (Nat.ne_of_lt lt)]
    exact (hf c hcm).1
  done := by
    intro X eP ew eK hc i pins st σ H E I hf tn hg
    subst eP ew eK
    obtain ⟨q1, q2, ⟨x0, y0, q3⟩, q4, q5⟩ := tn
    obtain ⟨xs, ys, lx, ly, same, fin⟩ := hg
    obtain ⟨its, rv, pl, _⟩ := I.list lx
    obtain ⟨jts, rw2, pt, _⟩ := I.tuple ly
    have n1 := rv.length
    have n2 := rw2.length
    have D1 := Draws.list (prog := X.prog) (w := X.w) (A := X.A.in1) (I.ok.hd hc) i1 a D.l1i1 its.toArray
    have D2 := Draws.tuple (prog := X.prog) (w := X.w) (A := X.A.in1) (I.ok.hd hc) i2 b D.l2i2 jts.toArray
    have e1 : i = its.toArray.size := by simp; omega
    have e2 : i = jts.toArray.size := by simp; omega
    refine wpAny_pyNext_zipD2_end (sep_of D D.l1TO D.l2TO) D1 D2 q1 q2 q3 ⟨q4, pl.isList⟩ ⟨q5, pt⟩ (by omega) (by omega) (.inl e1) fun g tk kp => ⟨rfl, I.turnedL (ch := [z, TI, TO, i1, i2]) (fun c o hb q => ?_) hf⟩
    exact kp c o (fun e => hb (by simp [e])) (fun e => hb (by simp [e])) (fun e => hb (by simp [e])) (fun e => hb (by simp [e])) q
  self := fun A i s Q E tn h => wpAny_pyIter_zip tn.1 h
end PT
namespace PT
open PySem PySem.Spec PyProof.Rows L2
/-- the heap behind zip(list, tuple): two iterators, two pairs, the zip -/
abbrev zm1 (h : Heap) (a : Addr) : Heap := h.push { cls := .type "list_iterator", data := .fields #[.ref a, .int 0 0] }
abbrev zm2 (h : Heap) (a b : Addr) : Heap := (zm1 h a).push { cls := .type "tuple_iterator", data := .fields #[.ref b, .int 0 0] }
abbrev zm3 (h : Heap) (a b : Addr) : Heap := (zm2 h a b).push { cls := .type "tuple", data := .seq #[.ref h.objs.size, .ref (zm1 h a).objs.size] }
abbrev zm4 (h : Heap) (a b : Addr) : Heap := (zm3 h a b).push { cls := .type "tuple", data := .seq #[.none, .none] }
abbrev zm5 (h : Heap) (a b : Addr) : Heap := (zm4 h a b).push { cls := .type "zip", data := .fields #[.none, .bool false, .bool false, .ref (zm2 h a b).objs.size, .ref (zm3 h a b).objs.size] }
theorem meets_zm (a b : Addr) (xs ys : Array Value) : Meets (Builtin.«zip.__new__» ⟨[.type "zip", .ref a, .ref b], []⟩) (fun _ R s => s.heap.IsList a xs ∧ s.heap.IsTuple b ys ∧ R (.ok (.ret (.ref (zm4 s.heap a b).objs.size))) { s with heap := zm5 s.heap a b }) :=
  .of_wp fun prog w A R s hyp => by
    obtain ⟨hp, gn, dr, tk, os⟩ := s
    obtain ⟨la, tb, fin⟩ := hyp
    have below := sub_zip
    have e1 : Heap.IsList (Shared.heap ⟨hp, gn, dr, tk, os⟩) a xs := la
    have e2 : Heap.IsTuple (Shared.heap ⟨hp.push { cls := .type "list_iterator", data := .fields #[.ref a, .int 0 0] }, gn, dr, tk, os⟩) b ys := Heap.IsTuple.push tb _
    wp_walk using wpAny_pyIter_list e1, wpAny_pyIter_tuple e2
    exact ⟨_, rfl, fin⟩
section
variable {prog : Program} {w : World} {A : Around} {E : Value → Shared → Prop} {s : Shared}
theorem call_zm {a b : Addr} {xs ys : Array Value} {Q : Value → Shared → Prop} (la : s.heap.IsList a xs) (tb : s.heap.IsTuple b ys)
    (fin : ∀ g, ZipM a b (s.heap.objs.size + 4) (s.heap.objs.size + 2) (s.heap.objs.size + 3) s.heap.objs.size (s.heap.objs.size + 1) 0 g → (∀ c o, s.heap.get? c = some o → g.get? c = some o) → Q (.ref (s.heap.objs.size + 4)) { s with heap := g }) :
    wpAny (model prog w) A (call (.type "zip") [.ref a, .ref b]) Q E s := by
  refine callType_new F.called_zip (by decide) (F.typeCall_zip_2 _ _) (F.newCall_zip_2 _ _) (fun obj => F.args_object_init_3 obj _ _) F.entry_zip_new (meets_zm a b xs ys) ⟨la, tb, (?_ : _ ∧ _)⟩
  have n1 : (zm1 s.heap a).objs.size = s.heap.objs.size + 1 := Heap.size_push ..
  have n2 : (zm2 s.heap a b).objs.size = s.heap.objs.size + 2 := (Heap.size_push ..).trans (congrArg (· + 1) n1)
  have n3 : (zm3 s.heap a b).objs.size = s.heap.objs.size + 3 := (Heap.size_push ..).trans (congrArg (· + 1) n2)
  have n4 : (zm4 s.heap a b).objs.size = s.heap.objs.size + 4 := (Heap.size_push ..).trans (congrArg (· + 1) n3)
  have p5 : (zm5 s.heap a b).get? (zm4 s.heap a b).objs.size = some _ := Heap.get?_push_size _ rfl
  have p4 : (zm5 s.heap a b).get? (zm3 s.heap a b).objs.size = some _ := Heap.get?_push_of_some _ (Heap.get?_push_size _ rfl)
  have p3 : (zm5 s.heap a b).get? (zm2 s.heap a b).objs.size = some _ := Heap.get?_push_of_some _ (Heap.get?_push_of_some _ (Heap.get?_push_size _ rfl))
  have p2 : (zm5 s.heap a b).get? (zm1 s.heap a).objs.size = some _ := Heap.get?_push_of_some _ (Heap.get?_push_of_some _ (Heap.get?_push_of_some _ (Heap.get?_push_size _ rfl)))
  have p1 : (zm5 s.heap a b).get? s.heap.objs.size = some _ := Heap.get?_push_of_some _ (Heap.get?_push_of_some _ (Heap.get?_push_of_some _ (Heap.get?_push_of_some _ (Heap.get?_push_size _ rfl))))
  rw [n2, n3, n4] at p5
  rw [n3] at p4
  rw [n1, n2] at p3
  rw [n1] at p2
  rw [n4]
  refine ⟨⟨_, p5, rfl⟩, fin _ ⟨p5, p3, ⟨_, _, p4⟩, ⟨_, p1, rfl, rfl⟩, ⟨_, p2, rfl, rfl⟩⟩ fun c o e => ?_⟩
  exact Heap.get?_push_of_some _ (Heap.get?_push_of_some _ (Heap.get?_push_of_some _ (Heap.get?_push_of_some _ (Heap.get?_push_of_some _ e))))
end
def iZipM (K : PySem.W.Frag) (ta : TA) : TI := fun σ H R => ta σ H fun vs H1 => ∃ a b xs ys, vs = [.ref a, .ref b] ∧ SqL K H1 a xs ∧ SqT K H1 b ys ∧ R (ItM K a b) H1
theorem pi_zipM {X : Cx} {e e2 : Expr} {ta : TA} {p pos tpos : Pos} {elts : List Expr} {kk : Nat} (hg : Gl X "zip") (hm : X.mg "zip" = none) (ha : PA X [e, e2] ta)
    (hs : starEach [e, e2] X.env = (false, eval e X.env) :: starEach [e2] X.env := by rfl) (hpl : (backTo pos (starEach [e2] X.env)).any (·.1) = false := by rfl) :
    PI X (.Tuple elts kk tpos) (.Call (.Name "zip" p) [e, e2] [] pos) (iZipM X.K ta) := by
  constructor
  intro pins st σ H R I h
  refine Call_ (ld_blt I hg hm PyProof.Rows.boot_zip (PyProof.Rows.callWith_type1 (thn (ha.run pos pins st σ H _ I h) fun us s1 ⟨vs, H1, I1, r1, q1⟩ => ?_) hs hpl))
  obtain ⟨a, b, xs, ys, rfl, lx, ly, q⟩ := q1
  obtain ⟨u1, u2, rfl, ra, rb⟩ := vals2 r1
  cases (show u1 = Value.ref a from ra)
  cases (show u2 = Value.ref b from rb)
  obtain ⟨its, rv, pl, _⟩ := I1.list lx
  obtain ⟨jts, rw2, pt, _⟩ := I1.tuple ly
  have lta : a < s1.heap.objs.size := pl.lt
  have ltb : b < s1.heap.objs.size := let ⟨_, e, _⟩ := id pt; Heap.lt_size e
  refine call_zm pl.isList (show s1.heap.IsTuple b jts.toArray from pt) fun g zm kp => wpAny_pyIter_zip zm.1 ?_
  have I2 : Inv X pins σ H1 { s1 with heap := g } := I1.kept (t' := s1.toks) kp
  refine ⟨s1.heap.objs.size + 4, [s1.heap.objs.size + 4, s1.heap.objs.size + 2, s1.heap.objs.size + 3, s1.heap.objs.size, s1.heap.objs.size + 1], _, _, H1, rfl, I2, turn_M (PySem.W.ktu_apart s1.heap.objs.size a b lta ltb), zm, fun c hc => ?_, q⟩
  have cs : c = s1.heap.objs.size + 4 ∨ c = s1.heap.objs.size + 2 ∨ c = s1.heap.objs.size + 3 ∨ c = s1.heap.objs.size ∨ c = s1.heap.objs.size + 1 := by simpa using hc
  have le : s1.heap.objs.size ≤ c := by
    rcases cs with rfl | rfl | rfl | rfl | rfl
    · exact Nat.le_add_right _ _
    · exact Nat.le_add_right _ _
    · exact Nat.le_add_right _ _
    · exact Nat.le_refl _
    · exact Nat.le_add_right _ _
  exact I1.fpOk le (I1.hok.fresh le)
theorem walk_M {K : PySem.W.Frag} {a b : Addr} {xs ys : List V} {n : Nat} (hx : xs.length = n) (hy : ys.length = n) : Walk (ItM K a b) n (fun H => SqL K H a xs ∧ SqT K H b ys) (YPair (fun i => xs[i]?) (fun i => ys[i]?)) := by
  refine ⟨fun i H lt g => ?_, fun H g => ⟨xs, ys, g.1, g.2, by omega, hx.symm⟩, fun i H v H' lt g y => ?_⟩
  · exact ⟨xs, ys, xs[i]'(by omega), ys[i]'(by omega), g.1, g.2, List.getElem?_eq_getElem _, List.getElem?_eq_getElem _⟩
  · obtain ⟨T, x, y, rfl, nT, rfl, hx, hy⟩ := y
    exact ⟨T, x, y, rfl, nT, rfl, hx xs g.1, hy ys g.2⟩
end PT


set_option maxHeartbeats 4000000
/-! show_plant -/
namespace PT
open PySem PySem.Spec PyProof.Rows L2
section
variable {P : Program} {w : World} {K : PySem.W.Frag} {mg : Str → Option Value} {base : Heap}
/-- numbers of forty digits at most -/
structure StockBig (pl ss : List Int) : Prop where
  len : ss.length = pl.length + 1
  nd : ss.Nodup
  sm : ∀ n ∈ ss, n.natAbs < 10 ^ 50
def spShow : Sp := fun vs H Q _ => ∃ (p q : Addr) (pl ss : List Int), vs = [.ref p, .ref q] ∧ PlantAt H p pl ∧ StkAt H q ss ∧ StockBig pl ss ∧ ∀ H', Same H H' → Q (.str (showT pl ss)) H'
theorem Tx.showPlant (T : Tx K mg) {k : Nat} : FnOk P w K mg base CX0 (k + 4) T.f_show_plant T.d_show_plant ["plant", "stock"] spShow := by
  refine T.F_show_plant.ok scShowPlant (fun vs H Q E h => ?_) (fun cdv A outer s H vs Q E hr h => ?_)
  · obtain ⟨p, q, pl, ss, rfl, _⟩ := h
    rfl
  · obtain ⟨p, q, pl, ss, rfl, hP, hq, so, qq⟩ := h
    have nd := scShowPlant.nd
    have lp := hP.ok.len
    refine ⟨_, (pss_cons (ps_expr (pe_call (T.checkPlant (k := 0)) (hr.mono (by omega)) (by rfl) T.g_check_plant T.F_check_plant.kp T.b_check_plant .nil pass0 (pa_cons (pv 0) pa_nil)))
(pss_cons (ps_expr (pe_call (T.checkStockF (k := 0)) (hr.mono (by omega)) (by rfl) T.g_check_stock T.F_check_stock.kp T.b_check_stock .nil pass0 (pa_cons (pv 0) (pa_cons (pv 1) pa_nil))))
(pss_cons (ps_set (i := 2) nd rfl (.inl rfl) (pe_op op_cat (pe_lst (pa_cons pe_str pa_nil)) (pe_lc (own := [("station", 3)]) (g := gName 3) (tt := tYes) (te := (tCB (fun xs H Q => ∃ i : Int, xs = [.int i] ∧ i.natAbs.log2 < 1920 ∧ Q (.str (toString i)) H) (tCons (tVar 3) tNil))) rfl nd (pi_tup (pv 0))
(blkOk_by (N := ["plant", "stock", "customers", "station", "box"]) (sc := defScope sShowPlant) (by decide +kernel)) (fun _ _ _ _ _ => (pg_name (i := 3) nd rfl (.inl rfl))) (fun _ _ _ _ _ => pts_nil) (fun _ _ _ _ _ => (pe_callTy call_str_int (by rfl) T.n_str (by decide +kernel) (pa_cons (pv 3) pa_nil))))))
(pss_one (ps_ret (pe_bm PySem.F.plainAttrs_str PySem.F.slot_str_join PySem.F.type_str_join mt_join pe_str (pa_cons (pe_lc (own := [("station", 3), ("box", 4)]) (g := gTup K 2 (gCons (gName 3) (gCons (gName 4) gNil))) (tt := tYes) (te := (tJoin [(tFmt (tVar 3)), (tC (.str " ")), (tFmt (tVar 4)), (tC (.str "\n"))])) rfl nd (pi_zipM (by rfl) T.n_zip (pa_cons (pv 2) (pa_cons (pv 1) pa_nil)))
(blkOk_by (N := ["plant", "stock", "customers", "station", "box"]) (sc := defScope sShowPlant) (by decide +kernel)) (fun _ _ _ _ _ => (pg_tup (by rfl) (pgs_cons (pg_name (i := 3) nd rfl (.inl rfl)) (pgs_cons (pg_name (i := 4) nd rfl (.inl rfl)) pgs_nil)))) (fun _ _ _ _ _ => pts_nil) (fun _ _ _ _ _ => (pe_joinedD (.cons (pe_fmt (pv 3)) (.cons pe_str (.cons (pe_fmt (pv 4)) (.cons pe_str .nil))))))) pa_nil))))))), ?_⟩
    refine ⟨.ref p, rfl, .ref p, rfl, hP.fits, fun H1 s1 => ?_⟩
    refine ⟨.ref p, rfl, .ref q, rfl, p, q, pl.map V.int, ss, rfl, seqT s1 hP.seq, hq.same s1, by rw [List.length_map]; exact so.len, by rw [so.len]; omega, so.nd, fun H2 s2 => ?_⟩
    have s12 := s1.trans s2
    have P2 := hP.same s12
    have q2 := hq.same s12
    have smP : ∀ x ∈ pl, x.natAbs < 10 ^ 50 := fun x hx => by
      obtain ⟨i, hi⟩ := List.mem_iff_getElem?.mp hx
      have lt := (List.getElem?_eq_some_iff.mp hi).1
      obtain ⟨h0, h1⟩ := hP.ok.ok i x hi
      omega
    -- what stands first in the lines
    refine ⟨(by show 1 ≤ sizeLine; decide), fun l1 n1 => ?_⟩
    have sA := same_new (o := .lst [V.str (Str.ofString "shop")]) n1
    refine ⟨.ref p, rfl, p, rfl, ⟨_, (P2.same sA).seq⟩, fun D nD => ?_⟩
    refine lc_tup (xs := pl.map V.int) (fun i G => Same (upd H2 l1 (.lst [V.str (Str.ofString "shop")])) G ∧ G D = some (.lst (((pl.take i).map numT).map V.str))) ⟨same_new nD, upd_same⟩ (fun i G _ p1 => ((P2.same sA).same p1.1).seq) (fun i x G ex p1 => ?_) (fun G p1 => ?_)
    · obtain ⟨sG, eD⟩ := p1
      rw [List.getElem?_map] at ex
      cases er : pl[i]? with
      | none => rw [er] at ex; cases ex
      | some r =>
        rw [er] at ex
        cases ex
        have hi := (List.getElem?_eq_some_iff.mp er).1
        refine ⟨rfl, tyes_if ⟨.int r, rfl, r, rfl, numT_log (smP r (List.mem_of_getElem? er)), _, eD, ?_, fun c o h => ?_, ?_⟩⟩
        · rw [List.length_map, List.length_map, List.length_take]
          exact small300 (by omega)
        · rw [upd_ne (ne_of_none h nD)]
          exact sG _ _ h
        · rw [upd_same, take_next er, List.map_append, List.map_append]
          rfl
    obtain ⟨sG, eD⟩ := p1
    rw [List.length_map, List.take_length] at eD
    have el1 := sG _ _ (upd_same (H := H2) (a := l1) (o := .lst [V.str (Str.ofString "shop")]))
    refine ⟨l1, D, _, _, rfl, rfl, el1, eD, ?_, fun c nc => ?_⟩
    · rw [List.length_map, List.length_map]
      show 1 + pl.length ≤ _
      exact Nat.le_of_lt (small300 (by omega))
    have ec : (upd G c (.lst ([V.str (Str.ofString "shop")] ++ (pl.map numT).map V.str))) c = some (.lst ((bosses pl).map V.str)) := upd_same
    have s3 := (s12.trans sA).trans (sG.trans (same_new (o := .lst ([V.str (Str.ofString "shop")] ++ (pl.map numT).map V.str)) nc))
    have q3 := hq.same s3
    generalize upd G c (.lst ([V.str (Str.ofString "shop")] ++ (pl.map numT).map V.str)) = H3 at ec s3 q3 ⊢
    clear nc el1 eD sG nD sA n1 P2 q2 s12 s2 s1
    -- the lines
    have lb : (bosses pl).length = ss.length := by
      rw [so.len]
      show (pl.map numT).length + 1 = _
      rw [List.length_map]
    refine ⟨rfl, .ref c, rfl, .ref q, rfl, c, q, (bosses pl).map V.str, ss.map V.int, rfl, .inl (.inl ec), q3.seq, fun E nE => ?_⟩
    refine lc_it (walk_M (K := K) (a := c) (b := q) (n := pl.length + 1) (xs := (bosses pl).map V.str) (ys := ss.map V.int) (by rw [List.length_map, lb, so.len]) (by rw [List.length_map, so.len])) (fun i G => Same H3 G ∧ G E = some (.lst (((linesT (bosses pl) ss).take i).map V.str))) ⟨same_new nE, upd_same⟩
      (fun i G _ p1 => ⟨.inl (.inl (p1.1 _ _ ec)), (q3.same p1.1).seq⟩) (fun i x G3 G4 hi p1 y => ?_) (fun G p1 => ?_)
    · obtain ⟨sG, eE⟩ := p1
      obtain ⟨T2, x1, x2, rfl, n2, rfl, g1, g2⟩ := y
      have l1 : i < (bosses pl).length := by rw [lb, so.len]; exact hi
      have l2 : i < ss.length := by rw [so.len]; exact hi
      have e1 : (bosses pl)[i]? = some (bosses pl)[i] := List.getElem?_eq_getElem l1
      have e2 : ss[i]? = some ss[i] := List.getElem?_eq_getElem l2
      have m1 : (bosses pl)[i] ∈ bosses pl := List.getElem_mem l1
      have m2 : ss[i] ∈ ss := List.getElem_mem l2
      have ex := linesT_get e1 e2
      obtain rfl : V.str (bosses pl)[i] = x1 := by
        have e : ((bosses pl).map V.str)[i]? = some x1 := g1
        rw [List.getElem?_map, e1] at e
        cases e
        rfl
      obtain rfl : V.int ss[i] = x2 := by
        have e : (ss.map V.int)[i]? = some x2 := g2
        rw [List.getElem?_map, e2] at e
        cases e
        rfl
      revert m1 m2 ex
      generalize (bosses pl)[i] = bo
      generalize ss[i] = bx
      intro m1 m2 ex
      have sT := same_new (o := .tup [V.str bo, .int bx]) n2
      have lbo := bosses_len smP bo m1
      have sbx := so.sm bx m2
      have lnx := numT_len sbx
      have big : ∀ {n : Nat}, n ≤ 300 → n ≤ sizeLine := fun h => Nat.le_of_lt (small300 h)
      have e0 : (Str.empty ++ bo).length = bo.length := by rw [Str.length_append]; exact Nat.zero_add _
      have e1 : (Str.empty ++ bo ++ Str.ofString " ").length = bo.length + 1 := by rw [Str.length_append, e0]; rfl
      have e2 : (Str.empty ++ bo ++ Str.ofString " " ++ numT bx).length = bo.length + 1 + (numT bx).length := by rw [Str.length_append, e1]
      have e3 : (Str.empty ++ bo ++ Str.ofString " " ++ numT bx ++ Str.ofString "\n").length = bo.length + 1 + (numT bx).length + 1 := by rw [Str.length_append, e2]; rfl
      refine ⟨T2, _, rfl, .inl (.inl upd_same), rfl, _, _, rfl, _, _, rfl, rfl, rfl, tyes_if ⟨.str bo, rfl, .inl ⟨bo, rfl, big (by omega), bo, rfl, big (by omega), Str.ofString " ", rfl, big (by omega), .int bx, rfl, .inr ⟨bx, rfl, numT_log sbx, numT bx, rfl, big (by omega), Str.ofString "\n", rfl, big (by omega), _, sT _ _ eE, ?_, fun c' o h => ?_, ?_⟩⟩⟩⟩
      · rw [List.length_map, List.length_take]
        exact small300 (by omega)
      · rw [upd_ne (ne_of_none h nE)]
        exact sT _ _ (sG _ _ h)
      · rw [upd_same, take_next ex, List.map_append]
        have z : Str.empty ++ bo ++ Str.ofString " " ++ numT bx ++ Str.ofString "\n" = lineT bo bx := by
          unfold lineT
          rw [show Str.empty ++ bo = bo from Str.empty_append bo]
        rw [z]
        rfl
    · obtain ⟨sG, eE⟩ := p1
      have ll := linesT_len lb
      rw [lb, so.len] at ll
      rw [List.take_of_length_le (by omega)] at eE
      have big2 := sum_le (B := 130) (ys := linesT (bosses pl) ss) (linesT_all fun a ha i hi => lineT_len (bosses_len smP a ha) (so.sm i hi))
      refine ⟨Str.ofString "", E, linesT (bosses pl) ss, rfl, rfl, .inl (.inl (.inl eE)), ?_, ?_⟩
      · have z : (Str.ofString "").length = 0 := rfl
        rw [z, Nat.mul_zero]
        have y : (linesT (bosses pl) ss).length * 130 ≤ 40 * 130 := Nat.mul_le_mul_right _ (by omega)
        omega
      · exact qq G (s3.trans sG)
end
end PT


set_option maxHeartbeats 2000000
/-! what show_plant says of two values, by a word (law 54) -/
namespace PT
open PySem PySem.Spec PyProof.Rows L2 L2H HotX LamX NdefX
section
variable {P : Program} {w : World} {K : PySem.W.Frag} {mg : Str → Option Value} {base : Heap}
def A_sp (T : Tx K mg) : Sp := SpO spShow (SpO (spB0 T.x_NoPlant 1) (spB1 NotStock T.x_NoStock 0))
theorem ok_A_sp (T : Tx K mg) : FnOk P w K mg base (L2N.CX P w) 9 T.f_show_plant T.d_show_plant ["plant", "stock"] (A_sp T) :=
  PT.FnOk.or (PT.FnOk.quiet (T.showPlant (k := 5))) (PT.FnOk.or T.show_plantE0 T.show_plantE1)
def spTried : Sp := fun vs H Q _ => ∃ v b : V, vs = [v, b] ∧
  ((FitsIs H v false ∧ ∀ H', ExtN H H' → Q (.str "plant") H') ∨
   (∃ (p : Addr) (pl : List Int), v = .ref p ∧ PlantAt H p pl ∧ NotStock H pl b ∧ ∀ H', ExtN H H' → Q (.str "stock") H') ∨
   (∃ (p q : Addr) (pl ss : List Int), v = .ref p ∧ b = .ref q ∧ PlantAt H p pl ∧ StkAt H q ss ∧ StockBig pl ss ∧ ∀ H', ExtN H H' → Q (.str "none") H'))
theorem ok_tried (T : Tx K mg) : FnOk P w K mg base CX0 10 T.f__law_tried T.d__law_tried ["plant", "boxes"] spTried := by
  refine T.F__law_tried.ok scLawTried (fun vs H Q E h => ?_) (fun cdv A out s H vs Q E hr h => ?_)
  · obtain ⟨v, b, rfl, _⟩ := h
    rfl
  · obtain ⟨v, b, rfl, h⟩ := h
    have nd := scLawTried.nd
    refine ⟨_, pss_cons (L2N.ps_try_as (i := 2) rfl rfl nd rfl rfl ⟨rfl, by decide, .inl T.X_PlantError.g⟩ takesN0 (fun W pn xe tk _ =>
        pss_one (ps_expr (pe_callS (ok_A_sp T) hr (by rfl) T.g_show_plant T.F_show_plant.kp T.b_show_plant (fun σ => L2N.passAt tk σ) (pa_cons (pv 0) (pa_cons (pv 1) pa_nil)))))
        (fun a oe cls d pn hz hf => pss_one (ps_ret (pe_callE (ok_kind T) ⟨(hr.mono (by omega : 1 ≤ 9)).dp, (hr.mono (by omega : 1 ≤ 9)).un⟩ ⟨rfl, let ⟨vs, ev⟩ := hf; ⟨vs, ev, hz.2.2 vs ev⟩⟩ List.mem_cons_self hz (by rfl) T.g__law_kind T.F__law_kind.kp T.b__law_kind (pa_cons (pv 2) pa_nil)))))
      (pss_one (ps_ret pe_str)), ?_⟩
    refine ⟨v, rfl, b, rfl, ?_⟩
    rcases h with ⟨hv, qq⟩ | ⟨p, pl, rfl, hP, hb, qq⟩ | ⟨p, q, pl, ss, rfl, rfl, hP, hq, hs, qq⟩
    · refine .inr (.inl ⟨v, [b], rfl, rfl, hv, fun H2 s2 => ?_⟩)
      exact ⟨true, by exact T.E_all.caught (j := 0) (by show 0 < 14; decide), fun _ a na => ⟨.ref a, rfl, 0, rfl, rfl, rfl, by decide, fun H3 s3 => qq H3 (ExtN.trans (same_extN s2) (same_extN s3))⟩, fun z => nomatch z⟩
    · refine .inr (.inr ⟨p, pl, b, [], rfl, rfl, hP, hb, fun H2 s2 => ?_⟩)
      exact ⟨true, by exact T.E_all.caught (j := 2) (by show 2 < 14; decide), fun _ a na => ⟨.ref a, rfl, 2, rfl, rfl, rfl, by decide, fun H3 s3 => qq H3 (ExtN.trans (same_extN s2) (same_extN s3))⟩, fun z => nomatch z⟩
    · exact .inl ⟨p, q, pl, ss, rfl, hP, hq, hs, fun H2 s2 => qq H2 (same_extN s2)⟩
end
end PT

set_option maxHeartbeats 4000000
/-! repr of much data: bound by the number of its items and the signs of its texts, not by its numbers' size -/
namespace PT
open PySem PySem.Spec PyProof.Rows L2
/-- what may be shown, by its bulk -/
structure NiceB (W k : Nat) (d : PyData) : Prop where
  sh : d.showable = true
  dp : d.depth ≤ k
  lv : d.leavesShort 60 = true
  bk : d.bulk ≤ W
theorem NiceB.shown {W k : Nat} {d : PyData} (n : NiceB W k d) (hW : W ≤ 270000) : d.shown.length ≤ sizeLine := by
  have h1 := PyData.shown_le_bulk 60 (by decide) d n.lv
  have h2 := n.bk
  have h3 := sizeLine_eq
  omega
theorem NiceB.mono {W W' k k' : Nat} {d : PyData} (n : NiceB W k d) (hW : W ≤ W' := by decide) (hk : k ≤ k' := by decide) : NiceB W' k' d := ⟨n.sh, Nat.le_trans n.dp hk, n.lv, Nat.le_trans n.bk hW⟩
theorem niceB_int {i : Int} (h : i.natAbs < 10 ^ 50) : NiceB 0 0 (.int i) := let z := nice_int h; ⟨z.sh, z.dp, z.lv, Nat.le_refl _⟩
theorem niceB_all {W k : Nat} : ∀ {ds : List PyData}, (∀ d ∈ ds, NiceB W k d) → PyData.showableAll ds = true ∧ PyData.depthAll ds ≤ k ∧ PyData.leavesShortAll 60 ds = true ∧ PyData.bulkAll ds ≤ ds.length * (W + 1)
  | [], _ => ⟨rfl, Nat.zero_le _, rfl, Nat.zero_le _⟩
  | d :: ds, h => by
    obtain ⟨a1, a2, a3, a4⟩ := h d List.mem_cons_self
    obtain ⟨b1, b2, b3, b4⟩ := niceB_all (ds := ds) fun x hx => h x (List.mem_cons_of_mem _ hx)
    refine ⟨?_, ?_, ?_, ?_⟩
    · simp only [PyData.showableAll, a1, b1, Bool.and_self]
    · simp only [PyData.depthAll]
      omega
    · simp only [PyData.leavesShortAll, a3, b3, Bool.and_self]
    · simp only [PyData.bulkAll, List.length_cons, Nat.succ_mul]
      omega
theorem niceB_tup {W k L : Nat} {ds : List PyData} (h : ∀ d ∈ ds, NiceB W k d) (hl : ds.length ≤ L) : NiceB (L * (W + 1)) (k + 1) (.tuple ds) := by
  obtain ⟨a, b, c, e⟩ := niceB_all h
  exact ⟨a, by simp only [PyData.depth]; omega, c, Nat.le_trans e (Nat.mul_le_mul_right _ hl)⟩
theorem niceB_lst {W k L : Nat} {ds : List PyData} (h : ∀ d ∈ ds, NiceB W k d) (hl : ds.length ≤ L) : NiceB (L * (W + 1)) (k + 1) (.list ds) := by
  obtain ⟨a, b, c, e⟩ := niceB_all h
  exact ⟨a, by simp only [PyData.depth]; omega, c, Nat.le_trans e (Nat.mul_le_mul_right _ hl)⟩
section
variable {X : Cx}
/-- repr(v) of much data -/
def rReprDB : List V → Hp → VK → Prop := fun xs H Q => ∃ v d W, xs = [v] ∧ DD H v d ∧ NiceB W 50 d ∧ W ≤ 270000 ∧ Q (.str d.shown) H
theorem call_reprDB (k : ∃ mm, X.base.Ns sysModules mm) (hg : X.A.guards = some []) (hu : X.A.units + 64 < cLine) : CallR X (.builtin "repr") rReprDB := by
  intro pins st σ H xs us Q I r h
  obtain ⟨v, d, W, rfl, hr, hn, hW, q⟩ := h
  obtain ⟨u, rfl, ru⟩ := vals1 r
  obtain ⟨as, hR, hs⟩ := DD.reads k I d v u hr ru
  have small := hn.shown hW
  have deep := hn.dp
  have fin : ∀ t, EP X pins σ Q (.str d.shown t) { st with toks := st.toks + 1 } := fun t => ⟨.str d.shown, H, I.tok _, ⟨t, rfl⟩, q⟩
  have go : ∀ {a : Addr}, Reads st.heap (.ref a) d as → wpAny (model X.prog X.w) X.A (call (.builtin "repr") [.ref a]) (EP X pins σ Q) X.xe st := fun hR =>
    repr_of_reads' hR hn.sh (fun _ => hs) hg (by omega) (fun _ _ z => z) (fun h' t tk hk => ⟨.str _, H, I.kept hk, ⟨t, rfl⟩, q⟩) small
  cases hR with
  | none => exact PySem.P.repr_of_none (fin _)
  | bool b => exact PySem.P.repr_of_bool (fin _)
  | int i t => exact PySem.P.repr_of_int (by have := hn.sh; simpa only [PyData.showable, decide_eq_true_eq] using this) (fin _)
  | str x t => exact PySem.P.repr_of_str (fin _) small
  | list a b c e => exact go (.list a b c e)
  | tuple a b c e => exact go (.tuple a b c e)
  | dict a b c e f => exact go (.dict a b c e f)
end
end PT

set_option maxHeartbeats 4000000
/-! plain data: its bulk -/
namespace PT
open PySem PySem.Spec PyProof.Rows L2 LamX NdefX
mutual
theorem bulk_le : ∀ d : PyData, d.bulk ≤ d.weight
  | .none | .bool _ | .int _ => by simp only [PyData.bulk]; omega
  | .str x => by simp only [PyData.bulk, PyData.weight]; omega
  | .list xs | .tuple xs => by
    have := bulk_leAll xs
    simp only [PyData.bulk, PyData.weight]
    omega
  | .dict kvs => by
    have := bulk_leKv kvs
    simp only [PyData.bulk, PyData.weight]
    omega
theorem bulk_leAll : ∀ ds : List PyData, PyData.bulkAll ds ≤ PyData.weightAll ds
  | [] => Nat.zero_le _
  | d :: ds => by
    have h1 := bulk_le d
    have h2 := bulk_leAll ds
    simp only [PyData.bulkAll, PyData.weightAll]
    omega
theorem bulk_leKv : ∀ ds : List (PyData × PyData), PyData.bulkKv ds ≤ PyData.weightKv ds
  | [] => Nat.zero_le _
  | (a, b) :: ds => by
    have h1 := bulk_le a
    have h2 := bulk_le b
    have h3 := bulk_leKv ds
    simp only [PyData.bulkKv, PyData.weightKv]
    omega
end
theorem bulkAll_ints (ns : List Int) : PyData.bulkAll (ns.map PyData.int) = ns.length := by
  induction ns with
  | nil => rfl
  | cons n ns ih =>
    rw [List.map_cons, List.length_cons, PyData.bulkAll, ih]
    simp only [PyData.bulk]
    omega
theorem bulkAll_app (as bs : List PyData) : PyData.bulkAll (as ++ bs) = PyData.bulkAll as + PyData.bulkAll bs := by
  induction as with
  | nil => simp [PyData.bulkAll]
  | cons a as ih =>
    rw [List.cons_append, PyData.bulkAll, ih, PyData.bulkAll]
    omega
/-- a value that may be shown, of small bulk -/
def NiceW (d : PyData) : Prop := NiceV d ∧ d.bulk ≤ 250
def niceWB (d : PyData) : Bool := niceB d && decide (d.bulk ≤ 250)
theorem niceW_of {d : PyData} (h : niceWB d = true) : NiceW d := by
  unfold niceWB at h
  rw [Bool.and_eq_true, decide_eq_true_eq] at h
  exact ⟨niceV_of h.1, h.2⟩
theorem niceW_ints {ns : List Int} (h : ∀ n ∈ ns, n.natAbs < 10 ^ 50) (l : ns.length ≤ 60) : NiceW (.tuple (ns.map PyData.int)) :=
  ⟨niceV_ints h l, by simp only [PyData.bulk, bulkAll_ints]; omega⟩
theorem niceW_odd {as bs : List Int} {d : PyData} (ha : ∀ n ∈ as, n.natAbs < 10 ^ 50) (hb : ∀ n ∈ bs, n.natAbs < 10 ^ 50) (hd : Nice 170 2 d) (l : as.length + bs.length ≤ 60) : NiceW (.tuple (as.map PyData.int ++ [d] ++ bs.map PyData.int)) := by
  refine ⟨niceV_odd ha hb hd l, ?_⟩
  have h1 := bulk_le d
  have h2 := hd.wt
  simp only [PyData.bulk, bulkAll_app, bulkAll_ints, PyData.bulkAll]
  omega
end PT

set_option maxHeartbeats 4000000
/-! plain data of small bulk -/
namespace PT
open PySem PySem.Spec PyProof.Rows L2 LamX NdefX
/-- a part of a value: may be shown, of bulk 4 at most -/
def NiceQ (d : PyData) : Prop := Nice 170 2 d ∧ d.bulk ≤ 4
def niceQB (d : PyData) : Bool := (d.showable && decide (d.depth ≤ 2) && d.leavesShort 60 && decide (d.weight ≤ 170)) && decide (d.bulk ≤ 4)
theorem niceQ_of {d : PyData} (h : niceQB d = true) : NiceQ d := by
  unfold niceQB at h
  simp only [Bool.and_eq_true, decide_eq_true_eq] at h
  exact ⟨⟨h.1.1.1.1, h.1.1.1.2, h.1.1.2, h.1.2⟩, h.2⟩
theorem niceQ_int {i : Int} (h : i.natAbs < 10 ^ 50) : NiceQ (.int i) := ⟨(nice_int h).mono, Nat.zero_le _⟩
def NiceU (d : PyData) : Prop := NiceV d ∧ d.bulk ≤ 60
def niceUB (d : PyData) : Bool := niceB d && decide (d.bulk ≤ 60)
theorem niceU_of {d : PyData} (h : niceUB d = true) : NiceU d := by
  unfold niceUB at h
  rw [Bool.and_eq_true, decide_eq_true_eq] at h
  exact ⟨niceV_of h.1, h.2⟩
theorem niceU_ints {ns : List Int} (h : ∀ n ∈ ns, n.natAbs < 10 ^ 50) (l : ns.length ≤ 50) : NiceU (.tuple (ns.map PyData.int)) :=
  ⟨niceV_ints h (by omega), by simp only [PyData.bulk, bulkAll_ints]; omega⟩
theorem niceU_odd {as bs : List Int} {d : PyData} (ha : ∀ n ∈ as, n.natAbs < 10 ^ 50) (hb : ∀ n ∈ bs, n.natAbs < 10 ^ 50) (hd : NiceQ d) (l : as.length + bs.length ≤ 50) : NiceU (.tuple (as.map PyData.int ++ [d] ++ bs.map PyData.int)) := by
  refine ⟨niceV_odd ha hb hd.1 (by omega), ?_⟩
  have h2 := hd.2
  simp only [PyData.bulk, bulkAll_app, bulkAll_ints, PyData.bulkAll]
  omega
end PT

set_option maxHeartbeats 4000000
/-! a tuple times one: it is the tuple itself -/
namespace PT
open PySem PySem.Spec PyProof.Rows L2
theorem times_one (b : Addr) (vs : Array Value) (m : Nat) (e : Option Addr) (xs : Array (Option Value)) (z : Tok) :
    Meets (Builtin.«tuple.__mul__» ⟨[.ref b, .int 1 z], []⟩) (fun _ R s =>
      s.heap.get? b = some { cls := .type "tuple", dict := e, data := .seq vs m, slots := xs } ∧ R (.ok (.ret (Value.ref b))) s) :=
  .of_wp fun pr wo A R st hh => by
    obtain ⟨h1, g1, d1, k1, o1⟩ := st
    obtain ⟨here, goal⟩ := hh
    have ix := AutoSeq1.idx_int
    wp_walk using wpAny_loadPart' here
    exact ⟨_, rfl, goal⟩
/-- t * k, k from 1 on -/
def rRepU : R2 := fun x y H Q => ∃ a k vs, x = .ref a ∧ y = .int k ∧ H a = some (.tup vs) ∧ vs ≠ [] ∧ 1 ≤ k ∧ k ≤ 1000 ∧ vs.length ≤ 1000 ∧
  ∀ p H', Same H H' → H' p = some (.tup (List.replicate k.toNat vs).flatten) → Q (.ref p) H'
theorem op_repU {X : Cx} : OpR X (binaryOp .Mult) rRepU := by
  intro pins st σ H x y v u Q I rx ry hh
  obtain ⟨a, k, vs, rfl, rfl, ha, ne, k1, k2, lv, q⟩ := hh
  have hT : SqT X.K H a vs := .inl (.inl ha)
  rcases Int.lt_or_le 1 k with c | c
  · exact op_repT pins st σ H _ _ v u Q I rx ry ⟨a, k, vs, rfl, rfl, hT, ne, by omega, k2, lv, fun p np => q p _ (same_new np) upd_same⟩
  obtain rfl : k = 1 := by omega
  have q := q a H (Same.refl H) (by rw [ha]; show some (HO.tup vs) = some (HO.tup (vs ++ [])); rw [List.append_nil])
  cases rx
  obtain ⟨z, rfl⟩ := ry
  obtain ⟨us, pr, ⟨⟨ty, e, dat, xs⟩, here, hc, m, hd⟩, hs⟩ := I.tuple hT
  simp only at hc hd
  subst hc hd
  have isT : st.TypeIs (.ref a) "tuple" := ⟨_, here, rfl⟩
  have back := times_one a us.toArray m e xs z
  refine wpAny_binaryOp_repeat_ref (U := "int") (T := "tuple") (by decide) isT
    (fun st' => typeIs_int st' 1 z) noFill_tuple_mul F.fills_int_mul
    F.slot_int_rmul repeat_tuple F.slot_int_index.lookup ?_
  refine call_meets F.slot_int_rmul (typeIs_int st 1 z) F.entry_int_rmul (F.args_int_rmul_2 _ _)
    (int_rmul_tuple 1 z a us.toArray m e xs) ⟨here, rfl, isT, ?_⟩
  refine call_meets F.slot_tuple_mul isT F.entry_tuple_mul (F.args_tuple_mul_2 _ _) back ⟨here, ?_⟩
  exact ⟨.ref a, H, I, rfl, q⟩
end PT

set_option maxHeartbeats 4000000
/-! readings as data: tuples -/
namespace PT
open PySem PySem.Spec PyProof.Rows L2
/-- t + u: one of the two where the other is empty -/
def rCatT : R2 := fun x y H Q => ∃ a b xs ys, x = .ref a ∧ y = .ref b ∧ H a = some (.tup xs) ∧ H b = some (.tup ys) ∧ xs.length + ys.length ≤ 1000 ∧ (xs = [] → Q (.ref b) H) ∧ (ys = [] → Q (.ref a) H) ∧ ∀ p, H p = none → Q (.ref p) (upd H p (.tup (xs ++ ys)))
theorem op_catT {X : Cx} : OpR X (binaryOp .Add) rCatT := by
  intro pins st σ H x y v u Q I rx ry h
  obtain ⟨a, b, xs, ys, rfl, rfl, ea, eb, hl, q1, q2, q⟩ := h
  exact op_catA pins st σ H _ _ v u Q I rx ry ⟨a, b, xs, ys, rfl, rfl, .inl (.inl ea), .inl (.inl eb), Nat.le_of_lt (small1000 hl), fun e => q1 e, fun _ e => q2 e, fun _ _ p np => q p np⟩
/-- t[i:j]: the tuple itself where nothing is cut -/
def rSlT : V → Option Int → Option Int → Hp → VK → Prop := fun x lo hi H Q => ∃ a xs, x = .ref a ∧ H a = some (.tup xs) ∧ (cutV xs lo hi = xs → Q (.ref a) H) ∧ ∀ p, H p = none → Q (.ref p) (upd H p (.tup (cutV xs lo hi)))
theorem sl_tupT {X : Cx} : SlR X rSlT := by
  intro pins st σ H x v vl vu lo hi sl Q I rx hs pl pu h
  obtain ⟨a, xs, rfl, ea, q1, q⟩ := h
  refine sl_tupA pins st σ H _ v vl vu lo hi sl Q I rx hs pl pu ⟨a, xs, rfl, .inl (.inl ea), fun e => q1 ?_, fun _ p np => q p np⟩
  unfold cutV
  rw [e.1, e.2, List.drop_zero, Nat.sub_zero, List.take_length]
/-- t * k, k from 1 on: the tuple itself where k is 1 -/
def rRepV : R2 := fun x y H Q => ∃ a k vs, x = .ref a ∧ y = .int k ∧ H a = some (.tup vs) ∧ vs ≠ [] ∧ 1 ≤ k ∧ k ≤ 1000 ∧ vs.length ≤ 1000 ∧ (k = 1 → Q (.ref a) H) ∧ ∀ p, H p = none → Q (.ref p) (upd H p (.tup (List.replicate k.toNat vs).flatten))
theorem op_repV {X : Cx} : OpR X (binaryOp .Mult) rRepV := by
  intro pins st σ H x y v u Q I rx ry hh
  obtain ⟨a, k, vs, rfl, rfl, ha, ne, k1, k2, lv, q1, q⟩ := hh
  have hT : SqT X.K H a vs := .inl (.inl ha)
  rcases Int.lt_or_le 1 k with c | c
  · exact op_repT pins st σ H _ _ v u Q I rx ry ⟨a, k, vs, rfl, rfl, hT, ne, by omega, k2, lv, fun p np => q p np⟩
  obtain rfl : k = 1 := by omega
  have q := q1 rfl
  cases rx
  obtain ⟨z, rfl⟩ := ry
  obtain ⟨us, pr, ⟨⟨ty, e, dat, xs⟩, here, hc, m, hd⟩, hs⟩ := I.tuple hT
  simp only at hc hd
  subst hc hd
  have isT : st.TypeIs (.ref a) "tuple" := ⟨_, here, rfl⟩
  have back := times_one a us.toArray m e xs z
  refine wpAny_binaryOp_repeat_ref (U := "int") (T := "tuple") (by decide) isT
    (fun st' => typeIs_int st' 1 z) noFill_tuple_mul F.fills_int_mul
    F.slot_int_rmul repeat_tuple F.slot_int_index.lookup ?_
  refine call_meets F.slot_int_rmul (typeIs_int st 1 z) F.entry_int_rmul (F.args_int_rmul_2 _ _)
    (int_rmul_tuple 1 z a us.toArray m e xs) ⟨here, rfl, isT, ?_⟩
  refine call_meets F.slot_tuple_mul isT F.entry_tuple_mul (F.args_tuple_mul_2 _ _) back ⟨here, ?_⟩
  exact ⟨.ref a, H, I, rfl, q⟩
section
variable {K : PySem.W.Frag} {bs : List Addr} {G : Hp} {σ : L2.St} {te tf : TE} {ta : TA} {d : PyData} {ds es : List PyData}
theorem rd_catT (h : Rd bs G σ te (.tuple ds)) (k : Rd bs G σ tf (.tuple es)) (small : ds.length + es.length ≤ 300) : Rd bs G σ (tOp rCatT te tf) (.tuple (ds ++ es)) := rd_two h k fun x y H Q hb hx hy q => by
  obtain ⟨l, xs, rfl, e1, d1⟩ := dps_refT hx
  obtain ⟨m, ys, rfl, e2, d2⟩ := dps_refT hy
  refine ⟨l, m, xs, ys, rfl, rfl, e1, e2, by rw [d1.len, d2.len]; omega, fun e => ?_, fun e => ?_, fun p np => q _ _ (same_new np) (dps_newT hb np (d1.app d2))⟩
  · subst e
    cases d1
    exact q _ H (Same.refl H) hy
  · subst e
    cases d2
    rw [List.append_nil] at q
    exact q _ H (Same.refl H) hx
theorem rd_slT {lo hi : Option Int} {tl th : TO} (es : List PyData) (f : List V → List V) (h : Rd bs G σ te (.tuple ds)) (hl : ∀ (H : Hp) (Q : Option Int → Hp → Prop), Same G (hides bs H) → Ther bs H → Q lo H → tl σ H Q) (hh : ∀ (H : Hp) (Q : Option Int → Hp → Prop), Same G (hides bs H) → Ther bs H → Q hi H → th σ H Q)
    (ec : ∀ xs : List V, xs.length = ds.length → cutV xs lo hi = f xs) (ef : ∀ (H : Hp) (xs : List V), DPs H xs ds → DPs H (f xs) es) : Rd bs G σ (tSl rSlT te tl th) (.tuple es) := fun H Q s hb q =>
  h H _ s hb fun x H1 s1 hx => by
    have t1 := s.trans (hides_same s1 bs)
    have b1 := hb.same s1
    refine hl H1 _ t1 b1 (hh H1 _ t1 b1 ?_)
    obtain ⟨l, xs, rfl, e1, d1⟩ := dps_refT hx
    have ce := ec xs d1.len
    refine ⟨l, xs, rfl, e1, fun e => ?_, fun p np => ?_⟩
    · refine q _ H1 s1 ?_
      cases hx with
      | tup a c => 
        rw [hides_sub bs H1 _ _ a] at e1
        cases e1
        have z := ef _ _ d1
        rw [← ce, e] at z
        exact .tup a z
    · rw [ce]
      exact q _ _ (s1.trans (same_new np)) (dps_newT b1 np (ef _ _ d1))
theorem po_no (H : Hp) (Q : Option Int → Hp → Prop) (_ : Same G (hides bs H)) (_ : Ther bs H) (q : Q none H) : tNoPart σ H Q := q
theorem po_var {i : Nat} {k : Int} (e : σ[i]? = some (some (.int k))) (H : Hp) (Q : Option Int → Hp → Prop) (_ : Same G (hides bs H)) (_ : Ther bs H) (q : Q (some k) H) : tPart (tVar i) σ H Q := ⟨.int k, e, k, rfl, q⟩
theorem po_next {i : Nat} {k : Int} (e : σ[i]? = some (some (.int k))) (H : Hp) (Q : Option Int → Hp → Prop) (_ : Same G (hides bs H)) (_ : Ther bs H) (q : Q (some (k + 1)) H) : tPart (tOp (rI0 fun i j => .int (i + j)) (tVar i) (tC (.int 1))) σ H Q := ⟨.int k, e, k, 1, rfl, rfl, k + 1, rfl, q⟩
theorem po_c {k : Int} (H : Hp) (Q : Option Int → Hp → Prop) (_ : Same G (hides bs H)) (_ : Ther bs H) (q : Q (some k) H) : tPart (tC (.int k)) σ H Q := ⟨k, rfl, q⟩
theorem po_neg {k : Int} (H : Hp) (Q : Option Int → Hp → Prop) (_ : Same G (hides bs H)) (_ : Ther bs H) (q : Q (some (-k)) H) : tPart (tUn (rU fun i => .int (-i)) (tC (.int k))) σ H Q := ⟨k, rfl, -k, rfl, q⟩
/-- t[:i] -/
theorem rd_toT {i : Nat} {k : Int} {j : Nat} (h : Rd bs G σ te (.tuple ds)) (e : σ[i]? = some (some (.int k))) (ek : k = (j : Int)) : Rd bs G σ (tSl rSlT te tNoPart (tPart (tVar i))) (.tuple (ds.take j)) :=
  rd_slT (ds.take j) (·.take j) h po_no (po_var e) (fun xs _ => by rw [ek]; exact cutV_to xs j) (fun _ _ d => d.takes j)
/-- t[i + 1:] -/
theorem rd_nextT {i : Nat} {k : Int} {j : Nat} (h : Rd bs G σ te (.tuple ds)) (e : σ[i]? = some (some (.int k))) (ek : k = (j : Int)) : Rd bs G σ (tSl rSlT te (tPart (tOp (rI0 fun i j => .int (i + j)) (tVar i) (tC (.int 1)))) tNoPart) (.tuple (ds.drop (j + 1))) :=
  rd_slT (ds.drop (j + 1)) (·.drop (j + 1)) h (po_next e) po_no (fun xs _ => by rw [ek]; exact cutV_from xs (j + 1)) (fun _ _ d => d.drops (j + 1))
/-- t[:-1] -/
theorem rd_lastT (h : Rd bs G σ te (.tuple ds)) : Rd bs G σ (tSl rSlT te tNoPart (tPart (tUn (rU fun i => .int (-i)) (tC (.int 1))))) (.tuple (ds.take (ds.length - 1))) :=
  rd_slT (ds.take (ds.length - 1)) (fun xs => xs.take (ds.length - 1)) h po_no po_neg (fun xs l => by rw [cutV_last, l]) (fun _ _ d => d.takes _)
/-- t[:1] -/
theorem rd_oneT (h : Rd bs G σ te (.tuple ds)) : Rd bs G σ (tSl rSlT te tNoPart (tPart (tC (.int 1)))) (.tuple (ds.take 1)) :=
  rd_slT (ds.take 1) (·.take 1) h po_no po_c (fun xs _ => cutV_to xs 1) (fun _ _ d => d.takes 1)
theorem cutV_end (xs : List V) : cutV xs (some (-1)) none = xs.drop (xs.length - 1) := by
  unfold cutV
  have e : HT.sIx xs.length 0 (some (-1)) = xs.length - 1 := by
    unfold HT.sIx
    simp
    omega
  rw [HT.sIx_none, e, List.take_of_length_le]
  rw [List.length_drop]
  omega
/-- t[-1:] -/
theorem rd_endT (h : Rd bs G σ te (.tuple ds)) : Rd bs G σ (tSl rSlT te (tPart (tUn (rU fun i => .int (-i)) (tC (.int 1)))) tNoPart) (.tuple (ds.drop (ds.length - 1))) :=
  rd_slT (ds.drop (ds.length - 1)) (fun xs => xs.drop (ds.length - 1)) h po_neg po_no (fun xs l => by rw [show (-(1 : Int)) = -1 from rfl, cutV_end, l]) (fun _ _ d => d.drops _)
theorem dps_reps {H : Hp} {xs : List V} (h : DPs H xs ds) : ∀ n : Nat, DPs H (List.replicate n xs).flatten (List.replicate n ds).flatten
  | 0 => .nil
  | n + 1 => by
    rw [List.replicate_succ, List.replicate_succ, List.flatten_cons, List.flatten_cons]
    exact h.app (dps_reps h n)
/-- t * k -/
theorem rd_repT {k : Int} (h : Rd bs G σ te (.tuple ds)) (g : Rd bs G σ tf (.int k)) (n : Nat) (e : k = (n : Int)) (ne : ds ≠ []) (l1 : 1 ≤ n) (l2 : n ≤ 300) (l3 : ds.length ≤ 300) : Rd bs G σ (tOp rRepV te tf) (.tuple (List.replicate n ds).flatten) := rd_two h g fun x y H Q hb hx hy q => by
  obtain ⟨l, xs, rfl, e1, d1⟩ := dps_refT hx
  rw [dp_intE hy, e]
  have ln := d1.len
  refine ⟨l, _, xs, rfl, rfl, e1, fun z => ?_, by omega, by omega, by omega, fun z => ?_, fun p np => ?_⟩
  · subst z
    cases d1
    exact ne rfl
  · obtain rfl : n = 1 := by omega
    refine q _ H (Same.refl H) ?_
    rw [show List.replicate 1 ds = [ds] from rfl, List.flatten_cons, List.flatten_nil, List.append_nil]
    exact hx
  · rw [Int.toNat_natCast]
    exact q _ _ (same_new np) (dps_newT hb np (dps_reps d1 n))
/-- xs * k, k 0 or 1 -/
theorem rd_repB {k : Int} (h : Rd bs G σ te (.list ds)) (g : Rd bs G σ tf (.int k)) (n : Nat) (e : k = (n : Int)) (l1 : n ≤ 1) (small : ds.length ≤ 300) : Rd bs G σ (tOp rRep te tf) (.list (List.replicate n ds).flatten) := rd_two h g fun x y H Q hb hx hy q => by
  obtain ⟨l, xs, rfl, e1, d1⟩ := dps_ref hx
  rw [dp_intE hy, e]
  refine ⟨l, _, xs, rfl, rfl, e1, by omega, by omega, ?_, fun p np => ?_⟩
  · rw [Int.toNat_natCast, d1.len]
    have := Nat.le_of_lt (small300 small)
    have : n = 0 ∨ n = 1 := by omega
    rcases this with rfl | rfl <;> omega
  · rw [Int.toNat_natCast]
    exact q _ _ (same_new np) (dps_newL hb np (dps_reps d1 n))
abbrev tLstOf (K : PySem.W.Frag) (te : TE) : TE := tCB (fun xs H Q => ∃ p ys, xs = [.ref p] ∧ (SqL K H p ys ∨ SqT K H p ys) ∧ ∀ l, H l = none → Q (.ref l) (upd H l (.lst ys))) (tCons te tNil)
/-- list(t) -/
theorem rd_lstOf (h : Rd bs G σ te (.tuple ds)) : Rd bs G σ (tLstOf K te) (.list ds) := fun H Q s hb q =>
  h H _ s hb fun x H1 s1 hx => by
    obtain ⟨l, xs, rfl, e1, d1⟩ := dps_refT hx
    exact ⟨l, xs, rfl, .inr (.inl (.inl e1)), fun p np => q _ _ (s1.trans (same_new np)) (dps_newL (hb.same s1) np d1)⟩
/-- max(t), t of numbers -/
theorem rd_maxT {ns : List Int} (h : Rd bs G σ te (.tuple (ns.map PyData.int))) (ne : ns ≠ []) : Rd bs G σ (tCB (fun vs H Q => ∃ a ns, vs = [V.ref a] ∧ SqT K H a (ns.map V.int) ∧ ns ≠ [] ∧ Q (.int (mxv ns)) H) (tCons te tNil)) (.int (mxv ns)) := fun H Q s hb q =>
  h H _ s hb fun x H1 s1 hx => by
    obtain ⟨l, xs, rfl, e1, d1⟩ := dps_refT hx
    have ev := d1.vals
    subst ev
    exact ⟨l, ns, rfl, .inl (.inl e1), ne, q _ _ s1 (.int _)⟩
theorem rd_gt {i j : Int} (h : Rd bs G σ te (.int i)) (k : Rd bs G σ tf (.int j)) : Rd bs G σ (tOp (rI0 fun i j => .bl (decide (j < i))) te tf) (.bool (decide (j < i))) := rd_two h k fun x y H Q _ hx hy q => ⟨i, j, dp_intE hx, dp_intE hy, q _ H (Same.refl H) (.bl _)⟩
/-- int(c) -/
theorem rd_intB {c : Bool} (h : Rd bs G σ te (.bool c)) : Rd bs G σ (tCB (fun xs H Q => (∃ i, xs = [V.int i] ∧ Q (.int i) H) ∨ ∃ k, xs = [V.bl k] ∧ Q (.int (if k then 1 else 0)) H) (tCons te tNil)) (.int (if c then 1 else 0)) := fun H Q s hb q =>
  h H _ s hb fun x H1 s1 hx => by
    cases hx
    exact .inr ⟨c, rfl, q _ _ s1 (.int _)⟩
/-- t[i], i of any sign -/
theorem rd_ixT {i : Int} {j : Nat} (h : Rd bs G σ te (.tuple ds)) (g : Rd bs G σ tf (.int i)) (e : ∀ xs : List V, xs.length = ds.length → atI xs i = xs[j]?) (ed : ds[j]? = some d) : Rd bs G σ (tOp (rIxT K) te tf) d := rd_two h g fun x y H Q hb hx hy q => by
  obtain ⟨l, xs, rfl, e1, d1⟩ := dps_refT hx
  rw [dp_intE hy]
  have lt : j < xs.length := by rw [d1.len]; exact (List.getElem?_eq_some_iff.mp ed).1
  have ex : xs[j]? = some xs[j] := List.getElem?_eq_getElem lt
  obtain ⟨d', ed', hd⟩ := d1.get _ _ ex
  cases ed.symm.trans ed'
  exact ⟨l, xs, i, _, rfl, rfl, .inl (.inl e1), (e xs d1.len).trans ex, q _ H (Same.refl H) hd⟩
theorem atI_before {xs : List V} {k j : Nat} (h : k < xs.length) (e : j = if k = 0 then xs.length - 1 else k - 1) : atI xs ((k : Int) - 1) = xs[j]? := by
  unfold atI ixN
  by_cases c : k = 0
  · subst c
    rw [if_pos rfl] at e
    rw [if_neg (by omega), if_pos (by omega), Option.bind_some]
    congr 1
    omega
  · rw [if_neg c] at e
    rw [if_pos (by omega), if_pos (by omega), Option.bind_some]
    congr 1
    omega
end
end PT


set_option maxHeartbeats 1000000
/-! values that are no plants or no stocks (fount) -/
namespace PT
open PySem PySem.Spec PyProof.Rows L2
theorem okPys_bad {d : PyData} : ∀ (k : Nat) (as bs : List PyData), okPy 0 ((k + as.length : Nat) : Int) d = false → okPys k (as ++ d :: bs) = false
  | k, [], bs, h => by
    show (okPy 0 (k : Nat) d && _) = false
    rw [show okPy 0 (k : Nat) d = false from h]
    rfl
  | k, a :: as, bs, h => by
    show (okPy 0 (k : Nat) a && okPys (k + 1) (as ++ d :: bs)) = false
    rw [okPys_bad (k + 1) as bs (by rw [← h, List.length_cons]; congr 1; omega), Bool.and_false]
def BadPl (d : PyData) : Prop := fitsD d = false ∧ NiceU d ∧ ∀ ds, d = .tuple ds → ds.length ≤ 300
def badPlB (d : PyData) : Bool := !fitsD d && niceUB d && match d with
  | .tuple ds => decide (ds.length ≤ 300)
  | _ => true
theorem badPl_of {d : PyData} (h : badPlB d = true) : BadPl d := by
  unfold badPlB at h
  simp only [Bool.and_eq_true, Bool.not_eq_true'] at h
  refine ⟨h.1.1, niceU_of h.1.2, fun ds e => ?_⟩
  subst e
  exact of_decide_eq_true h.2
theorem okPy_big {d : PyData} {i j : Int} (h : okPy 0 i d = true) (le : i ≤ j) : okPy 0 j d = true := by
  cases d <;> first | exact h | skip
  unfold okPy at h ⊢
  rw [Bool.and_eq_true, decide_eq_true_eq, decide_eq_true_eq] at *
  omega
/-- a plant's numbers with another entry among them -/
theorem badPl_odd {pl : List Int} {k : Nat} {bs : List Int} {d : PyData} (hP : Plant pl) (hk : k ≤ pl.length) (hb : ∀ x ∈ bs, x ∈ pl) (lb : bs.length ≤ 40) (bad : okPy 0 (k : Int) d = false) (nice : NiceQ d) (lt : (pl.take k).length + bs.length ≤ 50) : BadPl (.tuple ((pl.take k).map PyData.int ++ [d] ++ bs.map PyData.int)) := by
  have lp := hP.len
  have sm : ∀ x ∈ pl, x.natAbs < 10 ^ 50 := fun x hx => by
    obtain ⟨i, hi⟩ := List.mem_iff_getElem?.mp hx
    have lt := (List.getElem?_eq_some_iff.mp hi).1
    obtain ⟨h0, h1⟩ := hP.ok i x hi
    omega
  refine ⟨?_, niceU_odd (fun x hx => sm x (List.mem_of_mem_take hx)) (fun x hx => sm x (hb x hx)) nice lt, fun ds e => ?_⟩
  · have z := okPys_bad (d := d) 0 ((pl.take k).map PyData.int) (bs.map PyData.int) (by rw [List.length_map, List.length_take, Nat.min_eq_left hk, Nat.zero_add]; exact bad)
    show (_ && okPys 0 _) = false
    rw [List.append_assoc, show [d] ++ bs.map PyData.int = d :: bs.map PyData.int from rfl, z, Bool.and_false]
  · cases e
    rw [List.length_append, List.length_append, List.length_map, List.length_map]
    show _ + 1 + _ ≤ _
    omega
def BadSt (m : Nat) (d : PyData) : Prop := NiceU d ∧ ∀ ds, d = .tuple ds → ds.length ≤ 250 ∧ ∀ ns : List Int, ds = ns.map PyData.int → ds.length = m → ¬ ns.Nodup
theorem DPs.inv {H : Hp} : ∀ {ns : List Int} {ds : List PyData}, DPs H (ns.map V.int) ds → ds = ns.map PyData.int
  | [], _, h => by cases h; rfl
  | n :: ns, _, h => by
    cases h with
    | cons a b =>
      cases a
      rw [DPs.inv b]
      rfl
theorem DP.notSt {H : Hp} {v : V} {d : PyData} {m : Nat} (h : DP H v d) (bad : BadSt m d) : StIs H m v false := by
  cases h with
  | non => exact .no .non (by decide)
  | bl b => exact .no (.bl b) (by decide)
  | int i => exact .no (.int i) (by decide)
  | str x => exact .no (.str x) (by decide)
  | dic a => exact .no (.dic a) (by decide)
  | lst a b => exact .no (.lst a) (by decide)
  | @tup a xs ds e b =>
    obtain ⟨l, no⟩ := bad.2 ds rfl
    refine .tup e (by rw [b.len]; exact l) (fun x hx => let ⟨d, _, k⟩ := b.mem hx; k.kd) ⟨fun z => absurd z (by decide), fun ⟨z, ns, ex, nd⟩ => ?_⟩
    subst ex
    exact absurd nd (no ns b.inv (b.len ▸ z))
theorem niceV170 {d : PyData} (h : (d.showable && decide (d.depth ≤ 2) && d.leavesShort 60 && decide (d.weight ≤ 170)) = true) : Nice 170 2 d := by
  simp only [Bool.and_eq_true, decide_eq_true_eq] at h
  exact ⟨h.1.1.1, h.1.1.2, h.1.2, h.2⟩
theorem okPy_up {d : PyData} {i : Int} (h : okPy 0 i d = false) : okPy 1 i d = false := by
  cases d <;> first | rfl | skip
  rename_i j
  have h : (decide (0 ≤ j) && decide (j ≤ i)) = false := h
  show (decide (1 ≤ j) && decide (j ≤ i)) = false
  rw [Bool.and_eq_false_iff, decide_eq_false_iff_not, decide_eq_false_iff_not] at *
  omega
theorem badSt_flat {m : Nat} {d : PyData} (n : niceUB d = true) (h : ∀ ds, d ≠ .tuple ds) : BadSt m d := ⟨niceU_of n, fun ds e => absurd e (h ds)⟩
/-- an entry that is no number -/
theorem badSt_odd {m : Nat} {as bs : List Int} {d : PyData} (ha : ∀ n ∈ as, n.natAbs < 10 ^ 50) (hb : ∀ n ∈ bs, n.natAbs < 10 ^ 50) (hd : NiceQ d) (l : as.length + bs.length ≤ 50) (no : ∀ i : Int, d ≠ .int i) : BadSt m (.tuple (as.map PyData.int ++ [d] ++ bs.map PyData.int)) := by
  refine ⟨niceU_odd ha hb hd l, fun ds e => ?_⟩
  cases e
  refine ⟨by simp; omega, fun ns e _ => ?_⟩
  have mem : d ∈ ns.map PyData.int := by
    rw [← e]
    simp
  obtain ⟨i, _, ei⟩ := List.mem_map.mp mem
  exact absurd ei.symm (no i)
/-- numbers of another length -/
theorem badSt_len {m : Nat} {as : List Int} (ha : ∀ n ∈ as, n.natAbs < 10 ^ 50) (l : as.length ≤ 50) (ne : as.length ≠ m) : BadSt m (.tuple (as.map PyData.int)) := by
  refine ⟨niceU_ints ha l, fun ds e => ?_⟩
  cases e
  rw [List.length_map]
  exact ⟨by omega, fun _ _ z => absurd z ne⟩
/-- a number twice -/
theorem badSt_two {m : Nat} {as : List Int} (ha : ∀ n ∈ as, n.natAbs < 10 ^ 50) (l : as.length ≤ 50) (nn : ¬ as.Nodup) : BadSt m (.tuple (as.map PyData.int)) := by
  refine ⟨niceU_ints ha l, fun ds e => ?_⟩
  cases e
  refine ⟨by rw [List.length_map]; omega, fun ns e _ => ?_⟩
  have e2 : as = ns := (List.map_inj_right fun _ _ y => PyData.int.inj y).mp e
  exact e2 ▸ nn
theorem cut_last (ns : List Int) : cutV (ns.map V.int) none (some (-1)) = (ns.take (ns.length - 1)).map V.int := by
  unfold cutV
  rw [HT.sIx_none, List.drop_zero, Nat.sub_zero, List.map_take]
  congr 1
  unfold HT.sIx
  rw [List.length_map]
  simp
  omega
theorem set_two {ss : List Int} {i j : Nat} (hi : i < ss.length) (hj : j < ss.length) (ne : i ≠ j) : ¬ (ss.set j ss[i]).Nodup := fun nd => by
  have hi' : i < (ss.set j ss[i]).length := by rw [List.length_set]; exact hi
  have hj' : j < (ss.set j ss[i]).length := by rw [List.length_set]; exact hj
  have e : (ss.set j ss[i])[i] = (ss.set j ss[i])[j] := by
    rw [List.getElem_set_self, List.getElem_set_ne (Ne.symm ne)]
  exact ne ((List.getElem_inj nd).mp e)
theorem same_hide_upd {G H : Hp} {b z : Addr} {o : HO} (s : Same (hide G b) (hide H b)) (n : hide G b z = none) : Same (hide G b) (hide (upd H z o) b) := fun c u h => by
  have e := s c u h
  have ne := ne_of_none h n
  unfold hide at e ⊢
  by_cases x : c = b
  · rw [if_pos x] at e; cases e
  · rw [if_neg x] at e ⊢; rw [upd_ne ne]; exact e
end PT


set_option maxHeartbeats 4000000
set_option exponentiation.threshold 5000
/-! draws out of a fount: three ints, the third one counts -/
namespace PT
open PySem PySem.Spec PyProof.Rows L2

/-- ** of great ints, to small powers -/
def CPowW (i j : Int) : Prop := 0 ≤ j ∧ j ≤ 10 ∧ i.natAbs < 2 ^ 4000
theorem op_powW {X : Cx} : OpR X (binaryOp .Pow) (rI CPowW fun i j => .int (i ^ j.toNat)) := opI fun i j _ _ _ _ _ hc q => pow_int hc.1 (by
  have h1 : Builtin.Int.intBits i ≤ i.natAbs.log2 + 1 := by
    unfold Builtin.Int.intBits
    split <;> omega
  have h2 := PySem.Flt.log2_lt_of (by decide) hc.2.2
  have h3 := hc.1
  have h4 := hc.2.1
  have h5 : (Builtin.Int.intBits i : Int) ≤ 4000 := by omega
  have h6 : (Builtin.Int.intBits i : Int) * j ≤ 4000 * 10 := Int.mul_le_mul h5 h4 h3 (by decide)
  have h7 : (4000 * 10 : Int) ≤ 2 ^ 27 := by decide
  omega) q
theorem pow_small {i : Int} (h0 : 0 ≤ i) (h1 : i < 10 ^ 60) {j : Int} (j0 : 0 ≤ j) (j1 : j ≤ 10) : CPowW i j := ⟨j0, j1, Nat.lt_trans (show i.natAbs < 10 ^ 60 by omega) (by decide)⟩
/-- a fount: a list of three ints; at most n draws so far -/
def PotAt (H : Hp) (b : Addr) (n : Nat) : Prop := ∃ x y z : Int, H b = some (.lst [.int x, .int y, .int z]) ∧ 0 ≤ y ∧ y < 10 ^ 45 ∧ 0 ≤ z ∧ z ≤ n
theorem PotAt.same {H H' : Hp} {b : Addr} {n : Nat} (e : Same H H') (h : PotAt H b n) : PotAt H' b n := let ⟨x, y, z, q, r⟩ := h; ⟨x, y, z, e _ _ q, r⟩
theorem PotAt.mono {H : Hp} {b : Addr} {n m : Nat} (h : PotAt H b n) (l : n ≤ m) : PotAt H b m := let ⟨x, y, z, q, a, b, c, d⟩ := h; ⟨x, y, z, q, a, b, c, by omega⟩
theorem PotAt.isL {H : Hp} {b : Addr} {n : Nat} (h : PotAt H b n) : ∃ xs, H b = some (.lst xs) := let ⟨x, y, z, q, _⟩ := h; ⟨_, q⟩
theorem PotAt.some {H : Hp} {b c : Addr} {n : Nat} (h : PotAt H b n) (e : H c = none) : c ≠ b := fun z => by
  obtain ⟨x, y, w, q, _⟩ := h
  rw [z, q] at e
  cases e
theorem PotAt.neT {H : Hp} {b c : Addr} {n : Nat} {xs : List V} (h : PotAt H b n) (e : H c = Option.some (.tup xs)) : c ≠ b := fun z => by
  obtain ⟨ys, q⟩ := h.isL
  rw [z, q] at e
  cases e
theorem PotAt.ne0 {H : Hp} {b : Addr} {n : Nat} (h : PotAt H b n) : H b ≠ none := fun e => by
  obtain ⟨xs, z⟩ := h.isL
  rw [z] at e
  cases e
theorem Bar.freeP {b : Addr} {H H' : Hp} {n : Nat} (e : Bar b H H') (hb2 : PotAt H' b n) {l : Addr} (n : H' l = none) : H l = none := by
  cases q : H l with
  | none => rfl
  | some o =>
    by_cases c : l = b
    · exact absurd c (hb2.some n)
    · rw [e l o c q] at n
      cases n
theorem PlantAt.barP {H H' : Hp} {b p : Addr} {pl : List Int} {n : Nat} (e : Bar b H H') (hb : PotAt H b n) (h : PlantAt H p pl) : PlantAt H' p pl := by
  obtain ⟨x, y, z, q, _⟩ := hb
  exact ⟨e _ _ (ne_of h.at_ q (by intro w; cases w)) h.at_, h.ok⟩
theorem big_lt {m : Int} (h0 : 0 < m) (h1 : m < 10 ^ 40) : m.natAbs < 2 ^ 140 := by
  have z : m.natAbs < 10 ^ 40 := by omega
  exact Nat.lt_trans z (by decide)
theorem pot41 : (0 : Int) < 10 ^ (Int.toNat 43) + 103 := by decide
theorem pot40 : (0 : Int) < 10 ^ (Int.toNat 41) + 109 := by decide
section
variable {P : Program} {w : World} {K : PySem.W.Frag} {mg : Str → Option Value} {base : Heap}
def spSip : Sp := fun vs H Q _ => ∃ (b : Addr) (m : Int) (n : Nat), vs = [.ref b, .int m] ∧ 0 < m ∧ m < 10 ^ 40 ∧ PotAt H b n ∧ n ≤ 1000000000000 ∧ ∀ (r : Int) (H' : Hp), 0 ≤ r → r < m → PotAt H' b (n + 1) → Bar b H H' → (∀ c, c ≠ b → H' c = H c) → Q (.int r) H'
theorem ok_sip (T : Tx K mg) : FnOk P w K mg base CX0 1 T.f__law_sip T.d__law_sip ["fount", "many"] spSip := by
  refine T.F__law_sip.ok scLawSip (fun vs H Q E h => ?_) (fun cdv A outer s H vs Q E hr h => ?_)
  · obtain ⟨b, m, n, rfl, _⟩ := h
    rfl
  · obtain ⟨b, m, n, rfl, h0, h1, ⟨x, y, z, hb, y0, y1, z0, z1⟩, hn, q⟩ := h
    have nd := scLawSip.nd
    refine ⟨_, pss_cons (ps_if (pt_cmpR op_gt (pe_ix ix_list (pv 0) pe_int (fun _ _ => rfl)) pe_int (nomark _))
        (pss_cons (ps_set (i := 2) nd rfl (.inl rfl) (pe_op op_mod (pe_ix ix_list (pv 0) pe_int (fun _ _ => rfl)) (pv 1)))
        (pss_cons (ps_asg (pe_op op_fdivW (pe_ix ix_list (pv 0) pe_int (fun _ _ => rfl)) (pv 1)) (pg_sub (pv 0) pe_int set_list))
        (pss_one (ps_ret (pv 2))))) pss_nil)
      (pss_cons (ps_asg (pe_op op_add (pe_ix ix_list (pv 0) pe_int (fun _ _ => rfl)) pe_int) (pg_sub (pv 0) pe_int set_list))
      (pss_cons (ps_set (i := 3) nd rfl (.inl rfl) (pe_op op_mod (pe_op op_powW (pe_op op_add (pe_ix ix_list (pv 0) pe_int (fun _ _ => rfl)) (pe_op op_mul pe_int (pe_ix ix_list (pv 0) pe_int (fun _ _ => rfl)))) pe_int) (pe_op op_add (pe_op op_pow pe_int pe_int) pe_int)))
      (pss_cons (ps_set (i := 3) nd rfl (.inl rfl) (pe_op op_mod (pe_op op_powW (pe_op op_add (pv 3) (pe_op op_mul pe_int (pe_ix ix_list (pv 0) pe_int (fun _ _ => rfl)))) pe_int) (pe_op op_add (pe_op op_pow pe_int pe_int) pe_int)))
      (pss_one (ps_ret (pe_op op_mod (pe_op op_fdiv (pv 3) pe_int) (pv 1))))))), ?_⟩
    have hs : SqL K H b [.int x, .int y, .int z] := .inl (.inl hb)
    refine ⟨.ref b, rfl, b, _, 0, .int x, rfl, rfl, hs, rfl, x, 0, rfl, rfl, _, rfl, ite2 (fun e => ?_) fun e => ?_⟩
    · refine ⟨.ref b, rfl, b, _, 0, .int x, rfl, rfl, hs, rfl, .int m, rfl, x, m, rfl, rfl, h0, ?_⟩
      refine ⟨.ref b, rfl, b, _, 0, .int x, rfl, rfl, hs, rfl, .int m, rfl, x, m, rfl, rfl, wide_div h0 (b := 140) (big_lt h0 h1) (by decide) (by decide), .ref b, rfl, b, _, 0, 0, rfl, rfl, hb, rfl, ?_⟩
      refine ⟨_, rfl, ?_⟩
      exact q _ _ (Int.emod_nonneg _ (by omega)) (Int.emod_lt_of_pos _ h0) ⟨x / m, y, z, upd_same, y0, y1, z0, by omega⟩ bar_upd fun c hc => upd_ne hc
    · refine ⟨.ref b, rfl, b, _, 2, .int z, rfl, rfl, hs, rfl, z, 1, rfl, rfl, .ref b, rfl, b, _, 2, 2, rfl, rfl, hb, rfl, ?_⟩
      have hs1 : SqL K (upd H b (.lst ([V.int x, .int y, .int z].set 2 (.int (z + 1))))) b [.int x, .int y, .int (z + 1)] := .inl (.inl upd_same)
      refine ⟨.ref b, rfl, b, _, 1, .int y, rfl, rfl, hs1, rfl, .ref b, rfl, b, _, 2, .int (z + 1), rfl, rfl, hs1, rfl, 67867979, z + 1, rfl, rfl, .inl ⟨by decide, by decide⟩, _, _, rfl, rfl, _, 3, rfl, rfl, pow_small (by omega) (by omega) (by decide) (by decide), ?_⟩
      refine ⟨10, 43, rfl, rfl, ⟨by decide, by decide, by decide⟩, _, 103, rfl, rfl, _, _, rfl, rfl, pot41, ?_⟩
      have t0 : 0 ≤ (y + 67867979 * (z + 1)) ^ (Int.toNat 3) % (10 ^ (Int.toNat 43) + 103) := Int.emod_nonneg _ (Int.ne_of_gt pot41)
      have t1 : (y + 67867979 * (z + 1)) ^ (Int.toNat 3) % (10 ^ (Int.toNat 43) + 103) < 10 ^ (Int.toNat 43) + 103 := Int.emod_lt_of_pos _ pot41
      have t2 : (y + 67867979 * (z + 1)) ^ (Int.toNat 3) % (10 ^ (Int.toNat 43) + 103) < 10 ^ 44 := Int.lt_of_lt_of_le t1 (by decide)
      refine ⟨_, rfl, .ref b, rfl, b, _, 2, .int (z + 1), rfl, rfl, hs1, rfl, 32452867, z + 1, rfl, rfl, .inl ⟨by decide, by decide⟩, _, _, rfl, rfl, _, 3, rfl, rfl, pow_small (by omega) (by omega) (by decide) (by decide), ?_⟩
      refine ⟨10, 41, rfl, rfl, ⟨by decide, by decide, by decide⟩, _, 109, rfl, rfl, _, _, rfl, rfl, pot40, ?_⟩
      refine ⟨_, rfl, _, 262147, rfl, rfl, ⟨by decide, by decide⟩, .int m, rfl, _, m, rfl, rfl, h0, ?_⟩
      exact q _ _ (Int.emod_nonneg _ (by omega)) (Int.emod_lt_of_pos _ h0) ⟨x, y, z + 1, upd_same, y0, y1, by omega, by omega⟩ bar_upd fun c hc => upd_ne hc
end
end PT


set_option maxHeartbeats 4000000
/-! pots, rows in another order, plants and stocks out of a pot -/
namespace PT
open PySem PySem.Spec PyProof.Rows L2
section
variable {P : Program} {w : World} {K : PySem.W.Frag} {mg : Str → Option Value} {base : Heap}
theorem pot38 : (0 : Int) < 10 ^ (Int.toNat 38) + 133 := by decide
def spFount (K : PySem.W.Frag) : Sp := fun vs H Q _ => ∃ (a : Addr) (ns : List Int) (k : Nat), vs = [.ref a, .int (k : Int)] ∧ SqL K H a (ns.map V.int) ∧ k ≤ 1000 ∧ ∀ (b : Addr) (o : HO), H b = none → PotAt (upd H b o) b 0 → Q (.ref b) (upd H b o)
theorem ok_fount (T : Tx K mg) : FnOk P w K mg base CX0 1 T.f__law_fount T.d__law_fount ["script", "k"] (spFount K) := by
  refine T.F__law_fount.ok scLawFount (fun vs H Q E h => ?_) (fun cdv A outer s H vs Q E hr h => ?_)
  · obtain ⟨a, ns, k, rfl, _⟩ := h
    rfl
  · obtain ⟨a, ns, k, rfl, hS, hk, q⟩ := h
    have nd := scLawFount.nd
    refine ⟨_, pss_cons (ps_set (i := 2) nd rfl (.inl rfl) pe_int)
      (pss_cons (ps_if (pt_cmpR op_lt (pv 1) (pe_callB call_len_seq (by rfl) T.n_len PySem.boot_len (pa_cons (pv 0) pa_nil)) (nomark _)) (pss_one (ps_set (i := 2) nd rfl (.inl rfl) (pe_ix ix_list (pv 0) (pv 1) (fun _ _ => rfl)))) pss_nil)
      (pss_one (ps_ret (pe_lst (pa_cons (pe_callB (call_max2 rfl) (by rfl) T.n_max (by decide +kernel) (pa_cons pe_int (pa_cons (pe_op op_sub (pv 2) (pe_op op_pow pe_int pe_int)) pa_nil)))
        (pa_cons (pe_op op_add (pe_op op_mul (pe_op op_mod (pv 2) (pe_op op_add (pe_op op_pow pe_int pe_int) pe_int)) pe_int) (pv 1)) (pa_cons pe_int pa_nil))))))), ?_⟩
    refine ⟨.int (k : Int), rfl, .ref a, rfl, a, _, rfl, .inl hS, (k : Int), _, rfl, rfl, _, rfl, ite2 (fun e => ?_) fun e => ?_⟩
    · have hk2 : k < ns.length := by
        have z := of_decide_eq_true e
        rw [List.length_map] at z
        omega
      refine ⟨.ref a, rfl, .int (k : Int), rfl, a, _, (k : Int), .int ns[k], rfl, rfl, hS, atI_nat (by rw [List.getElem?_map, List.getElem?_eq_getElem hk2]; rfl), ?_⟩
      generalize ns[k] = c
      refine ⟨.int c, rfl, 10, 18, rfl, rfl, ⟨by decide, by decide, by decide⟩, _, _, rfl, rfl, _, _, rfl, .int c, rfl, 10, 38, rfl, rfl, ⟨by decide, by decide, by decide⟩, _, 133, rfl, rfl, _, _, rfl, rfl, pot38, _, 512, rfl, rfl, .inr ⟨by decide, by decide⟩, .int (k : Int), rfl, _, _, rfl, rfl, (by show 3 ≤ sizeLine; decide), fun b nb => ?_⟩
      have t0 : 0 ≤ c % (10 ^ (Int.toNat 38) + 133) := Int.emod_nonneg _ (Int.ne_of_gt pot38)
      have t1 : c % (10 ^ (Int.toNat 38) + 133) < 10 ^ (Int.toNat 38) + 133 := Int.emod_lt_of_pos _ pot38
      have t2 : (10 : Int) ^ (Int.toNat 38) + 133 ≤ 10 ^ 39 := by decide
      exact q b _ nb ⟨_, _, _, upd_same, by omega, by omega, by decide, by decide⟩
    · refine ⟨.int 0, rfl, 10, 18, rfl, rfl, ⟨by decide, by decide, by decide⟩, _, _, rfl, rfl, _, _, rfl, .int 0, rfl, 10, 38, rfl, rfl, ⟨by decide, by decide, by decide⟩, _, 133, rfl, rfl, _, _, rfl, rfl, pot38, _, 512, rfl, rfl, .inr ⟨by decide, by decide⟩, .int (k : Int), rfl, _, _, rfl, rfl, (by show 3 ≤ sizeLine; decide), fun b nb => ?_⟩
      have t0 : 0 ≤ (0 : Int) % (10 ^ (Int.toNat 38) + 133) := Int.emod_nonneg _ (Int.ne_of_gt pot38)
      have t1 : (0 : Int) % (10 ^ (Int.toNat 38) + 133) < 10 ^ (Int.toNat 38) + 133 := Int.emod_lt_of_pos _ pot38
      have t2 : (10 : Int) ^ (Int.toNat 38) + 133 ≤ 10 ^ 39 := by decide
      exact q b _ nb ⟨_, _, _, upd_same, by omega, by omega, by decide, by decide⟩
/-! ### a row in another order -/
def spMixed : Sp := fun vs H Q _ => ∃ (b q : Addr) (xs : List V) (n : Nat), vs = [.ref b, .ref q] ∧ PotAt H b n ∧ n ≤ 100000000000 ∧ (H q = some (.lst xs) ∨ H q = some (.tup xs)) ∧ xs.length ≤ 300 ∧ ∀ (H' : Hp) (l : Addr) (ys : List V), PotAt H' b (n + xs.length) → Bar b H H' → H l = none → H' l = some (.lst ys) → ys.Perm xs → Q (.ref l) H'
theorem ok_mixed (T : Tx K mg) : FnOk P w K mg base CX0 2 T.f__law_mixed T.d__law_mixed ["fount", "items"] spMixed := by
  refine T.F__law_mixed.ok scLawMixed (fun vs H Q E h => ?_) (fun cdv A outer s H vs Q E hr h => ?_)
  · obtain ⟨b, q, xs, n, rfl, _⟩ := h
    rfl
  · obtain ⟨b, q, xs, n, rfl, hb, hn, hq, hl, qq⟩ := h
    have nd := scLawMixed.nd
    refine ⟨_, pss_cons (ps_set (i := 2) nd rfl (.inr rfl) (pe_callTy call_list_of (by rfl) T.n_list (by decide +kernel) (pa_cons (pv 1) pa_nil)))
      (pss_one (ps_ret (pe_lc (own := [("turn", 3)]) (g := gName 3) (tt := tYes) (te := tBM K "list" rPopAt (tVar 2) (tCons (tCall spSip [] E0 (tCons (tVar 0) (tCons (tCB (fun xs H Q => ∃ p ys, xs = [.ref p] ∧ (SqL K H p ys ∨ SqT K H p ys) ∧ Q (.int (ys.length : Int)) H) (tCons (tVar 2) tNil)) tNil))) tNil)) rfl nd (pi_range1 rfl T.n_range (pa_cons (pe_callB call_len_seq (by rfl) T.n_len PySem.boot_len (pa_cons (pv 2) pa_nil)) pa_nil))
        (blkOk_by (N := ["fount", "items", "left", "turn"]) (sc := defScope sLawMixed) (by decide +kernel)) (fun _ _ _ _ _ => pg_name (i := 3) nd rfl (Or.inl rfl)) (fun _ _ _ _ _ => pts_nil)
        (fun _ _ _ _ _ => pe_bm PySem.F.plainAttrs_list PySem.F.slot_list_pop PySem.F.type_list_pop mt_popAt (pv 2) (pa_cons (pe_call (ok_sip T) hr (by rfl) T.g__law_sip T.F__law_sip.kp T.b__law_sip .nil pass0
          (pa_cons (pv 0) (pa_cons (pe_callB call_len_seq (by rfl) T.n_len PySem.boot_len (pa_cons (pv 2) pa_nil)) pa_nil))) pa_nil))))), ?_⟩
    have hq0 : SqL K H q xs ∨ SqT K H q xs := hq.imp (fun z => .inl (.inl z)) fun z => .inl (.inl z)
    refine ⟨.ref q, rfl, q, _, rfl, hq0, fun lf nlf => ?_⟩
    have s1 : Same H (upd H lf (.lst xs)) := same_new nlf
    have hq1 : SqL K (upd H lf (.lst xs)) q xs ∨ SqT K (upd H lf (.lst xs)) q xs := hq.imp (fun z => .inl (.inl (s1 _ _ z))) fun z => .inl (.inl (s1 _ _ z))
    have hb1 := hb.same s1
    have hlfb : lf ≠ b := hb.some nlf
    refine ⟨.ref lf, rfl, lf, xs, rfl, .inl (.inl (.inl upd_same)), (xs.length : Int), rfl, by omega, by omega, ?_⟩
    rw [Int.toNat_natCast]
    intro D nD
    have hDb : D ≠ b := hb1.some nD
    have nHD : H D = none := s1.free nD
    have hDl : D ≠ lf := fun e => by
      rw [e, upd_same] at nD
      cases nD
    refine lc_range (lo := 0) (n := xs.length) (fun i H' => ∃ rest out : List V, PotAt H' b (n + i) ∧ Bar b H H' ∧ H' lf = some (.lst rest) ∧ H' D = some (.lst out) ∧ (out ++ rest).Perm xs ∧ rest.length + i = xs.length)
      ⟨xs, [], hb1.same (same_new nD), (Same.bar (s1.trans (same_new nD))), upd_at upd_same nD, upd_same, .refl _, rfl⟩ (fun i H1 hi p1 => ?_) (fun H1 p1 => ?_)
    · obtain ⟨rest, out, kb, br, el, eD, pm, ln⟩ := p1
      have hr0 : 0 < rest.length := by omega
      refine ⟨rfl, tyes_if ⟨.ref lf, rfl, .inl ⟨rfl, _, .inl (.inl el)⟩, .ref b, rfl, .ref lf, rfl, lf, _, rfl, .inl (.inl (.inl el)), b, (rest.length : Int), n + i, rfl, by omega, by omega, kb, by omega, fun r H2 h0 h1 k2 b2 o2 => ?_⟩⟩
      have hk : r.toNat < rest.length := by omega
      have ek : rest[r.toNat]? = some rest[r.toNat] := List.getElem?_eq_getElem hk
      have el2 : H2 lf = some (.lst rest) := b2 _ _ hlfb el
      have eD2 : (upd H2 lf (.lst (rest.eraseIdx r.toNat))) D = some (.lst out) := by
        rw [upd_ne hDl]
        exact b2 _ _ hDb eD
      refine ⟨lf, _, r, r.toNat, rest[r.toNat], rfl, rfl, el2, by omega, by omega, seqIndex_of h0 h1, ek, _, eD2, ?_, rest.eraseIdx r.toNat, out ++ [rest[r.toNat]], ?_, ?_, ?_, ?_, ?_, ?_⟩
      · have := pm.length_eq
        rw [List.length_append] at this
        exact small300 (by omega)
      · obtain ⟨x, y, z, k3, k4⟩ := k2
        refine ⟨x, y, z, ?_, k4⟩
        rw [upd_ne (Ne.symm hDb), upd_ne (Ne.symm hlfb)]
        exact k3
      · intro c o nc hc
        rw [upd_ne (ne_of_none hc nHD), upd_ne (ne_of_none hc nlf)]
        exact b2 _ _ nc (br c o nc hc)
      · rw [upd_ne (Ne.symm hDl), upd_same]
      · rw [upd_same]
      · rw [List.append_assoc]
        exact ((perm_pick ek).append_left out).trans pm
      · rw [List.length_eraseIdx, if_pos hk]
        omega
    · obtain ⟨rest, out, kb, br, el, eD, pm, ln⟩ := p1
      have e0 : rest = [] := List.eq_nil_of_length_eq_zero (by omega)
      rw [e0, List.append_nil] at pm
      exact qq H1 D out kb br nHD eD pm
end
end PT


set_option maxHeartbeats 2000000
/-! values that are no plants (fount) -/
namespace PT
open PySem PySem.Spec PyProof.Rows L2
/-- entries that stand nowhere in a plant -/
def oddP (k : Nat) : List PyData := [.int ((k : Int) + 1), .int (-1), .none, .bool true, .str "0", .tuple [.int 0], .list [.int 0], .dict []]
def putP (pl : List Int) (k : Nat) (d : PyData) : PyData := .tuple ((pl.map PyData.int).take k ++ [d] ++ (pl.map PyData.int).drop (k + 1))
def flatP : List PyData := [.none, .int 0, .bool true, .str "", .str "0", .list [], .list [.int 0], .dict [], .tuple [.int 1], .tuple [.int 0, .int 2], .tuple [.int (-1)], .tuple [.bool true], .tuple [.str "0"], .tuple [.none], .tuple [.bool false]]
def lastP : List PyData := [.tuple [.tuple [.int 0]], .tuple (List.replicate 40 [PyData.int 0]).flatten, .tuple [.list [.int 0]], .tuple [.dict []], .tuple [.int 0, .list [.int 0]], .tuple [.int 0, .dict []]]
section
variable {P : Program} {w : World} {K : PySem.W.Frag} {mg : Str → Option Value} {base : Heap}
def spNoPl : Sp := fun vs H Q _ => ∃ (b p : Addr) (pl : List Int) (n : Nat), vs = [.ref b, .ref p] ∧ PotAt H b n ∧ n ≤ 100000000000 ∧ PlantAt H p pl ∧
  ∀ (H' : Hp) (v : V) (ds : List PyData), PotAt H' b (n + 1) → Bar b H H' → DP (hide H' b) v (.list ds) → (∀ d ∈ ds, BadPl d) → ds.length ≤ 32 → Q v H'
theorem ok_noPl (T : Tx K mg) : FnOk P w K mg base CX0 2 T.f__law_no_plants T.d__law_no_plants ["fount", "plant"] spNoPl := by
  refine T.F__law_no_plants.ok scLawNoPlants (fun vs H Q E h => ?_) (fun cdv A outer s H vs Q E hr h => ?_)
  · obtain ⟨b, p, pl, n, rfl, _⟩ := h
    rfl
  · obtain ⟨b, p, pl, n, rfl, hb, hn, hP, qq⟩ := h
    have nd := scLawNoPlants.nd
    have lp := hP.ok.len
    refine ⟨_, (pss_cons (ps_set (i := 2) nd rfl (.inr rfl) (pe_call (ok_sip T) (hr.mono (by omega)) (by rfl) T.g__law_sip T.F__law_sip.kp T.b__law_sip .nil pass0 (pa_cons (pv 0) (pa_cons (pe_callB (call_max2 rfl) (by rfl) T.n_max (by decide +kernel) (pa_cons pe_int (pa_cons (pe_callB call_len_seq (by rfl) T.n_len PySem.boot_len (pa_cons (pv 1) pa_nil)) pa_nil))) pa_nil))))
(pss_cons (ps_set (i := 3) nd rfl (.inl rfl) (pe_mark (pe_op op_rep (pe_lst (pa_cons (pe_op op_add (pv 2) pe_int) (pa_cons (pe_un un_neg pe_int) (pa_cons pe_non (pa_cons pe_bl (pa_cons pe_str (pa_cons (pe_tup (pa_cons pe_int pa_nil)) (pa_cons (pe_lst (pa_cons pe_int pa_nil)) (pa_cons pe_dnewK pa_nil))))))))) (pe_callTy call_int1 (by rfl) T.n_int (by decide +kernel) (pa_cons (pe_cmpR op_gt (pe_callB call_len_seq (by rfl) T.n_len PySem.boot_len (pa_cons (pv 1) pa_nil)) pe_int (nomark _)) pa_nil)))))
(pss_cons (ps_set (i := 4) nd rfl (.inl rfl) (pe_mark (pe_op op_cat (pe_lc (own := [("one", 5)]) (g := gName 5) (tt := tYes) (te := (tOp rCatT (tOp rCatT (tSl rSlT (tVar 1) tNoPart (tPart (tVar 2))) (tTup (tCons (tVar 5) tNil))) (tSl rSlT (tVar 1) (tPart (tOp (rI0 fun i j => .int (i + j)) (tVar 2) (tC (.int 1)))) tNoPart))) rfl nd (pi_list (pv 3))
(blkOk_by (N := ["fount", "plant", "at", "odd", "found", "one"]) (sc := defScope sLawNoPlants) (by decide +kernel)) (fun _ _ _ _ _ => (pg_name (i := 5) nd rfl (.inl rfl))) (fun _ _ _ _ _ => pts_nil) (fun _ _ _ _ _ => (pe_op op_catT (pe_op op_catT (pe_slice sl_tupT (pv 1) po_none (po_some (pv 2))) (pe_tup (pa_cons (pv 5) pa_nil))) (pe_slice sl_tupT (pv 1) (po_some (pe_op op_add (pv 2) pe_int)) po_none)))) (pe_lst (pa_cons (pe_callTy call_list_of (by rfl) T.n_list (by decide +kernel) (pa_cons (pv 1) pa_nil)) pa_nil)))))
(pss_cons (ps_set (i := 4) nd rfl (.inl rfl) (pe_mark (pe_op op_cat (pv 4) (pe_lst (pa_cons pe_non (pa_cons pe_int (pa_cons pe_bl (pa_cons pe_str (pa_cons pe_str (pa_cons (pe_lst pa_nil) (pa_cons (pe_lst (pa_cons pe_int pa_nil)) (pa_cons pe_dnewK (pa_cons (pe_tup (pa_cons pe_int pa_nil)) (pa_cons (pe_tup (pa_cons pe_int (pa_cons pe_int pa_nil))) (pa_cons (pe_tup (pa_cons (pe_un un_neg pe_int) pa_nil)) (pa_cons (pe_tup (pa_cons pe_bl pa_nil)) (pa_cons (pe_tup (pa_cons pe_str pa_nil)) (pa_cons (pe_tup (pa_cons pe_non pa_nil)) (pa_cons (pe_tup (pa_cons pe_bl pa_nil)) pa_nil)))))))))))))))))))
(pss_one (ps_ret (pe_mark (pe_op op_cat (pv 4) (pe_lst (pa_cons (pe_tup (pa_cons (pe_tup (pa_cons pe_int pa_nil)) pa_nil)) (pa_cons (pe_op op_repV (pe_tup (pa_cons pe_int pa_nil)) pe_int) (pa_cons (pe_tup (pa_cons (pe_lst (pa_cons pe_int pa_nil)) pa_nil)) (pa_cons (pe_tup (pa_cons pe_dnewK pa_nil)) (pa_cons (pe_tup (pa_cons pe_int (pa_cons (pe_lst (pa_cons pe_int pa_nil)) pa_nil))) (pa_cons (pe_tup (pa_cons pe_int (pa_cons pe_dnewK pa_nil))) pa_nil))))))))))))))), ?_⟩
    have el : ((pl.map V.int).length : Nat) = pl.length := List.length_map ..
    refine ⟨.ref b, rfl, .ref p, rfl, p, _, rfl, .inr hP.seq, 1, _, rfl, b, _, n, rfl, by split <;> omega, by rw [el]; split <;> omega, hb, by omega, fun r H1 r0 r1 k1 B1 O1 => ?_⟩
    rw [el] at r1
    obtain ⟨k, rfl⟩ := Int.eq_ofNat_of_zero_le r0
    have hk : k ≤ pl.length := by
      split at r1 <;> omega
    have P1 := hP.barP B1 hb
    have dP1 : DP (hide H1 b) (.ref p) (.tuple (pl.map PyData.int)) := .tup (hide_at (k1.neT P1.at_) P1.at_) (DPs.ints pl)
    have ld : (pl.map PyData.int).length = pl.length := List.length_map ..
    obtain ⟨n0, e0, l0, z0⟩ : ∃ n0 : Nat, (if decide ((0 : Int) < (((pl.map PyData.int).length : Nat) : Int)) = true then (1 : Int) else 0) = (n0 : Int) ∧ n0 ≤ 1 ∧ (n0 ≠ 0 → k < pl.length) := by
      by_cases c : 0 < pl.length
      · refine ⟨1, if_pos (decide_eq_true (by omega)), Nat.le_refl _, fun _ => ?_⟩
        split at r1 <;> omega
      · exact ⟨0, if_neg (by rw [decide_eq_true_eq]; omega), Nat.zero_le _, fun z => absurd rfl z⟩
    refine Rd.mark (d := .list (List.replicate n0 (oddP k)).flatten) (G := hide H1 b) ?_ (Same.refl _) k1.ne0 fun v2 H2 s2 d2 => ?_
    · have dP := dP1
      exact rd_repB (rd_lst (rds_cons (rd_add (rd_var rfl (.int _)) rd_int) (rds_cons rd_neg (rds_cons rd_non (rds_cons rd_bl (rds_cons rd_str (rds_cons (rd_tup (rds_cons rd_int rds_nil) (by show 1 ≤ 300; decide)) (rds_cons (rd_lst (rds_cons rd_int rds_nil) (by show 1 ≤ 300; decide)) (rds_cons rd_dic rds_nil)))))))) (by show 8 ≤ 300; decide)) (rd_intB (rd_gt (rd_lenT (rd_var rfl dP)) rd_int)) n0 e0 l0 (by show 8 ≤ 300; decide)
    have k2 := k1.same s2
    have lo : (List.replicate n0 (oddP k)).flatten.length ≤ 8 := by
      rcases (show n0 = 0 ∨ n0 = 1 by omega) with rfl | rfl
      · exact Nat.zero_le _
      · exact Nat.le_refl 8
    refine Rd.mark (d := .list ((List.replicate n0 (oddP k)).flatten.map (putP pl k) ++ [.list (pl.map PyData.int)])) (G := hide H2 b) ?_ (Same.refl _) k2.ne0 fun v3 H3 s3 d3 => ?_
    · have dP := dP1.same (hide_same s2 b)
      refine rd_cat (rd_lc (rd_var rfl d2) (by omega) (fun _ => rfl) fun d hd D v G' s hv => ?_) (rd_lst (rds_cons (rd_lstOf (rd_var rfl dP)) rds_nil) (by show 1 ≤ 300; decide)) (by rw [List.length_map]; show _ + 1 ≤ _; omega)
      exact rd_catT (rd_catT (rd_toT (rd_var rfl (dP.same s)) rfl rfl) (rd_tup (rds_cons (rd_var rfl hv) rds_nil) (by show 1 ≤ 300; decide)) (by rw [List.length_take]; show _ + 1 ≤ _; omega)) (rd_nextT (rd_var rfl (dP.same s)) rfl rfl) (by rw [List.length_append, List.length_take, List.length_drop]; show _ + 1 + _ ≤ _; omega)
    have k3 := k2.same s3
    refine Rd.mark (d := .list ((List.replicate n0 (oddP k)).flatten.map (putP pl k) ++ [.list (pl.map PyData.int)] ++ flatP)) (G := hide H3 b) ?_ (Same.refl _) k3.ne0 fun v4 H4 s4 d4 => ?_
    · exact rd_cat (rd_var rfl d3) (rd_lst (rds_cons rd_non (rds_cons rd_int (rds_cons rd_bl (rds_cons rd_str (rds_cons rd_str (rds_cons (rd_lst rds_nil (by show 0 ≤ 300; decide)) (rds_cons (rd_lst (rds_cons rd_int rds_nil) (by show 1 ≤ 300; decide)) (rds_cons rd_dic (rds_cons (rd_tup (rds_cons rd_int rds_nil) (by show 1 ≤ 300; decide)) (rds_cons (rd_tup (rds_cons rd_int (rds_cons rd_int rds_nil)) (by show 2 ≤ 300; decide)) (rds_cons (rd_tup (rds_cons rd_neg rds_nil) (by show 1 ≤ 300; decide)) (rds_cons (rd_tup (rds_cons rd_bl rds_nil) (by show 1 ≤ 300; decide)) (rds_cons (rd_tup (rds_cons rd_str rds_nil) (by show 1 ≤ 300; decide)) (rds_cons (rd_tup (rds_cons rd_non rds_nil) (by show 1 ≤ 300; decide)) (rds_cons (rd_tup (rds_cons rd_bl rds_nil) (by show 1 ≤ 300; decide)) rds_nil))))))))))))))) (by show 15 ≤ 300; decide)) (by rw [List.length_append, List.length_map]; show _ + 1 + 15 ≤ _; omega)
    have k4 := k3.same s4
    refine Rd.mark (d := .list ((List.replicate n0 (oddP k)).flatten.map (putP pl k) ++ [.list (pl.map PyData.int)] ++ flatP ++ lastP)) (G := hide H4 b) ?_ (Same.refl _) k4.ne0 fun v5 H5 s5 d5 => ?_
    · exact rd_cat (rd_var rfl d4) (rd_lst (rds_cons (rd_tup (rds_cons (rd_tup (rds_cons rd_int rds_nil) (by show 1 ≤ 300; decide)) rds_nil) (by show 1 ≤ 300; decide)) (rds_cons (rd_repT (rd_tup (rds_cons rd_int rds_nil) (by show 1 ≤ 300; decide)) rd_int 40 rfl (by decide) (by decide) (by decide) (by show 1 ≤ 300; decide)) (rds_cons (rd_tup (rds_cons (rd_lst (rds_cons rd_int rds_nil) (by show 1 ≤ 300; decide)) rds_nil) (by show 1 ≤ 300; decide)) (rds_cons (rd_tup (rds_cons rd_dic rds_nil) (by show 1 ≤ 300; decide)) (rds_cons (rd_tup (rds_cons rd_int (rds_cons (rd_lst (rds_cons rd_int rds_nil) (by show 1 ≤ 300; decide)) rds_nil)) (by show 2 ≤ 300; decide)) (rds_cons (rd_tup (rds_cons rd_int (rds_cons rd_dic rds_nil)) (by show 2 ≤ 300; decide)) rds_nil)))))) (by show 6 ≤ 300; decide)) (by rw [List.length_append, List.length_append, List.length_map]; show _ + 1 + 15 + 6 ≤ _; omega)
    refine qq H5 v5 _ (k4.same s5) (B1.trans (Same.bar (s2.trans (s3.trans (s4.trans s5))))) d5 (fun d hd => ?_) (by rw [List.length_append, List.length_append, List.length_append, List.length_map]; show _ + 1 + 15 + 6 ≤ _; omega)
    have sm : ∀ x ∈ pl, x.natAbs < 10 ^ 50 := fun x hx => by
      obtain ⟨i, hi⟩ := List.mem_iff_getElem?.mp hx
      have lt := (List.getElem?_eq_some_iff.mp hi).1
      obtain ⟨h0, h1⟩ := hP.ok.ok i x hi
      omega
    rcases List.mem_append.mp hd with hd | hd
    · rcases List.mem_append.mp hd with hd | hd
      · rcases List.mem_append.mp hd with hd | hd
        · obtain ⟨o, ho, rfl⟩ := List.mem_map.mp hd
          have hn : n0 ≠ 0 := fun z => by
            subst z
            cases ho
          obtain rfl : n0 = 1 := by omega
          have ho : o ∈ oddP k := by simpa using ho
          have lk := z0 hn
          unfold putP
          rw [← List.map_take, ← List.map_drop]
          have go : ∀ o : PyData, okPy 0 (k : Int) o = false → NiceQ o → BadPl (.tuple ((pl.take k).map PyData.int ++ [o] ++ (pl.drop (k + 1)).map PyData.int)) := fun o bad nice =>
            badPl_odd hP.ok (by omega) (fun x hx => List.mem_of_mem_drop hx) (by rw [List.length_drop]; omega) bad nice (by rw [List.length_take, List.length_drop]; omega)
          have cs : o = .int ((k : Int) + 1) ∨ o = .int (-1) ∨ o = .none ∨ o = .bool true ∨ o = .str "0" ∨ o = .tuple [.int 0] ∨ o = .list [.int 0] ∨ o = .dict [] := by simpa [oddP] using ho
          rcases cs with rfl | rfl | rfl | rfl | rfl | rfl | rfl | rfl
          · refine go _ ?_ (niceQ_int (by omega))
            show (decide (0 ≤ (k : Int) + 1) && decide ((k : Int) + 1 ≤ k)) = false
            rw [Bool.and_eq_false_iff]
            exact .inr (decide_eq_false (by omega))
          · exact go _ rfl (niceQ_of (by decide))
          · exact go _ rfl (niceQ_of (by decide))
          · exact go _ rfl (niceQ_of (by decide))
          · exact go _ rfl (niceQ_of (by decide))
          · exact go _ rfl (niceQ_of (by decide))
          · exact go _ rfl (niceQ_of (by decide))
          · exact go _ rfl (niceQ_of (by decide))
        · rw [List.mem_singleton.mp hd]
          exact ⟨rfl, ⟨(nice_lst (nice_ints sm) (L := 60) (by rw [List.length_map]; omega)).mono, by simp only [PyData.bulk, bulkAll_ints]; omega⟩, fun ds e => by cases e⟩
      · exact badPl_of (List.all_eq_true.mp (show flatP.all badPlB = true by decide +kernel) d hd)
    · exact badPl_of (List.all_eq_true.mp (show lastP.all badPlB = true by decide +kernel) d hd)
end
end PT


set_option maxHeartbeats 2000000
/-! values that are no stocks (fount) -/
namespace PT
open PySem PySem.Spec PyProof.Rows L2
def intD (ss : List Int) : List PyData := ss.map PyData.int
theorem intD_len (ss : List Int) : (intD ss).length = ss.length := List.length_map ..
def frontS (ss : List Int) : List PyData := (intD ss).take ((intD ss).length - 1)
theorem front_eq (ss : List Int) : frontS ss = (ss.take (ss.length - 1)).map PyData.int := by
  unfold frontS
  rw [intD_len, List.map_take]
  rfl
def bad1 (ss : List Int) : List PyData := [.none, .int 0, .bool true, .str "", .list [], .dict [], .list (intD ss), .tuple (intD ss ++ [.int (mxv ss + 1)]), .tuple (frontS ss), .tuple (frontS ss ++ [.str "1"])]
def bad2 (ss : List Int) : List PyData := [.tuple (frontS ss ++ [.none]), .tuple (frontS ss ++ [.bool true]), .tuple (frontS ss ++ [.bool false]), .tuple (frontS ss ++ [.tuple [.int 1]]), .tuple [.tuple (intD ss)]]
def bad3 (ss : List Int) : List PyData := [.tuple (frontS ss ++ [.list [.int 1]]), .tuple (frontS ss ++ [.dict []])]
def bad3b (ss : List Int) (n : Nat) : List PyData := (List.replicate n [PyData.tuple (frontS ss ++ (intD ss).take 1)]).flatten
def bad4 (ss : List Int) : List PyData := [.tuple (intD ss ++ (intD ss).take 1), .tuple (intD ss ++ (List.replicate 2 ((intD ss).drop ((intD ss).length - 1))).flatten), .tuple (List.replicate (intD ss).length [PyData.list []]).flatten, .tuple (List.replicate (intD ss).length [PyData.dict []]).flatten]
def odd5 : List PyData := [.none, .bool true, .str "1", .tuple [.int 1], .list [.int 1], .dict []]
def bad5 (ss : List Int) (k : Nat) : List PyData := odd5.map (putP ss k)
def badUp (ss : List Int) (n k : Nat) : List PyData := bad1 ss ++ bad2 ss ++ bad3 ss ++ bad3b ss n ++ bad4 ss ++ bad5 ss k
theorem bad3b_len (ss : List Int) {n : Nat} (h : n ≤ 1) : (bad3b ss n).length ≤ 1 := by
  rcases (show n = 0 ∨ n = 1 by omega) with rfl | rfl
  · exact Nat.zero_le _
  · exact Nat.le_refl 1
theorem badUp_len (ss : List Int) {n : Nat} (k : Nat) (h : n ≤ 1) : (badUp ss n k).length ≤ 28 ∧ 1 ≤ (badUp ss n k).length := by
  have := bad3b_len ss h
  unfold badUp
  rw [List.length_append, List.length_append, List.length_append, List.length_append, List.length_append]
  show 10 + 5 + 2 + _ + 4 + 6 ≤ 28 ∧ 1 ≤ 10 + 5 + 2 + _ + 4 + 6
  omega
theorem rep_flat (x : PyData) : ∀ m : Nat, (List.replicate m [x]).flatten = List.replicate m x
  | 0 => rfl
  | m + 1 => by rw [List.replicate_succ, List.flatten_cons, rep_flat x m]; rfl
theorem bulk_reps (x : PyData) (h : x.bulk = 0) : ∀ m : Nat, PyData.bulkAll (List.replicate m x) = m
  | 0 => rfl
  | m + 1 => by
    rw [List.replicate_succ]
    simp only [PyData.bulkAll]
    rw [bulk_reps x h m, h]
    omega
/-- a tuple of one value that is no number, again and again -/
theorem badSt_reps {m n : Nat} {x : PyData} (h1 : 1 ≤ n) (h2 : n ≤ 40) (nx : Nice 170 2 x) (h0 : x.bulk = 0) (no : ∀ i : Int, x ≠ .int i) : BadSt m (.tuple (List.replicate n [x]).flatten) := by
  rw [rep_flat]
  refine ⟨⟨(nice_tup (L := 60) (k := 2) (W := 170) (fun d hd => ?_) (by rw [List.length_replicate]; omega)).mono, by simp only [PyData.bulk]; rw [bulk_reps x h0]; omega⟩, fun ds e => ?_⟩
  · rw [List.eq_of_mem_replicate hd]
    exact nx
  · cases e
    refine ⟨by rw [List.length_replicate]; omega, fun ns e _ => ?_⟩
    have hm : x ∈ ns.map PyData.int := by
      rw [← e]
      exact List.mem_replicate.mpr ⟨by omega, rfl⟩
    obtain ⟨i, _, ei⟩ := List.mem_map.mp hm
    exact absurd ei.symm (no i)
theorem bad_up {ss : List Int} {n k : Nat} (h1 : 1 ≤ ss.length) (h40 : ss.length ≤ 40) (sm : ∀ x ∈ ss, -(10 ^ 36) ≤ x ∧ x ≤ 10 ^ 36) (n1 : n ≤ 1) (hn : n ≠ 0 → 2 ≤ ss.length) (hk : k < ss.length) : ∀ d ∈ badUp ss n k, BadSt ss.length d := by
  have s50 : ∀ x ∈ ss, x.natAbs < 10 ^ 50 := fun x hx => by
    have := sm x hx
    omega
  have ss0 : ss ≠ [] := fun e => by rw [e] at h1; cases h1
  have mx : (mxv ss + 1).natAbs < 10 ^ 50 := by
    have := sm _ (mxv_mem ss0).1
    omega
  have fr : ∀ d : PyData, NiceQ d → (∀ i : Int, d ≠ .int i) → BadSt ss.length (.tuple (frontS ss ++ [d])) := fun d nc no => by
    have z := badSt_odd (m := ss.length) (as := ss.take (ss.length - 1)) (bs := []) (d := d) (fun x hx => s50 x (List.mem_of_mem_take hx)) (fun _ z => by cases z) nc (by rw [List.length_take]; show _ + 0 ≤ _; omega) no
    rw [List.map_nil, List.append_nil, ← front_eq] at z
    exact z
  intro d hd
  unfold badUp at hd
  rcases List.mem_append.mp hd with hd | hd
  · rcases List.mem_append.mp hd with hd | hd
    · rcases List.mem_append.mp hd with hd | hd
      · rcases List.mem_append.mp hd with hd | hd
        · rcases List.mem_append.mp hd with hd | hd
          · have cs : d = .none ∨ d = .int 0 ∨ d = .bool true ∨ d = .str "" ∨ d = .list [] ∨ d = .dict [] ∨ d = .list (intD ss) ∨ d = .tuple (intD ss ++ [.int (mxv ss + 1)]) ∨ d = .tuple (frontS ss) ∨ d = .tuple (frontS ss ++ [.str "1"]) := by simpa [bad1] using hd
            rcases cs with rfl | rfl | rfl | rfl | rfl | rfl | rfl | rfl | rfl | rfl
            · exact badSt_flat (by decide) fun _ e => by cases e
            · exact badSt_flat (by decide) fun _ e => by cases e
            · exact badSt_flat (by decide) fun _ e => by cases e
            · exact badSt_flat (by decide) fun _ e => by cases e
            · exact badSt_flat (by decide) fun _ e => by cases e
            · exact badSt_flat (by decide) fun _ e => by cases e
            · exact ⟨⟨(nice_lst (nice_ints s50) (L := 60) (by rw [List.length_map]; omega)).mono, by simp only [PyData.bulk, intD, bulkAll_ints]; omega⟩, fun ds e => by cases e⟩
            · have z := badSt_len (m := ss.length) (as := ss ++ [mxv ss + 1]) (fun x hx => (List.mem_append.mp hx).elim (s50 x) fun y => by rw [List.mem_singleton.mp y]; exact mx) (by rw [List.length_append]; show _ + 1 ≤ _; omega) (by rw [List.length_append]; show _ + 1 ≠ _; omega)
              rw [List.map_append] at z
              exact z
            · rw [front_eq]
              exact badSt_len (fun x hx => s50 x (List.mem_of_mem_take hx)) (by rw [List.length_take]; omega) (by rw [List.length_take]; omega)
            · exact fr _ (niceQ_of (by decide)) fun i e => by cases e
          · have cs : d = .tuple (frontS ss ++ [.none]) ∨ d = .tuple (frontS ss ++ [.bool true]) ∨ d = .tuple (frontS ss ++ [.bool false]) ∨ d = .tuple (frontS ss ++ [.tuple [.int 1]]) ∨ d = .tuple [.tuple (intD ss)] := by simpa [bad2] using hd
            rcases cs with rfl | rfl | rfl | rfl | rfl
            · exact fr _ (niceQ_of (by decide)) fun i e => by cases e
            · exact fr _ (niceQ_of (by decide)) fun i e => by cases e
            · exact fr _ (niceQ_of (by decide)) fun i e => by cases e
            · exact fr _ (niceQ_of (by decide)) fun i e => by cases e
            · refine ⟨⟨(nice_tup (L := 1) (k := 1) (W := 60 * 171) (fun d hd => ?_) (by show 1 ≤ 1; decide)).mono, by simp only [PyData.bulk, PyData.bulkAll, intD, bulkAll_ints]; omega⟩, fun ds e => ?_⟩
              · rw [List.mem_singleton.mp hd]
                exact (nice_tup (nice_ints s50) (L := 60) (by rw [List.length_map]; omega)).mono
              · cases e
                refine ⟨by show 1 ≤ 250; decide, fun ns e _ => ?_⟩
                rcases ns with _ | ⟨n0, r⟩
                · cases e
                · cases e
        · have cs : d = .tuple (frontS ss ++ [.list [.int 1]]) ∨ d = .tuple (frontS ss ++ [.dict []]) := by simpa [bad3] using hd
          rcases cs with rfl | rfl
          · exact fr _ (niceQ_of (by decide)) fun i e => by cases e
          · exact fr _ (niceQ_of (by decide)) fun i e => by cases e
      · have n0 : n ≠ 0 := fun z => by
          subst z
          cases hd
        obtain rfl : n = 1 := by omega
        have hd : d = .tuple (frontS ss ++ (intD ss).take 1) := by simpa [bad3b] using hd
        subst hd
        have l2 := hn n0
        have z := badSt_two (m := ss.length) (as := ss.take (ss.length - 1) ++ ss.take 1) (fun x hx => s50 x ((List.mem_append.mp hx).elim List.mem_of_mem_take List.mem_of_mem_take)) (by rw [List.length_append, List.length_take, List.length_take]; omega) (fun nn => ?_)
        · rw [List.map_append, ← front_eq, List.map_take] at z
          exact z
        · rcases ss with _ | ⟨x, r⟩
          · cases h1
          · rcases r with _ | ⟨y, r⟩
            · exact absurd l2 (by show ¬ 2 ≤ 1; decide)
            · have := List.nodup_append.mp nn
              exact this.2.2 x (by simp) x (by simp) rfl
    · have cs : d = .tuple (intD ss ++ (intD ss).take 1) ∨ d = .tuple (intD ss ++ (List.replicate 2 ((intD ss).drop ((intD ss).length - 1))).flatten) ∨ d = .tuple (List.replicate (intD ss).length [PyData.list []]).flatten ∨ d = .tuple (List.replicate (intD ss).length [PyData.dict []]).flatten := by simpa [bad4] using hd
      rcases cs with rfl | rfl | rfl | rfl
      · have z := badSt_len (m := ss.length) (as := ss ++ ss.take 1) (fun x hx => s50 x ((List.mem_append.mp hx).elim id List.mem_of_mem_take)) (by rw [List.length_append, List.length_take]; omega) (by rw [List.length_append, List.length_take]; omega)
        rw [List.map_append, List.map_take] at z
        exact z
      · have z := badSt_len (m := ss.length) (as := ss ++ (ss.drop (ss.length - 1) ++ ss.drop (ss.length - 1))) (fun x hx => s50 x ((List.mem_append.mp hx).elim id fun h => (List.mem_append.mp h).elim List.mem_of_mem_drop List.mem_of_mem_drop)) (by rw [List.length_append, List.length_append, List.length_drop]; omega) (by rw [List.length_append, List.length_append, List.length_drop]; omega)
        rw [List.map_append, List.map_append, List.map_drop] at z
        rw [intD_len, show (List.replicate 2 ((intD ss).drop (ss.length - 1))).flatten = (intD ss).drop (ss.length - 1) ++ (intD ss).drop (ss.length - 1) by simp [List.replicate]]
        exact z
      · exact badSt_reps (by rw [intD_len]; exact h1) (by rw [intD_len]; exact h40) (niceV170 (by decide)) rfl fun i e => by cases e
      · exact badSt_reps (by rw [intD_len]; exact h1) (by rw [intD_len]; exact h40) (niceV170 (by decide)) rfl fun i e => by cases e
  · obtain ⟨o, ho, rfl⟩ := List.mem_map.mp hd
    have go : ∀ o : PyData, NiceQ o → (∀ i : Int, o ≠ .int i) → BadSt ss.length (putP ss k o) := fun o nice no => by
      unfold putP
      rw [← List.map_take, ← List.map_drop]
      exact badSt_odd (fun x hx => s50 x (List.mem_of_mem_take hx)) (fun x hx => s50 x (List.mem_of_mem_drop hx)) nice (by rw [List.length_take, List.length_drop]; omega) no
    have cs : o = .none ∨ o = .bool true ∨ o = .str "1" ∨ o = .tuple [.int 1] ∨ o = .list [.int 1] ∨ o = .dict [] := by simpa [odd5] using ho
    rcases cs with rfl | rfl | rfl | rfl | rfl | rfl
    · exact go _ (niceQ_of (by decide)) fun i e => by cases e
    · exact go _ (niceQ_of (by decide)) fun i e => by cases e
    · exact go _ (niceQ_of (by decide)) fun i e => by cases e
    · exact go _ (niceQ_of (by decide)) fun i e => by cases e
    · exact go _ (niceQ_of (by decide)) fun i e => by cases e
    · exact go _ (niceQ_of (by decide)) fun i e => by cases e
/-- one number of a stock twice, by an index that may be -1 -/
theorem bad_twice {ss : List Int} {k j : Nat} (h40 : ss.length ≤ 40) (sm : ∀ x ∈ ss, -(10 ^ 36) ≤ x ∧ x ≤ 10 ^ 36) (hk : k < ss.length) (hj : j < ss.length) (ne : j ≠ k) : BadSt ss.length (putP ss k (.int ss[j])) := by
  have s50 : ∀ x ∈ ss, x.natAbs < 10 ^ 50 := fun x hx => by
    have := sm x hx
    omega
  have e : ss.set k ss[j] = ss.take k ++ ss[j] :: ss.drop (k + 1) := List.set_eq_take_append_cons_drop.trans (if_pos hk)
  have z := badSt_two (m := ss.length) (as := ss.set k ss[j]) (fun x hx => s50 x ((List.mem_or_eq_of_mem_set hx).elim id fun e => by rw [e]; exact List.getElem_mem hj)) (by rw [List.length_set]; omega) (set_two hj hk ne)
  rw [e, List.map_append, List.map_cons, List.map_take, List.map_drop] at z
  unfold putP
  rw [List.append_assoc]
  exact z
end PT


set_option maxHeartbeats 4000000
/-! plants out of a fount -/
namespace PT
open PySem PySem.Spec PyProof.Rows L2
section
variable {P : Program} {w : World} {K : PySem.W.Frag} {mg : Str → Option Value} {base : Heap}
def spGrown : Sp := fun vs H Q _ => ∃ (b : Addr) (m : Int) (n : Nat), vs = [.ref b, .int m] ∧ 1 ≤ m ∧ m ≤ 40 ∧ PotAt H b n ∧ n ≤ 100000000000 ∧ ∀ (H' : Hp) (p : Addr) (pl : List Int), PotAt H' b (n + 100) → Bar b H H' → H p = none → PlantAt H' p pl → pl.length + 1 ≤ m → Q (.ref p) H'
theorem ok_grown (T : Tx K mg) : FnOk P w K mg base CX0 2 T.f__law_grown T.d__law_grown ["fount", "most"] spGrown := by
  refine T.F__law_grown.ok scLawGrown (fun vs H Q E h => ?_) (fun cdv A outer s H vs Q E hr h => ?_)
  · obtain ⟨b, m, n, rfl, _⟩ := h
    rfl
  · obtain ⟨b, m, n, rfl, hm1, hm2, hb, hn, q⟩ := h
    have nd := scLawGrown.nd
    refine ⟨_, (pss_cons (ps_set (i := 2) nd rfl (.inl rfl) (pe_ix ix_list (pe_lst (pa_cons (pe_op op_add pe_int (pe_call (ok_sip T) (hr.mono (by omega)) (by rfl) T.g__law_sip T.F__law_sip.kp T.b__law_sip .nil pass0 (pa_cons (pv 0) (pa_cons (pv 1) pa_nil)))) (pa_cons (pv 1) (pa_cons (pe_op op_add pe_int (pe_call (ok_sip T) (hr.mono (by omega)) (by rfl) T.g__law_sip T.F__law_sip.kp T.b__law_sip .nil pass0 (pa_cons (pv 0) (pa_cons (pe_callB (call_min2 rfl) (by rfl) T.n_min (by decide +kernel) (pa_cons (pv 1) (pa_cons pe_int pa_nil))) pa_nil)))) pa_nil)))) (pe_call (ok_sip T) (hr.mono (by omega)) (by rfl) T.g__law_sip T.F__law_sip.kp T.b__law_sip .nil pass0 (pa_cons (pv 0) (pa_cons pe_int pa_nil))) (fun _ _ => rfl)))
(pss_cons (ps_par (i := 3) (j := 4) rfl nd rfl rfl (by decide) rfl rfl (pa_cons (pe_call (ok_sip T) (hr.mono (by omega)) (by rfl) T.g__law_sip T.F__law_sip.kp T.b__law_sip .nil pass0 (pa_cons (pv 0) (pa_cons pe_int pa_nil))) (pa_cons (pe_lst pa_nil) pa_nil)) (by rfl))
(pss_cons (ps_for PassesOwn.never rfl (pi_range2 (by rfl) T.n_range (pa_cons pe_int (pa_cons (pv 2) pa_nil))) (pg_name (i := 5) nd rfl (.inl rfl))
(pss_cons (ps_set (i := 6) nd rfl (.inl rfl) (pe_call (ok_sip T) (hr.mono (by omega)) (by rfl) T.g__law_sip T.F__law_sip.kp T.b__law_sip .nil pass0 (pa_cons (pv 0) (pa_cons (pv 5) pa_nil))))
(pss_one (ps_expr (pe_bm PySem.F.plainAttrs_list PySem.F.slot_list_append PySem.F.type_list_append mt_append (pv 4) (pa_cons (pe_ix ix_list (pe_lst (pa_cons (pe_op op_sub (pv 5) pe_int) (pa_cons pe_int (pa_cons (pe_callB (call_max2 rfl) (by rfl) T.n_max (by decide +kernel) (pa_cons pe_int (pa_cons (pe_op op_sub (pv 5) pe_int) pa_nil))) (pa_cons (pe_op op_fdiv (pe_op op_sub (pv 5) pe_int) pe_int) (pa_cons (pv 6) pa_nil)))))) (pv 3) (fun _ _ => rfl)) pa_nil))))))
(pss_one (ps_ret (pe_callTy call_tuple_of (by rfl) T.n_tuple (by decide +kernel) (pa_cons (pv 4) pa_nil))))))), ?_⟩
    obtain ⟨m5, em5, m51, m52⟩ : ∃ M : Int, (if (5 : Int) < m then (5 : Int) else m) = M ∧ 1 ≤ M ∧ M ≤ m := ⟨_, rfl, by split <;> omega, by split <;> omega⟩
    refine ⟨.ref b, rfl, .int m, rfl, b, m, n, rfl, by omega, by omega, hb, by omega, fun r1 H1 a0 a1 k1 B1 O1 => ⟨_, _, rfl, rfl, .int m, rfl, .ref b, rfl, .int m, rfl, _, _, rfl, b, m5, n + 1, congrArg (fun z => [V.ref b, V.int z]) em5, by omega, by omega, k1, by omega, fun r2 H2 c0 c1 k2 B2 O2 => ⟨_, _, rfl, rfl, (by show 3 ≤ sizeLine; decide), fun z nz => ?_⟩⟩⟩
    have zb : z ≠ b := k2.some nz
    refine ⟨.ref b, rfl, b, 3, n + 2, rfl, by decide, by decide, k2.same (same_new nz), by omega, fun r3 H3 d0 d1 k3 B3 O3 => ?_⟩
    obtain ⟨v, ev, cv⟩ := three_at (u0 := .int (1 + r1)) (u1 := .int m) (u2 := .int (1 + r2)) d0 d1
    obtain ⟨M, rfl, M1, M2⟩ : ∃ W : Int, v = .int W ∧ 1 ≤ W ∧ W ≤ m := by
      rcases cv with rfl | rfl | rfl
      · exact ⟨_, rfl, by omega, by omega⟩
      · exact ⟨_, rfl, by omega, by omega⟩
      · exact ⟨_, rfl, by omega, by omega⟩
    refine ⟨z, _, r3, .int M, rfl, rfl, .inl (.inl (B3 _ _ zb upd_same)), ev, .ref b, rfl, b, 5, n + 3, rfl, by decide, by decide, k3, by omega, fun way H4 f0 f1 k4 B4 O4 => ⟨Nat.zero_le _, fun l nl => ⟨_, _, rfl, ?_⟩⟩⟩
    have B5' : Bar b H H4 := (B1.trans B2).trans ((Same.bar (same_new nz)).trans (B3.trans B4))
    have lb : l ≠ b := k4.some nl
    have l0 : H l = none := by
      cases e : H l with
      | none => rfl
      | some o => rw [B5' _ _ lb e] at nl; cases nl
    refine ⟨.int M, rfl, 1, M, rfl, ⟨by decide, by decide, by omega, by omega⟩, ?_⟩
    refine for_range (lo := 1) (n := (M - 1).toNat) (fun i σ H' => ∃ (y5 y6 : Option V) (pl : List Int), σ = [some (.ref b), some (.int m), some (.int M), some (.int way), some (.ref l), y5, y6] ∧ PotAt H' b (n + 4 + i) ∧ Bar b H H' ∧ H' l = some (.lst (pl.map V.int)) ∧ pl.length = i ∧ Plant pl)
      ⟨none, none, [], rfl, k4.same (same_new nl), B5'.trans (Same.bar (same_new nl)), upd_same, rfl, ⟨Nat.zero_le _, fun i x e => by simp at e⟩⟩ (fun i σ H' hi p1 => ?_) (fun σ H' p1 => ?_)
    · obtain ⟨y5, y6, pl, rfl, hB, sb, el, ln, hP⟩ := p1
      have hi2 : i ≤ 38 := by omega
      refine ⟨.ref b, rfl, .int (1 + ((i : Nat) : Int)), rfl, b, _, n + 4 + i, rfl, by omega, by omega, hB, by omega, fun r5 H5 g0 g1 k5 B5 O5 => ?_⟩
      have el5 := B5 _ _ lb el
      refine ⟨.ref l, rfl, .inl ⟨rfl, _, .inl (.inl el5)⟩, .int (1 + ((i : Nat) : Int)), rfl, _, 1, rfl, rfl, .int (1 + ((i : Nat) : Int)), rfl, _, 2, rfl, rfl, _, _, rfl, .int (1 + ((i : Nat) : Int)), rfl, _, 1, rfl, rfl, _, 2, rfl, rfl, ⟨by decide, by decide⟩, .int r5, rfl, (by show 5 ≤ sizeLine; decide), fun t nt => ?_⟩
      obtain ⟨v, ev, cv⟩ := five_at (u0 := .int (1 + ((i : Nat) : Int) - 1)) (u1 := .int 0) (u2 := .int (if 1 + ((i : Nat) : Int) - 2 > 0 then 1 + ((i : Nat) : Int) - 2 else 0)) (u3 := .int ((1 + ((i : Nat) : Int) - 1) / 2)) (u4 := .int r5) f0 f1
      obtain ⟨u, rfl, u0, u1⟩ : ∃ u : Int, v = .int u ∧ 0 ≤ u ∧ u ≤ i := by
        rcases cv with rfl | rfl | rfl | rfl | rfl
        · exact ⟨_, rfl, by omega, by omega⟩
        · exact ⟨_, rfl, by omega, by omega⟩
        · refine ⟨_, rfl, ?_, ?_⟩ <;> split <;> omega
        · exact ⟨_, rfl, by omega, by omega⟩
        · exact ⟨_, rfl, by omega, by omega⟩
      have tb : t ≠ b := k5.some nt
      refine ⟨.int way, rfl, t, _, way, .int u, rfl, rfl, .inl (.inl upd_same), ev, l, _, _, rfl, rfl, upd_at el5 nt, ?_, ?_⟩
      · rw [List.length_map, ln]
        exact small300 (by omega)
      · refine ⟨_, _, pl ++ [u], rfl, ?_, ?_, ?_, ?_, hP.snoc (by omega) (by omega) (by omega)⟩
        · obtain ⟨x, y, z, k7, k8, k9, k10, k11⟩ := k5.same (same_new nt)
          exact ⟨x, y, z, by rw [upd_ne (Ne.symm lb)]; exact k7, k8, k9, k10, by omega⟩
        · intro c o nc hc
          rw [upd_ne (ne_of_none hc l0)]
          exact same_new nt _ _ (B5 _ _ nc (sb c o nc hc))
        · rw [upd_same, List.map_append]
          rfl
        · rw [List.length_append, ln]
          rfl
    · obtain ⟨y5, y6, pl, rfl, hB, sb, el, ln, hP⟩ := p1
      refine ⟨.ref l, rfl, l, _, rfl, .inl ⟨.inl (.inl el), fun p np => ?_⟩⟩
      have p0 : H p = none := sb.freeP hB np
      exact q _ p pl ((hB.same (same_new np)).mono (by omega)) (sb.trans (Same.bar (same_new np))) p0 ⟨upd_same, hP⟩ (by omega)
end
end PT


set_option maxHeartbeats 4000000
/-! stocks out of a fount -/
namespace PT
open PySem PySem.Spec PyProof.Rows L2
theorem six_at {u0 u1 u2 u3 u4 u5 : V} {r : Int} (h0 : 0 ≤ r) (h6 : r < 6) : ∃ v, atI [u0, u1, u2, u3, u4, u5] r = some v ∧ (v = u0 ∨ v = u1 ∨ v = u2 ∨ v = u3 ∨ v = u4 ∨ v = u5) := by
  have c : r = 0 ∨ r = 1 ∨ r = 2 ∨ r = 3 ∨ r = 4 ∨ r = 5 := by omega
  rcases c with rfl | rfl | rfl | rfl | rfl | rfl
  · exact ⟨_, rfl, .inl rfl⟩
  · exact ⟨_, rfl, .inr (.inl rfl)⟩
  · exact ⟨_, rfl, .inr (.inr (.inl rfl))⟩
  · exact ⟨_, rfl, .inr (.inr (.inr (.inl rfl)))⟩
  · exact ⟨_, rfl, .inr (.inr (.inr (.inr (.inl rfl))))⟩
  · exact ⟨_, rfl, .inr (.inr (.inr (.inr (.inr rfl))))⟩
/-- different numbers, none of them great -/
structure NumsOk (m : Nat) (ns : List Int) : Prop where
  len : ns.length = m
  nd : ns.Nodup
  sm : ∀ x ∈ ns, -(10 ^ 36) ≤ x ∧ x ≤ 10 ^ 36
theorem nums_row {m : Nat} {l s : Int} (hs : 1 ≤ s) (h0 : -(10 ^ 36) ≤ l) (h1 : ∀ i : Nat, i < m → l + (i : Int) * s ≤ 10 ^ 36) : NumsOk m ((List.range m).map fun i : Nat => l + (0 + (i : Int)) * s) := by
  refine ⟨by rw [List.length_map, List.length_range], ?_, fun x hx => ?_⟩
  · rw [List.Nodup, List.pairwise_map]
    refine List.nodup_range.imp fun {a b} ne e => ne ?_
    have z : (0 + (a : Int)) * s = (0 + (b : Int)) * s := by omega
    have y := Int.eq_of_mul_eq_mul_right (by omega : s ≠ 0) z
    omega
  · obtain ⟨i, hi, rfl⟩ := List.mem_map.mp hx
    have hi := List.mem_range.mp hi
    have z := h1 i hi
    have y : 0 ≤ (i : Int) * s := Int.mul_nonneg (by omega) (by omega)
    rw [Int.zero_add]
    omega
section
variable {P : Program} {w : World} {K : PySem.W.Frag} {mg : Str → Option Value} {base : Heap}
def spFilled : Sp := fun vs H Q _ => ∃ (b p : Addr) (pl : List Int) (n : Nat), vs = [.ref b, .ref p] ∧ PotAt H b n ∧ n ≤ 10000000000 ∧ PlantAt H p pl ∧ ∀ (H' : Hp) (q : Addr) (ss : List Int), PotAt H' b (n + 200) → Bar b H H' → H q = none → H' q = some (.tup (ss.map V.int)) → StockOk pl ss → Q (.ref q) H'
theorem ok_filled (T : Tx K mg) : FnOk P w K mg base CX0 3 T.f__law_filled T.d__law_filled ["fount", "plant"] spFilled := by
  refine T.F__law_filled.ok scLawFilled (fun vs H Q E h => ?_) (fun cdv A outer s H vs Q E hr h => ?_)
  · obtain ⟨b, p, pl, n, rfl, _⟩ := h
    rfl
  · obtain ⟨b, p, pl, n, rfl, hb, hn, hP, qq⟩ := h
    have nd := scLawFilled.nd
    have lp := hP.ok.len
    refine ⟨_, (pss_cons (ps_asg (pe_tup (pa_cons (pe_op op_add (pe_callB call_len_seq (by rfl) T.n_len PySem.boot_len (pa_cons (pv 1) pa_nil)) pe_int) (pa_cons (pe_call (ok_sip T) (hr.mono (by omega)) (by rfl) T.g__law_sip T.F__law_sip.kp T.b__law_sip .nil pass0 (pa_cons (pv 0) (pa_cons pe_int pa_nil))) (pa_cons (pe_call (ok_sip T) (hr.mono (by omega)) (by rfl) T.g__law_sip T.F__law_sip.kp T.b__law_sip .nil pass0 (pa_cons (pv 0) (pa_cons pe_int pa_nil))) pa_nil)))) (pg_tup (by rfl) (pgs_cons (pg_name (i := 2) nd rfl (.inl rfl)) (pgs_cons (pg_name (i := 3) nd rfl (.inr rfl)) (pgs_cons (pg_name (i := 4) nd rfl (.inl rfl)) pgs_nil)))))
(pss_cons (ps_set (i := 5) nd rfl (.inr rfl) (pe_ix ix_list (pe_lst (pa_cons pe_int (pa_cons (pe_op op_sub (pe_call (ok_sip T) (hr.mono (by omega)) (by rfl) T.g__law_sip T.F__law_sip.kp T.b__law_sip .nil pass0 (pa_cons (pv 0) (pa_cons pe_int pa_nil))) pe_int) (pa_cons (pe_op op_sub pe_int (pe_op op_pow pe_int pe_int)) (pa_cons (pe_op op_sub (pe_op op_pow pe_int pe_int) pe_int) (pa_cons (pe_op op_sub pe_int (pe_call (ok_sip T) (hr.mono (by omega)) (by rfl) T.g__law_sip T.F__law_sip.kp T.b__law_sip .nil pass0 (pa_cons (pv 0) (pa_cons (pe_op op_pow pe_int pe_int) pa_nil)))) pa_nil)))))) (pv 3) (fun _ _ => rfl)))
(pss_cons (ps_setLc (i := 7) (own := [("at", 6)]) (g := gName 6) (tt := tYes) (te := (tOp (rI0 fun i j => .int (i + j)) (tVar 5) (tOp (rI CMul fun i j => .int (i * j)) (tVar 6) (tOp (rIxL K) (tLst (tCons (tC (.int 1)) (tCons (tC (.int 7)) (tCons (tOp (rI CPow fun i j => .int (i ^ j.toNat)) (tC (.int 10)) (tC (.int 34))) (tCons (tC (.int 1)) (tCons (tC (.int 1)) tNil)))))) (tVar 3))))) (by rfl) nd rfl rfl (sw_true rfl rfl rfl (by decide +kernel)) (pi_range1 (by rfl) T.n_range (pa_cons (pv 2) pa_nil))
(blkOk_by (N := ["fount", "plant", "count", "style", "way", "last", "at", "found", "wide"]) (sc := defScope sLawFilled) (by decide +kernel)) (fun _ _ _ _ _ => (pg_name (i := 6) nd rfl (.inl rfl))) (fun _ _ _ _ _ => pts_nil) (fun _ _ _ _ _ => (pe_op op_add (pv 5) (pe_op op_mul (pv 6) (pe_ix ix_list (pe_lst (pa_cons pe_int (pa_cons pe_int (pa_cons (pe_op op_pow pe_int pe_int) (pa_cons pe_int (pa_cons pe_int pa_nil)))))) (pv 3) (fun _ _ => rfl))))))
(Evl.pss_cut (ps_if (pt_cmpR op_eq (pv 3) pe_int (nomark _))
(pss_cons (ps_set (i := 7) nd rfl (.inl rfl) (pe_lst pa_nil))
(pss_one (ps_for PassesOwn.never rfl (pi_range1 (by rfl) T.n_range (pa_cons (pv 2) pa_nil)) (pg_name (i := 6) nd rfl (.inl rfl))
(pss_cons (ps_set (i := 8) nd rfl (.inl rfl) (pe_ix ix_list (pe_lst (pa_cons (pe_op op_pow pe_int pe_int) (pa_cons (pe_op op_pow pe_int pe_int) (pa_cons (pe_op op_pow pe_int pe_int) (pa_cons (pe_op op_pow pe_int pe_int) (pa_cons (pe_op op_pow pe_int pe_int) (pa_cons (pe_op op_pow pe_int pe_int) pa_nil))))))) (pe_call (ok_sip T) (hr.mono (by omega)) (by rfl) T.g__law_sip T.F__law_sip.kp T.b__law_sip .nil pass0 (pa_cons (pv 0) (pa_cons pe_int pa_nil))) (fun _ _ => rfl)))
(pss_cons (ps_set (i := 5) nd rfl (.inr rfl) (pe_op op_add (pe_op op_add (pv 5) pe_int) (pe_call (ok_sip T) (hr.mono (by omega)) (by rfl) T.g__law_sip T.F__law_sip.kp T.b__law_sip .nil pass0 (pa_cons (pv 0) (pa_cons (pv 8) pa_nil)))))
(pss_one (ps_expr (pe_bm PySem.F.plainAttrs_list PySem.F.slot_list_append PySem.F.type_list_append mt_append (pv 7) (pa_cons (pv 5) pa_nil))))))))) pss_nil)
(Evl.pss_cut (ps_if (pt_cmpR op_eq (pv 4) pe_int (nomark _))
(pss_one (ps_set (i := 7) nd rfl (.inl rfl) (pe_call (ok_mixed T) (hr.mono (by omega)) (by rfl) T.g__law_mixed T.F__law_mixed.kp T.b__law_mixed .nil pass0 (pa_cons (pv 0) (pa_cons (pv 7) pa_nil))))) pss_nil)
(pss_one (ps_ret (pe_callTy call_tuple_of (by rfl) T.n_tuple (by decide +kernel) (pa_cons (pe_ifExp (pt_cmpR op_eq (pv 4) pe_int (nomark _)) (pe_revL (pv 7)) (pv 7)) pa_nil))))))))), ?_⟩
    have el : ((pl.map V.int).length : Nat) = pl.length := List.length_map ..
    have pb : p ≠ b := hb.neT hP.at_
    refine ⟨.ref p, rfl, p, _, rfl, .inr hP.seq, _, 1, rfl, rfl, .ref b, rfl, b, 5, n, rfl, by decide, by decide, hb, by omega, fun st H1 a0 a1 k1 B1 O1 => ⟨.ref b, rfl, b, 3, n + 1, rfl, by decide, by decide, k1, by omega, fun way H2 b0 b1 k2 B2 O2 => ⟨(by show 3 ≤ sizeLine; decide), fun t nt => ⟨t, _, rfl, .inl (.inl upd_same), rfl, _, _, rfl, _, _, rfl, _, _, rfl, rfl, ?_⟩⟩⟩⟩
    rw [el]
    have s3 := same_new (o := .tup [V.int (((pl.length : Nat) : Int) + 1), .int st, .int way]) nt
    have k3 := k2.same s3
    have B3 := (B1.trans B2).trans (Same.bar s3)
    generalize upd H2 t (.tup [V.int (((pl.length : Nat) : Int) + 1), .int st, .int way]) = H3 at k3 B3 ⊢
    clear s3 nt k2 B2 O2 k1 B1 O1
    -- the first number
    refine ⟨.ref b, rfl, b, 50, n + 2, rfl, by decide, by decide, k3, by omega, fun r1 H4 c0 c1 k4 B4 O4 => ⟨_, _, rfl, rfl, 10, 36, rfl, rfl, ⟨by decide, by decide, by decide⟩, _, _, rfl, rfl, 10, 36, rfl, rfl, ⟨by decide, by decide, by decide⟩, _, _, rfl, rfl, .ref b, rfl, 10, 20, rfl, rfl, ⟨by decide, by decide, by decide⟩, b, _, n + 3, rfl, by decide, by decide, k4, by omega, fun r2 H5 d0 d1 k5 B5 O5 => ⟨_, _, rfl, rfl, (by show 5 ≤ sizeLine; decide), fun z nz => ?_⟩⟩⟩
    have zb : z ≠ b := k5.some nz
    have k6 := k5.same (same_new (o := .lst [V.int 0, .int (r1 - 25), .int (0 - 10 ^ (Int.toNat 36)), .int (10 ^ (Int.toNat 36) - 40), .int (0 - r2)]) nz)
    have B6 := ((B3.trans B4).trans B5).trans (Same.bar (same_new (o := .lst [V.int 0, .int (r1 - 25), .int (0 - 10 ^ (Int.toNat 36)), .int (10 ^ (Int.toNat 36) - 40), .int (0 - r2)]) nz))
    obtain ⟨L0, S, eL, eS, S1, L1, L2', hL4⟩ : ∃ L0 S : Int, atI [V.int 0, .int (r1 - 25), .int (0 - 10 ^ (Int.toNat 36)), .int (10 ^ (Int.toNat 36) - 40), .int (0 - r2)] st = some (.int L0) ∧ atI [V.int 1, .int 7, .int (10 ^ (Int.toNat 34)), .int 1, .int 1] st = some (.int S) ∧ 1 ≤ S ∧ -(10 ^ 36) ≤ L0 ∧ (∀ i : Nat, i < pl.length + 1 → L0 + (i : Int) * S ≤ 10 ^ 36) ∧ (st = 4 → -(10 ^ 20) ≤ L0 ∧ L0 ≤ 0) := by
      have d1' : r2 < 10 ^ (Int.toNat 20) := d1
      have h20 : (10 : Int) ^ (Int.toNat 20) = 10 ^ 20 := by decide
      have h36 : (10 : Int) ^ (Int.toNat 36) = 10 ^ 36 := by decide
      have h34 : (10 : Int) ^ (Int.toNat 34) = 10 ^ 34 := by decide
      rw [h20] at d1'
      have cs : st = 0 ∨ st = 1 ∨ st = 2 ∨ st = 3 ∨ st = 4 := by omega
      rcases cs with rfl | rfl | rfl | rfl | rfl
      · exact ⟨_, _, rfl, rfl, by decide, by decide, fun i hi => by omega, fun e => by omega⟩
      · exact ⟨_, _, rfl, rfl, by decide, by omega, fun i hi => by omega, fun e => by omega⟩
      · refine ⟨_, _, rfl, rfl, by decide, by rw [h36]; omega, fun i hi => ?_, fun e => by omega⟩
        rw [h36, h34]
        omega
      · refine ⟨_, _, rfl, rfl, by decide, by rw [h36]; omega, fun i hi => ?_, fun e => by omega⟩
        rw [h36]
        omega
      · exact ⟨_, _, rfl, rfl, by decide, by omega, fun i hi => by omega, fun e => ⟨by omega, by omega⟩⟩
    refine ⟨.int st, rfl, z, _, st, .int L0, rfl, rfl, .inl (.inl upd_same), eL, ?_⟩
    generalize upd H5 z (.lst [V.int 0, .int (r1 - 25), .int (0 - 10 ^ (Int.toNat 36)), .int (10 ^ (Int.toNat 36) - 40), .int (0 - r2)]) = H6 at k6 B6 ⊢
    clear nz zb k5 B5 O5 k4 B4 O4 k3 B3 eL c0 c1 d0 d1
    -- the numbers
    have ez : (((pl.length : Nat) : Int) + 1).toNat = pl.length + 1 := by omega
    refine ⟨.int (((pl.length : Nat) : Int) + 1), rfl, _, rfl, by omega, by omega, fun D nD => ?_⟩
    rw [ez]
    refine lc_range (lo := 0) (n := pl.length + 1) (fun i G => Same H6 G ∧ G D = some (.lst (((List.range i).map fun i : Nat => L0 + (0 + (i : Int)) * S).map V.int))) ⟨same_new nD, upd_same⟩ (fun i G hi p1 => ?_) (fun G p1 => ?_)
    · obtain ⟨sG, eD⟩ := p1
      refine ⟨rfl, tyes_if ⟨.int L0, rfl, .int (0 + (i : Int)), rfl, 10, 34, rfl, rfl, ⟨by decide, by decide, by decide⟩, (by show 5 ≤ sizeLine; decide), fun y ny => ⟨.int st, rfl, y, _, st, .int S, rfl, rfl, .inl (.inl upd_same), eS, _, _, rfl, rfl, .inl ⟨by omega, by omega⟩, _, _, rfl, rfl, _, same_new ny _ _ eD, ?_, fun c o h => ?_, ?_⟩⟩⟩
      · rw [List.length_map, List.length_map, List.length_range]
        exact small300 (by omega)
      · rw [upd_ne (ne_of_none h nD)]
        exact same_new ny _ _ (sG _ _ h)
      · rw [upd_same, List.range_succ, List.map_append, List.map_append]
        rfl
    obtain ⟨sG, eD⟩ := p1
    have Db : D ≠ b := k6.some nD
    have NO := nums_row (m := pl.length + 1) S1 L1 L2'
    have k7 := k6.same sG
    have B7 := B6.trans (Same.bar sG)
    revert eD NO
    generalize (List.range (pl.length + 1)).map (fun i : Nat => L0 + (0 + (i : Int)) * S) = ns
    intro eD NO
    clear sG k6 B6 nD
    refine ⟨fun σ' G => ∃ (f : Addr) (ms : List Int) (y5 y6 y8 : Option V), σ' = [some (.ref b), some (.ref p), some (.int (((pl.length : Nat) : Int) + 1)), some (.int st), some (.int way), y5, y6, some (.ref f), y8] ∧ PotAt G b (n + 4 + 90) ∧ Bar b H G ∧ f ≠ b ∧ G f = some (.lst (ms.map V.int)) ∧ NumsOk (pl.length + 1) ms, ?_, ?_⟩
    · refine ⟨.int st, rfl, rfl, _, rfl, ?_⟩
      by_cases h4 : st = 4
      · rw [decide_eq_true (congrArg V.int h4)]
        obtain ⟨q0, q1⟩ := hL4 h4
        refine iteT ⟨Nat.zero_le _, fun f nf => ?_⟩
        have fb : f ≠ b := k7.some nf
        have k8 := k7.same (same_new (o := .lst []) nf)
        have B8 := B7.trans (Same.bar (same_new (o := .lst []) nf))
        have f0 : H f = none := B7.freeP k7 nf
        refine ⟨.int (((pl.length : Nat) : Int) + 1), rfl, _, rfl, by omega, by omega, ?_⟩
        rw [ez]
        refine for_range (lo := 0) (n := pl.length + 1) (fun i σ G => ∃ (l : Int) (ms : List Int) (y6 y8 : Option V), σ = [some (.ref b), some (.ref p), some (.int (((pl.length : Nat) : Int) + 1)), some (.int st), some (.int way), some (.int l), y6, some (.ref f), y8] ∧ PotAt G b (n + 4 + 2 * i) ∧ Bar b H G ∧ G f = some (.lst (ms.map V.int)) ∧ ms.length = i ∧ ms.Pairwise (· < ·) ∧ (∀ x ∈ ms, -(10 ^ 20) ≤ x ∧ x ≤ l) ∧ -(10 ^ 20) ≤ l ∧ l ≤ i * 10 ^ 34)
          ⟨L0, [], _, _, rfl, k8, B8, upd_same, rfl, .nil, fun x hx => (by cases hx), q0, by omega⟩ (fun i σ G hi p1 => ?_) (fun σ G p1 => ?_)
        · obtain ⟨l, ms, y6, y8, rfl, kG, BG, ef, lm, pw, bd, l0, l1⟩ := p1
          refine ⟨10, 3, rfl, rfl, ⟨by decide, by decide, by decide⟩, 10, 7, rfl, rfl, ⟨by decide, by decide, by decide⟩, 10, 12, rfl, rfl, ⟨by decide, by decide, by decide⟩, 10, 18, rfl, rfl, ⟨by decide, by decide, by decide⟩, 10, 25, rfl, rfl, ⟨by decide, by decide, by decide⟩, 10, 33, rfl, rfl, ⟨by decide, by decide, by decide⟩, (by show 6 ≤ sizeLine; decide), fun y ny => ?_⟩
          have yb : y ≠ b := kG.some ny
          refine ⟨.ref b, rfl, b, 6, n + 4 + 2 * i, rfl, by decide, by decide, kG.same (same_new ny), by omega, fun r Ga e0 e1 ka Ba Oa => ?_⟩
          obtain ⟨v, ev, cv⟩ := six_at (u0 := .int (10 ^ (Int.toNat 3))) (u1 := .int (10 ^ (Int.toNat 7))) (u2 := .int (10 ^ (Int.toNat 12))) (u3 := .int (10 ^ (Int.toNat 18))) (u4 := .int (10 ^ (Int.toNat 25))) (u5 := .int (10 ^ (Int.toNat 33))) e0 e1
          obtain ⟨wd, rfl, w0, w1⟩ : ∃ x : Int, v = .int x ∧ 0 < x ∧ x ≤ 10 ^ 33 := by
            rcases cv with rfl | rfl | rfl | rfl | rfl | rfl <;> exact ⟨_, rfl, by decide, by decide⟩
          have kb := ka
          refine ⟨y, _, r, .int wd, rfl, rfl, .inl (.inl (Ba _ _ yb upd_same)), ev, ?_⟩
          refine ⟨.int l, rfl, l, 1, rfl, rfl, .ref b, rfl, .int wd, rfl, b, wd, n + 4 + 2 * i + 1, rfl, w0, by omega, ka, by omega, fun r3 Hc g0 g1 kc Bc Oc => ⟨_, _, rfl, rfl, ?_⟩⟩
          have ef2 : Hc f = some (.lst (ms.map V.int)) := Bc _ _ fb (Ba _ _ fb (same_new ny _ _ ef))
          refine ⟨.ref f, rfl, .inl ⟨rfl, _, .inl (.inl ef2)⟩, .int (l + 1 + r3), rfl, f, _, _, rfl, rfl, ef2, ?_, l + 1 + r3, ms ++ [l + 1 + r3], _, _, rfl, ?_, ?_, ?_, ?_, ?_, ?_, ?_, ?_⟩
          · rw [List.length_map, lm]
            exact small300 (by omega)
          · obtain ⟨x1, x2, x3, x4, x5, x6, x7, x8⟩ := kc
            exact ⟨x1, x2, x3, by rw [upd_ne (Ne.symm fb)]; exact x4, x5, x6, x7, by omega⟩
          · intro c o nc hc
            rw [upd_ne (ne_of_none hc f0)]
            exact Bc _ _ nc (Ba _ _ nc (same_new ny _ _ (BG c o nc hc)))
          · rw [upd_same, List.map_append]
            rfl
          · rw [List.length_append, lm]
            rfl
          · refine List.pairwise_append.mpr ⟨pw, List.pairwise_singleton .., fun x hx y hy => ?_⟩
            rw [List.mem_singleton.mp hy]
            have := (bd x hx).2
            omega
          · intro x hx
            rcases List.mem_append.mp hx with hx | hx
            · have := bd x hx
              omega
            · rw [List.mem_singleton.mp hx]
              omega
          · omega
          · omega
        · obtain ⟨l, ms, y6, y8, rfl, kG, BG, ef, lm, pw, bd, l0, l1⟩ := p1
          refine ⟨f, ms, _, _, _, rfl, kG.mono (by omega), BG, fb, ef, lm, pw.imp fun h e => by omega, fun x hx => ?_⟩
          have := bd x hx
          omega
      · rw [decide_eq_false fun e => h4 (V.int.inj e)]
        exact iteF ⟨D, ns, _, _, _, rfl, k7.mono (by omega), B7, Db, eD, NO⟩
    rintro σ' G ⟨f, ms, y5, y6, y8, rfl, kG, BG, fb, ef, NM⟩
    clear k7 B7 Db eD NO eS hL4 L2' L1 S1
    refine ⟨fun σ' G => ∃ (f : Addr) (ms : List Int) (y5 y6 y8 : Option V), σ' = [some (.ref b), some (.ref p), some (.int (((pl.length : Nat) : Int) + 1)), some (.int st), some (.int way), y5, y6, some (.ref f), y8] ∧ PotAt G b (n + 4 + 150) ∧ Bar b H G ∧ G f = some (.lst (ms.map V.int)) ∧ NumsOk (pl.length + 1) ms, ?_, ?_⟩
    · refine ⟨.int way, rfl, rfl, _, rfl, ?_⟩
      by_cases h2 : way = 2
      · rw [decide_eq_true (congrArg V.int h2)]
        refine iteT ⟨.ref b, rfl, .ref f, rfl, b, f, ms.map V.int, n + 4 + 90, rfl, kG, by omega, .inl ef, by rw [List.length_map, NM.len]; omega, fun Ha l ys ka Ba nl el2 pm => ?_⟩
        rw [List.length_map, NM.len] at ka
        obtain ⟨zs, ez2, pz⟩ : ∃ zs : List Int, ys = zs.map V.int ∧ zs.Perm ms := by
          have hall : ∀ v ∈ ys, ∃ i : Int, v = .int i := fun v hv => by
            obtain ⟨i, _, e⟩ := List.mem_map.mp (pm.subset hv)
            exact ⟨i, e.symm⟩
          obtain ⟨zs, rfl⟩ : ∃ zs : List Int, ys = zs.map V.int := by
            clear pm el2
            induction ys with
            | nil => exact ⟨[], rfl⟩
            | cons y ys ih =>
              obtain ⟨i, rfl⟩ := hall y List.mem_cons_self
              obtain ⟨zs, rfl⟩ := ih fun v hv => hall v (List.mem_cons_of_mem _ hv)
              exact ⟨i :: zs, rfl⟩
          refine ⟨zs, rfl, ?_⟩
          have f : Function.Injective V.int := fun _ _ y => V.int.inj y
          have z := pm.map (fun v : V => match v with | .int i => i | _ => 0)
          rw [List.map_map, List.map_map] at z
          have e : ((fun v : V => match v with | .int i => i | _ => 0) ∘ V.int) = id := rfl
          rw [e, List.map_id, List.map_id] at z
          exact z
        subst ez2
        exact ⟨l, zs, _, _, _, rfl, ka.mono (by omega), BG.trans Ba, el2, pz.length_eq.trans NM.len, pz.nodup_iff.mpr NM.nd, fun x hx => NM.sm x (pz.subset hx)⟩
      · rw [decide_eq_false fun e => h2 (V.int.inj e)]
        exact iteF ⟨f, ms, _, _, _, rfl, kG.mono (by omega), BG, ef, NM⟩
    clear kG BG fb ef NM
    rintro σ' G ⟨f, ms, y5, y6, y8, rfl, kG, BG, ef, NM⟩
    refine ⟨.int way, rfl, rfl, _, rfl, ?_⟩
    by_cases h1 : way = 1
    · rw [decide_eq_true (congrArg V.int h1)]
      refine iteT ⟨.ref f, rfl, f, _, rfl, .inl (.inl ef), fun g ng => ?_⟩
      have sg := same_new (o := .lst (ms.map V.int).reverse) ng
      refine ⟨g, _, rfl, .inl ⟨.inl (.inl upd_same), fun q nq => ?_⟩⟩
      have s2 := sg.trans (same_new (o := .tup (ms.map V.int).reverse) nq)
      have q0 : H q = none := BG.freeP kG (sg.free nq)
      refine qq _ q ms.reverse ((kG.same s2).mono (by omega)) (BG.trans (Same.bar s2)) q0 (by rw [upd_same, List.map_reverse]) ⟨by rw [List.length_reverse]; exact NM.len, List.pairwise_reverse.mpr (NM.nd.imp fun h => Ne.symm h), fun x hx => NM.sm x (List.mem_reverse.mp hx)⟩
    · rw [decide_eq_false fun e => h1 (V.int.inj e)]
      refine iteF ⟨.ref f, rfl, f, _, rfl, .inl ⟨.inl (.inl ef), fun q nq => ?_⟩⟩
      have s2 := same_new (o := .tup (ms.map V.int)) nq
      exact qq _ q ms ((kG.same s2).mono (by omega)) (BG.trans (Same.bar s2)) (BG.freeP kG nq) upd_same ⟨NM.len, NM.nd, NM.sm⟩
end
end PT

set_option maxHeartbeats 4000000
/-! the law's own call, where it is also known that the table of modules stands in the base -/
namespace PT
open PySem PySem.Spec PyProof.Rows L2 LamX NdefX
/-- the law's call behind the top: only the script may be tracked, and it is known -/
theorem law_atGS {P : Program} {w : World} {K : PySem.W.Frag} {mg mb : Str → Option Value} {fa a : Addr} {s₁ : Shared} {vs : List Value} {ns : List Int}
    (kin : K.In s₁.heap) (gl : s₁.heap.Ns mainGlobals mg) (bl : s₁.heap.Ns builtinsNs mb) (bb : ∀ x : Str, x ≠ "__name__" → mb x = bootBuiltins x) (nl : s₁.heap.NoLimit) (sm : ∃ mm, s₁.heap.Ns sysModules mm) (gn : s₁.gens = #[])
    (ha : s₁.heap.get? a = some { cls := .type "list", data := .seq vs.toArray }) (hi : IntsAre vs ns) (hl : ns.length ≤ sizeLine)
    (F : ∀ (base : Heap) (H : Hp), K.In base → base.Ns mainGlobals mg → (∃ mm, base.Ns sysModules mm) → Only H → SqL K H a (ns.map V.int) → Env0 P w K mg base callerA [] s₁ H →
      codeAny (model P w) callerA (.call (.ref fa) ⟨[.ref a], []⟩) (CR CX0 [] P w H s₁ (fun v _ => v = .bl true) fun _ _ _ => False) s₁) :
    codeAny (model P w) callerA (.call (.ref fa) ⟨[.ref a], []⟩) (fun r s' => r = .ok (.ret (.bool true)) ∧ OldK s₁.heap s'.heap ∧ s'.os = s₁.os ∧ AllBare s'.gens) s₁ := by
  have rv := vals_ints hi
  have ln := hi.length
  suffices main : ∃ H : Hp, Only H ∧ SqL K H a (ns.map V.int) ∧ HOk P w H s₁.heap ∧ (∀ b, H b ≠ none → b = a ∧ K.lookup a = none) by
    obtain ⟨H, o1, o2, ok, tr⟩ := main
    have keepH : ∀ {b : Addr} {o : Obj}, s₁.heap.get? b = some o → H b = none → (hidT s₁.heap H).get? b = some o := fun z n => hidT_get z n
    have seqNot : ∀ {b : Addr} {o : Obj} {es : Array DictEntry} {ep : Nat}, s₁.heap.get? b = some o → o.data = .dict es ep → H b = none := by
      intro b o es ep z1 z2
      by_cases n : H b = none
      · exact n
      · rw [(tr b n).1, ha] at z1
        cases z1
        cases z2
    have nss : ∀ {b : Addr} {m : Str → Option Value}, s₁.heap.Ns b m → (hidT s₁.heap H).Ns b m := by
      rintro b m ⟨o, es, ep, z1, z2, r⟩
      exact ⟨o, es, ep, keepH z1 (seqNot z1 z2), z2, r⟩
    have kb : K.In (hidT s₁.heap H) := by
      intro b o z
      refine keepH (kin b o z) ?_
      by_cases n : H b = none
      · exact n
      · obtain ⟨z1, z2⟩ := tr b n
        rw [z1, z2] at z
        cases z
    have md : Mod K mg (hidT s₁.heap H) := by
      obtain ⟨mc, c1, c2⟩ := nl
      exact ⟨kb, nss gl, ⟨mb, nss bl, bb⟩, ⟨mc, nss c1, c2⟩⟩
    have en : Env0 P w K mg (hidT s₁.heap H) callerA [] s₁ H :=
      ⟨rfl, md, fun _ _ z => of_hidT z, Nat.le_of_eq (hidT_size _ _), trivial, fun b z => absurd (show b ∈ ([] : List Addr) from z) (by simp), ok, .of_eq gn⟩
    refine codeAny_mono (F _ H kb (nss gl) (sm.elim fun mm z => ⟨mm, nss z⟩) o1 o2 en) fun r s2 z => ?_
    match r, z with
    | .error _, z => exact False.elim z
    | .ok .next, z => exact False.elim z
    | .ok .brk, z => exact False.elim z
    | .ok .cont, z => exact False.elim z
    | .ok (.ret u), z =>
      obtain ⟨v, H2, os, bare, un, ok2, rr, q⟩ := z
      have q2 : v = .bl true := q
      subst q2
      obtain rfl : u = Value.bool true := rr
      refine ⟨rfl, .of_keep fun b o z => ?_, os, bare⟩
      by_cases n : H b = none
      · exact un.keep b o z n (fun y => absurd (show b ∈ ([] : List Addr) from y) (by simp)) (by simp)
      · rcases o1 b with y | ⟨ob, xs, y⟩
        · exact absurd y n
        · obtain ⟨y1, _⟩ := ok b _ y
          obtain ⟨y2, _⟩ := ok2 b _ (un.frzs b ob _ y)
          rw [z] at y1
          cases y1
          exact y2
  cases hk : K.lookup a with
  | some o =>
    have z := kin a o hk
    rw [ha] at z
    cases z
    exact ⟨fun _ => none, fun _ => .inl rfl, .inr ⟨_, vs.toArray, _, hk, rfl, rfl, rfl, by rw [List.size_toArray, ln]; exact hl, by simpa using rv⟩, fun _ u y => absurd (show (none : Option HO) = some u from y) (by simp), fun _ y => absurd rfl y⟩
  | none =>
    let scr : HO := .frz { cls := .type "list", data := .seq vs.toArray } (.lst (ns.map V.int))
    refine ⟨fun b => if b = a then some scr else none, fun b => ?_, .inl (.inr ⟨_, if_pos rfl⟩), fun b u z => ?_, fun b z => ?_⟩
    · by_cases e : b = a
      · exact .inr ⟨_, _, if_pos e⟩
      · exact .inl (if_neg e)
    · by_cases e : b = a
      · have z2 : some scr = some u := (if_pos e).symm.trans z
        cases z2
        rw [e]
        exact ⟨ha, by rw [List.length_map]; exact hl, vs, _, rv, ha⟩
      · exact absurd (show (none : Option HO) = some u from (if_neg e).symm.trans z) (by simp)
    · by_cases e : b = a
      · exact ⟨e, rfl⟩
      · exact absurd (if_neg e) z
/-- what k_head leaves, from such a call -/
theorem walk_GS {l : PySem.W.OpenLaw} {n : Nat} {q : Program} {loose : List Str} {XP : (Str → Option Value) → Heap → Prop} {YP : World → Heap → Prop} {d : DefRec} {K : Params → PySem.W.Frag}
    (imp : importsNone q = true) (hn : l.most = some n) (hn2 : n ≤ sizeLine) (hdf : d.params.defaults = []) (hY : ∀ (w : World) (h : Heap), YP w h → (K w.params).In h)
    (F : ∀ (w : World) (mg : Str → Option Value) (fa a : Addr) (st : Shared) (base : Heap) (H : Hp) (ns : List Int), (K w.params).In st.heap → st.heap.Ns mainGlobals mg → mg d.name = some (.ref fa) → (K w.params).In base → base.Ns mainGlobals mg → (∃ mm, base.Ns sysModules mm) → ns.length ≤ n → Only H → SqL (K w.params) H a (ns.map V.int) →
      Env0 l.prog w (K w.params) mg base callerA [] st H → codeAny (model l.prog w) callerA (.call (.ref fa) ⟨[.ref a], []⟩) (CR CX0 [] l.prog w H st (fun v _ => v = .bl true) fun _ _ _ => False) st) :
    PySem.W.WalkO q loose XP YP l.row.toRowW d [] (fun f vs => PySem.call f vs) := by
  refine Att.attach_call hn hdf fun w s₀ s₁ mg mb fa o pm cd doc a vs ns G Y ho hd hcd hmg hobj hints hlen hg => ?_
  have kin := hY w _ Y
  exact law_atGS kin G.T.g G.T.b G.T.builtins G.T.nolimit ((G.T.seer imp).mods.elim fun mm z => ⟨mm, z.1⟩) hg hobj hints (Nat.le_trans hlen hn2) fun base H kb gb sb o1 o2 en => F w mg fa a s₁ base H ns kin G.T.g hmg kb gb sb hlen o1 o2 en
theorem law_atGTS {P : Program} {w : World} {K : PySem.W.Frag} {mg mb : Str → Option Value} {fa a : Addr} {s₁ : Shared} {vs : List Value} {ns : List Int} {cs : List (Addr × Addr)}
    (kin : K.In s₁.heap) (gl : s₁.heap.Ns mainGlobals mg) (bl : s₁.heap.Ns builtinsNs mb) (bb : ∀ x : Str, x ≠ "__name__" → mb x = bootBuiltins x) (nl : s₁.heap.NoLimit) (sm : ∃ mm, s₁.heap.Ns sysModules mm) (gn : s₁.gens = #[])
    (tb : ∀ p ∈ cs, s₁.heap.get? p.2 = some (PySem.W.tabObj #[])) (tn : ∀ p ∈ cs, K.lookup p.2 = none) (tc : ∀ p ∈ cs, PySem.W.CodeHd s₁.heap p.1 p.2)
    (bm : ∃ (m : Addr) (ob : Obj), mg "__builtins__" = some (.ref m) ∧ m ≠ builtinsNs ∧ s₁.heap.get? m = some ob ∧ ob.cls = .type "module" ∧ ob.dict = some builtinsNs ∧ ob.data = .plain)
    (ha : s₁.heap.get? a = some { cls := .type "list", data := .seq vs.toArray }) (hi : IntsAre vs ns) (hl : ns.length ≤ sizeLine)
    (F : ∀ (base : Heap) (H : Hp), K.In base → base.Ns mainGlobals mg → (∃ mm, base.Ns sysModules mm) → (∀ p ∈ cs, TabB base mg p.1 p.2) → (∀ p ∈ cs, H p.2 = some (.tbl #[])) → SqL K H a (ns.map V.int) → Env0 P w K mg base callerA [] s₁ H →
      codeAny (model P w) callerA (.call (.ref fa) ⟨[.ref a], []⟩) (CR CX0 [] P w H s₁ (fun v _ => v = .bl true) fun _ _ _ => False) s₁) :
    codeAny (model P w) callerA (.call (.ref fa) ⟨[.ref a], []⟩) (fun r s' => r = .ok (.ret (.bool true)) ∧ OldK s₁.heap s'.heap ∧ s'.os = s₁.os ∧ AllBare s'.gens) s₁ := by
  have rv := vals_ints hi
  have ln := hi.length
  have tabAt : ∀ b, b ∈ cs.map (·.2) → s₁.heap.get? b = some (PySem.W.tabObj #[]) := fun b hb => by
    obtain ⟨p, hp, rfl⟩ := List.mem_map.mp hb
    exact tb p hp
  have aNot : a ∉ cs.map (·.2) := fun z => by
    have y := tabAt a z
    rw [ha] at y
    have y2 := congrArg Obj.data (Option.some.inj y)
    cases y2
  have inT : ∀ p ∈ cs, p.2 ∈ cs.map (·.2) := fun p hp => List.mem_map.mpr ⟨p, hp, rfl⟩
  suffices main : ∃ H : Hp, OnlyT cs H ∧ (∀ p ∈ cs, H p.2 = some (.tbl #[])) ∧ SqL K H a (ns.map V.int) ∧ HOk P w H s₁.heap ∧ (∀ b, H b ≠ none → b ∈ cs.map (·.2) ∨ (b = a ∧ K.lookup a = none)) by
    obtain ⟨H, o1, ot, o2, ok, tr⟩ := main
    have keepH : ∀ {b : Addr} {o : Obj}, s₁.heap.get? b = some o → H b = none → (hidT s₁.heap H).get? b = some o := fun z n => hidT_get z n
    -- what is no list and no empty table is not tracked
    have free : ∀ {b : Addr} {o : Obj}, s₁.heap.get? b = some o → (∀ us n, o.data ≠ .seq us n) → o.data ≠ .fields #[] → H b = none := fun {b o} z1 z2 z3 => by
      by_cases n : H b = none
      · exact n
      · rcases tr b n with y | ⟨y, _⟩
        · rw [tabAt b y] at z1
          cases z1
          exact absurd rfl z3
        · rw [y, ha] at z1
          cases z1
          exact absurd rfl (z2 _ _)
    have seqNot : ∀ {b : Addr} {o : Obj} {es : Array DictEntry} {ep : Nat}, s₁.heap.get? b = some o → o.data = .dict es ep → H b = none := fun {b o es ep} z1 z2 =>
      free z1 (fun us n y => by rw [z2] at y; cases y) fun y => by rw [z2] at y; cases y
    have nss : ∀ {b : Addr} {m : Str → Option Value}, s₁.heap.Ns b m → (hidT s₁.heap H).Ns b m := by
      rintro b m ⟨o, es, ep, z1, z2, r⟩
      exact ⟨o, es, ep, keepH z1 (seqNot z1 z2), z2, r⟩
    have kb : K.In (hidT s₁.heap H) := by
      intro b o z
      refine keepH (kin b o z) ?_
      by_cases n : H b = none
      · exact n
      · rcases tr b n with y | ⟨y, y2⟩
        · obtain ⟨p, hp, e⟩ := List.mem_map.mp y
          rw [← e, tn p hp] at z
          cases z
        · rw [y, y2] at z
          cases z
    have md : Mod K mg (hidT s₁.heap H) := by
      obtain ⟨mc, c1, c2⟩ := nl
      exact ⟨kb, nss gl, ⟨mb, nss bl, bb⟩, ⟨mc, nss c1, c2⟩⟩
    have tabs : ∀ p ∈ cs, TabB (hidT s₁.heap H) mg p.1 p.2 := fun p hp => by
      have tp := tb p hp
      refine ⟨?_, ?_, fun z => ?_⟩
      · obtain ⟨o, us, f1, f2, f3, f4, f5, f6, f7, e1, e2, e3, rest⟩ := tc p hp
        refine ⟨o, us, f1, f2, f3, f4, f5, f6, f7, keepH e1 (free e1 (fun _ _ y => ?_) fun y => ?_), e2, e3, rest⟩
        · rw [e3] at y
          cases y
        · rw [e3] at y
          cases y
          have z := rest.1
          simp at z
      · obtain ⟨m, ob, b1, b2, b3, b4, b5, b6⟩ := bm
        have m1 : m ≠ mainGlobals := fun z => by
          obtain ⟨o, es, ep, y, yd, _⟩ := gl
          rw [z, y] at b3
          cases b3
          rw [yd] at b6
          cases b6
        have m2 : m ≠ p.2 := fun z => by
          rw [z, tp] at b3
          cases b3
          cases b6
        refine ⟨m, ob, b1, b2, m1, m2, keepH b3 (free b3 (fun _ _ y => ?_) fun y => ?_), b4, b5, b6⟩
        · rw [b6] at y
          cases y
        · rw [b6] at y
          cases y
      · obtain ⟨o, es, ep, y, yd, _⟩ := gl
        rw [z, tp] at y
        cases y
        cases yd
    have en : Env0 P w K mg (hidT s₁.heap H) callerA [] s₁ H :=
      ⟨rfl, md, fun _ _ z => of_hidT z, Nat.le_of_eq (hidT_size _ _), trivial, fun b z => absurd (show b ∈ ([] : List Addr) from z) (by simp), ok, .of_eq gn⟩
    refine codeAny_mono (F _ H kb (nss gl) (sm.elim fun mm z => ⟨mm, nss z⟩) tabs ot o2 en) fun r s2 z => ?_
    match r, z with
    | .error _, z => exact False.elim z
    | .ok .next, z => exact False.elim z
    | .ok .brk, z => exact False.elim z
    | .ok .cont, z => exact False.elim z
    | .ok (.ret u), z =>
      obtain ⟨v, H2, os, bare, un, ok2, rr, q⟩ := z
      have q2 : v = .bl true := q
      subst q2
      obtain rfl : u = Value.bool true := rr
      have same : ∀ b o, b ∉ cs.map (·.2) → s₁.heap.get? b = some o → s2.heap.get? b = some o := fun b o nb z => by
        rcases o1 b with n | y | ⟨ob, xs, y⟩
        · exact un.keep b o z n (fun y => absurd (show b ∈ ([] : List Addr) from y) (by simp)) (by simp)
        · exact absurd y nb
        · obtain ⟨y1, _⟩ := ok b _ y
          obtain ⟨y2, _⟩ := ok2 b _ (un.frzs b ob _ y)
          rw [z] at y1
          cases y1
          exact y2
      have more : ∀ p ∈ cs, ∃ m : Array Value, s2.heap.get? p.2 = some (PySem.W.tabObj m) := fun p hp => by
        obtain ⟨m, y⟩ := un.tbls p.2 #[] (ot p hp)
        exact ⟨_, ok2 p.2 _ y⟩
      refine ⟨rfl, ⟨fun b o z => ?_, fun b o z => ?_⟩, os, bare⟩
      · by_cases hb : b ∈ cs.map (·.2)
        · obtain ⟨p, hp, e⟩ := List.mem_map.mp hb
          obtain ⟨m, hm⟩ := more p hp
          rw [← e] at z ⊢
          rw [tb p hp] at z
          cases z
          exact .inr (.inl ⟨((tc p hp).tab (tb p hp)).isCodeTable, rfl, #[], m, rfl, by rw [Array.empty_append]; exact hm⟩)
        · exact .inl (same b o hb z)
      · by_cases hb : b ∈ cs.map (·.2)
        · obtain ⟨p, hp, e⟩ := List.mem_map.mp hb
          obtain ⟨m, hm⟩ := more p hp
          rw [← e]
          exact ⟨_, hm⟩
        · exact ⟨o, same b o hb z⟩
  let tabH : Hp := fun b => if b ∈ cs.map (·.2) then some (.tbl #[]) else none
  have t1 : ∀ {b}, b ∈ cs.map (·.2) → tabH b = some (.tbl #[]) := fun hb => if_pos hb
  have t0 : ∀ {b}, b ∉ cs.map (·.2) → tabH b = none := fun hb => if_neg hb
  cases hk : K.lookup a with
  | some o =>
    have z := kin a o hk
    rw [ha] at z
    cases z
    refine ⟨tabH, fun b => ?_, fun p hp => t1 (inT p hp), .inr ⟨_, vs.toArray, _, hk, rfl, rfl, rfl, by rw [List.size_toArray, ln]; exact hl, by simpa using rv⟩, fun b u y => ?_, fun b y => ?_⟩
    · by_cases hb : b ∈ cs.map (·.2)
      · exact .inr (.inl hb)
      · exact .inl (t0 hb)
    · by_cases hb : b ∈ cs.map (·.2)
      · have y2 := (t1 hb).symm.trans y
        cases y2
        exact tabAt b hb
      · have y2 := (t0 hb).symm.trans y
        cases y2
    · by_cases hb : b ∈ cs.map (·.2)
      · exact .inl hb
      · exact absurd (t0 hb) y
  | none =>
    let scr : HO := .frz { cls := .type "list", data := .seq vs.toArray } (.lst (ns.map V.int))
    have s0 : upd tabH a scr a = some scr := upd_same
    have s1 : ∀ {b}, b ≠ a → upd tabH a scr b = tabH b := fun hb => upd_ne hb
    refine ⟨upd tabH a scr, fun b => ?_, fun p hp => ?_, .inl (.inr ⟨_, s0⟩), fun b u y => ?_, fun b y => ?_⟩
    · by_cases e : b = a
      · subst e
        exact .inr (.inr ⟨_, _, s0⟩)
      · by_cases hb : b ∈ cs.map (·.2)
        · exact .inr (.inl hb)
        · exact .inl ((s1 e).trans (t0 hb))
    · have e : p.2 ≠ a := fun z => aNot (z ▸ inT p hp)
      exact (s1 e).trans (t1 (inT p hp))
    · by_cases e : b = a
      · subst e
        have y2 := s0.symm.trans y
        cases y2
        exact ⟨ha, by rw [List.length_map]; exact hl, vs, _, rv, ha⟩
      · have y1 := (s1 e).symm.trans y
        by_cases hb : b ∈ cs.map (·.2)
        · have y2 := (t1 hb).symm.trans y1
          cases y2
          exact tabAt b hb
        · have y2 := (t0 hb).symm.trans y1
          cases y2
    · by_cases e : b = a
      · exact .inr ⟨e, rfl⟩
      · by_cases hb : b ∈ cs.map (·.2)
        · exact .inl hb
        · exact absurd ((s1 e).trans (t0 hb)) y
/-- what k_head leaves, from such a call -/
theorem walk_GTS {l : PySem.W.OpenLaw} {n : Nat} {q : Program} {loose : List Str} {XP : (Str → Option Value) → Heap → Prop} {YP : World → Heap → Prop} {d : DefRec} {K : Params → PySem.W.Frag} {ts : List Addr}
    (imp : importsNone q = true) (hn : l.most = some n) (hn2 : n ≤ sizeLine) (hdf : d.params.defaults = []) (hY : ∀ (w : World) (h : Heap), YP w h → (K w.params).In h ∧ ∀ P ∈ ts, h.get? P = some (PySem.W.tabObj #[]))
    (F : ∀ (w : World) (mg : Str → Option Value) (fa a : Addr) (st : Shared) (ns : List Int), (K w.params).In st.heap → st.heap.Ns mainGlobals mg → mg d.name = some (.ref fa) → ns.length ≤ n → (∀ P ∈ ts, st.heap.get? P = some (PySem.W.tabObj #[])) →
      ∃ cs : List (Addr × Addr), (∀ p ∈ cs, st.heap.get? p.2 = some (PySem.W.tabObj #[])) ∧ (∀ p ∈ cs, (K w.params).lookup p.2 = none) ∧ (∀ p ∈ cs, PySem.W.CodeHd st.heap p.1 p.2) ∧
        ∀ (base : Heap) (H : Hp), (K w.params).In base → base.Ns mainGlobals mg → (∃ mm, base.Ns sysModules mm) → (∀ p ∈ cs, TabB base mg p.1 p.2) → (∀ p ∈ cs, H p.2 = some (.tbl #[])) → SqL (K w.params) H a (ns.map V.int) → Env0 l.prog w (K w.params) mg base callerA [] st H →
          codeAny (model l.prog w) callerA (.call (.ref fa) ⟨[.ref a], []⟩) (CR CX0 [] l.prog w H st (fun v _ => v = .bl true) fun _ _ _ => False) st) :
    PySem.W.WalkO q loose XP YP l.row.toRowW d [] (fun f vs => PySem.call f vs) := by
  refine Att.attach_call hn hdf fun w s₀ s₁ mg mb fa o pm cd doc a vs ns G Y ho hd hcd hmg hobj hints hlen hg => ?_
  obtain ⟨kin, ht⟩ := hY w _ Y
  obtain ⟨cs, c1, c2, c3, c4⟩ := F w mg fa a s₁ ns kin G.T.g hmg hlen ht
  exact law_atGTS kin G.T.g G.T.b G.T.builtins G.T.nolimit ((G.T.seer imp).mods.elim fun mm z => ⟨mm, z.1⟩) hg c1 c2 c3 G.T.bmain hobj hints (Nat.le_trans hlen hn2) c4
end PT


set_option maxHeartbeats 4000000
/-! the law itself (law 54) -/
namespace PT
open PySem PySem.Spec PyProof.Rows L2 LamX NdefX
theorem sqL_ext {K : PySem.W.Frag} {H H' : Hp} {a : Addr} {xs : List V} (e : ExtN H H') (h : SqL K H a xs) : SqL K H' a xs := by
  rcases h with (h | ⟨o, h⟩) | h
  · exact .inl (.inl (e _ _ h fun _ z => by cases z))
  · exact .inl (.inr ⟨o, e _ _ h fun _ z => by cases z⟩)
  · exact .inr h
theorem hide_extN {H H' : Hp} (e : ExtN H H') (b : Addr) : ExtN (hide H b) (hide H' b) := fun c o h n => by
  unfold hide at h ⊢
  by_cases x : c = b
  · rw [if_pos x] at h; cases h
  · rw [if_neg x] at h ⊢; exact e _ _ h n
theorem PotAt.ext {H H' : Hp} {b : Addr} {n : Nat} (e : ExtN H H') (h : PotAt H b n) : PotAt H' b n := let ⟨x, y, z, q, r⟩ := h; ⟨x, y, z, extN_lst e q, r⟩
theorem dp_neB {H : Hp} {b l : Addr} {ds : List PyData} (h : DP (hide H b) (.ref l) (.list ds)) : l ≠ b := fun e => by
  cases h with
  | lst a _ =>
    unfold hide at a
    rw [if_pos e] at a
    cases a
/-- what stands while the law goes on -/
structure Inn (H1 : Hp) (b p q z : Addr) (pl ss : List Int) (bs : List PyData) (n : Nat) (G : Hp) : Prop where
  x : ExtN H1 G
  k : PotAt G b n
  P : PlantAt G p pl
  q_ : G q = some (.tup (ss.map V.int))
  d : DP (hide G b) (.ref z) (.list bs)
theorem Inn.ext {H1 G G' : Hp} {b p q z : Addr} {pl ss : List Int} {bs : List PyData} {n : Nat} (h : Inn H1 b p q z pl ss bs n G) (e : ExtN G G') : Inn H1 b p q z pl ss bs n G' :=
  ⟨h.x.trans e, h.k.ext e, extN_plant e h.P, extN_tup e h.q_, DP.ext (hide_extN e b) _ _ h.d⟩
theorem Inn.bar {H1 G G' : Hp} {b p q z : Addr} {pl ss : List Int} {bs : List PyData} {n m : Nat} (h : Inn H1 b p q z pl ss bs n G) (nb : H1 b = none) (k : PotAt G' b m) (B : Bar b G G') : Inn H1 b p q z pl ss bs m G' :=
  ⟨B.barN.extN' nb h.x, k, h.P.barP B h.k, B _ _ (h.k.neT h.q_) h.q_, h.d.same (hide_bar B)⟩
theorem Inn.mono {H1 G : Hp} {b p q z : Addr} {pl ss : List Int} {bs : List PyData} {n m : Nat} (h : Inn H1 b p q z pl ss bs n G) (l : n ≤ m) : Inn H1 b p q z pl ss bs m G := ⟨h.x, h.k.mono l, h.P, h.q_, h.d⟩
theorem NiceU.b {d : PyData} (n : NiceU d) : NiceB 60 6 d := ⟨n.1.sh, n.1.dp, n.1.lv, n.2⟩
theorem nice_both {pl : List Int} {bs : List PyData} (hp : ∀ x ∈ pl, x.natAbs < 10 ^ 50) (lp : pl.length ≤ 40) (hb : ∀ d ∈ bs, NiceU d) (lb : bs.length ≤ 30) : NiceB 4000 50 (.list [.tuple (pl.map PyData.int), .list bs]) := by
  refine (niceB_lst (W := 1830) (k := 7) (L := 2) (fun d hd => ?_) (Nat.le_refl _)).mono
  rcases List.mem_cons.mp hd with rfl | hd
  · refine (niceB_tup (W := 0) (k := 0) (L := 40) (fun d hd => ?_) (by rw [List.length_map]; exact lp)).mono
    obtain ⟨x, hx, rfl⟩ := List.mem_map.mp hd
    exact niceB_int (hp x hx)
  · rw [List.mem_singleton.mp hd]
    exact (niceB_lst (fun d hd => (hb d hd).b) lb).mono
theorem kit3 {K : PySem.W.Frag} {n : String} {x y z : Bool} (h1 : kitB n "list" = some x) (h2 : kitB n "tuple" = some y) (h3 : kitB n "str" = some z) : PySem.W.kitAny K (.type n) [.type "list", .type "tuple", .type "str"] = some (x || y || z) := by
  refine kitAny_cons (kit_ty h1) (fun e1 => kitAny_cons (kit_ty h2) (fun e2 => kitAny_cons (kit_ty h3) (fun e3 => ?_) fun e3 => ?_) fun e2 => ?_) fun e1 => ?_
  · rw [e1, e2, e3]; rfl
  · rw [e1, e2, e3]; rfl
  · rw [e1, e2]; rfl
  · rw [e1]; rfl
theorem bulkAll_len : ∀ ds : List PyData, ds.length ≤ PyData.bulkAll ds
  | [] => Nat.zero_le _
  | d :: ds => by
    have := bulkAll_len ds
    simp only [PyData.bulkAll, List.length_cons]
    omega
/-- whether a value is a list, a tuple or a text, and its length -/
theorem len_case {K : PySem.W.Frag} {G : Hp} {b : Addr} {x : V} {d : PyData} (h : DP (hide G b) x d) (bad : BadPl d) :
    ∃ n bb, TyX K G x (.type n) ∧ PySem.W.kitAny K (.type n) [.type "list", .type "tuple", .type "str"] = some bb ∧ (bb = true → ∃ m : Nat, LenV K x G m ∧ m ≤ 300) := by
  have sub := hide_sub G b
  have bk := bad.2.1.2
  cases h with
  | non => exact ⟨_, _, .base .non, kit3 (x := false) (y := false) (z := false) (by decide +kernel) (by decide +kernel) (by decide +kernel), fun z => by cases z⟩
  | bl c => exact ⟨_, _, .base (.bl c), kit3 (x := false) (y := false) (z := false) (by decide +kernel) (by decide +kernel) (by decide +kernel), fun z => by cases z⟩
  | int i => exact ⟨_, _, .base (.int i), kit3 (x := false) (y := false) (z := false) (by decide +kernel) (by decide +kernel) (by decide +kernel), fun z => by cases z⟩
  | str x =>
    have e : x.length ≤ 60 := bk
    exact ⟨_, _, .base (.str x), kit3 (x := false) (y := false) (z := true) (by decide +kernel) (by decide +kernel) (by decide +kernel), fun _ => ⟨x.length, ⟨Nat.le_of_lt (small300 (by omega)), rfl⟩, by omega⟩⟩
  | dic a => exact ⟨_, _, .base (.dK (sub _ _ a)), kit3 (x := false) (y := false) (z := false) (by decide +kernel) (by decide +kernel) (by decide +kernel), fun z => by cases z⟩
  | @lst a xs ds e c =>
    have := bulkAll_len ds
    have : PyData.bulkAll ds ≤ 60 := bk
    have := c.len
    exact ⟨_, _, .base (.lst (sub _ _ e)), kit3 (x := true) (y := false) (z := false) (by decide +kernel) (by decide +kernel) (by decide +kernel), fun _ => ⟨xs.length, .inl ⟨xs, .inl (.inl (sub _ _ e)), rfl⟩, by omega⟩⟩
  | @tup a xs ds e c =>
    have := bad.2.2 ds rfl
    have := c.len
    exact ⟨_, _, .base (.tup (sub _ _ e)), kit3 (x := false) (y := true) (z := false) (by decide +kernel) (by decide +kernel) (by decide +kernel), fun _ => ⟨xs.length, .inr ⟨xs, .inl (.inl (sub _ _ e)), rfl⟩, by omega⟩⟩
/-- plant and bad, as they are shown -/
theorem Inn.dd {H1 G G' : Hp} {b p q z : Addr} {pl ss : List Int} {bs : List PyData} {n : Nat} (h : Inn H1 b p q z pl ss bs n G) (s : Same G G') : DDs G' [.ref p, .ref z] [.tuple (pl.map PyData.int), .list bs] := by
  have hp : DP (hide G b) (.ref p) (.tuple (pl.map PyData.int)) := .tup (hide_at (h.k.neT h.P.at_) h.P.at_) (DPs.ints pl)
  exact DPs.dd _ _ ((DPs.cons hp (.cons h.d .nil)).same ((hide_sub G b).trans s))
section
variable {P : Program} {w : World} {K : PySem.W.Frag} {mg : Str → Option Value} {base : Heap}
theorem law_body (T : Tx K mg) {f a : Addr} {cdv : Value} {st : Shared} {H : Hp} {ns : List Int} (hl : ns.length ≤ 63) (hS : SqL K H a (ns.map V.int)) (sb : ∃ mm, base.Ns sysModules mm) (hr : Room 12 (callerA.deeper (envOfC "law" (defScope sLaw) st.heap.objs.size f cdv))) :
    ∃ t, PSs (cxOf CX0 P w K mg base ["script", "k", "fount", "plant", "boxes", "bad", "at", "kept", "value", "many", "one"] "law" (defScope sLaw) f cdv callerA [] st H fun _ _ _ => False).nox (defBody sLaw) t ∧ t { nx := fun _ _ => V.non = .bl true, rt := fun v _ => v = .bl true } (start ["script", "k", "fount", "plant", "boxes", "bad", "at", "kept", "value", "many", "one"] [.ref a]) H := by
  have nd := scLaw.nd
  refine ⟨_, (pss_cons (ps_for PassesOwn.never rfl (pi_range1 (by rfl) T.n_range (pa_cons (pe_callB (call_max2 rfl) (by rfl) T.n_max (by decide +kernel) (pa_cons pe_int (pa_cons (pe_callB (call_min2 rfl) (by rfl) T.n_min (by decide +kernel) (pa_cons pe_int (pa_cons (pe_callB call_len_seq (by rfl) T.n_len PySem.boot_len (pa_cons (pv 0) pa_nil)) pa_nil))) pa_nil))) pa_nil)) (pg_name (i := 1) nd rfl (.inl rfl))
(pss_cons (ps_set (i := 2) nd rfl (.inl rfl) (pe_call (ok_fount T) (hr.mono (by omega)) (by rfl) T.g__law_fount T.F__law_fount.kp T.b__law_fount .nil pass0 (pa_cons (pv 0) (pa_cons (pv 1) pa_nil))))
(pss_cons (ps_set (i := 3) nd rfl (.inr rfl) (pe_call (ok_grown T) (hr.mono (by omega)) (by rfl) T.g__law_grown T.F__law_grown.kp T.b__law_grown .nil pass0 (pa_cons (pv 2) (pa_cons pe_int pa_nil))))
(pss_cons (ps_set (i := 4) nd rfl (.inr rfl) (pe_call (ok_filled T) (hr.mono (by omega)) (by rfl) T.g__law_filled T.F__law_filled.kp T.b__law_filled .nil pass0 (pa_cons (pv 2) (pa_cons (pv 3) pa_nil))))
(pss_cons (ps_set (i := 5) nd rfl (.inl rfl) (pe_mark (pe_lst (pa_cons pe_non (pa_cons pe_int (pa_cons pe_bl (pa_cons pe_str (pa_cons (pe_lst pa_nil) (pa_cons pe_dnewK (pa_cons (pe_callTy call_list_of (by rfl) T.n_list (by decide +kernel) (pa_cons (pv 4) pa_nil)) (pa_cons (pe_op op_catT (pv 4) (pe_tup (pa_cons (pe_op op_add (pe_callB (call_maxT rfl hr.units) (by rfl) T.n_max (by decide +kernel) (pa_cons (pv 4) pa_nil)) pe_int) pa_nil))) (pa_cons (pe_slice sl_tupT (pv 4) po_none (po_some (pe_un un_neg pe_int))) (pa_cons (pe_op op_catT (pe_slice sl_tupT (pv 4) po_none (po_some (pe_un un_neg pe_int))) (pe_tup (pa_cons pe_str pa_nil))) pa_nil)))))))))))))
(pss_cons (ps_set (i := 5) nd rfl (.inl rfl) (pe_mark (pe_op op_cat (pv 5) (pe_lst (pa_cons (pe_op op_catT (pe_slice sl_tupT (pv 4) po_none (po_some (pe_un un_neg pe_int))) (pe_tup (pa_cons pe_non pa_nil))) (pa_cons (pe_op op_catT (pe_slice sl_tupT (pv 4) po_none (po_some (pe_un un_neg pe_int))) (pe_tup (pa_cons pe_bl pa_nil))) (pa_cons (pe_op op_catT (pe_slice sl_tupT (pv 4) po_none (po_some (pe_un un_neg pe_int))) (pe_tup (pa_cons pe_bl pa_nil))) (pa_cons (pe_op op_catT (pe_slice sl_tupT (pv 4) po_none (po_some (pe_un un_neg pe_int))) (pe_tup (pa_cons (pe_tup (pa_cons pe_int pa_nil)) pa_nil))) (pa_cons (pe_tup (pa_cons (pv 4) pa_nil)) pa_nil)))))))))
(pss_cons (ps_set (i := 5) nd rfl (.inl rfl) (pe_mark (pe_op op_cat (pe_op op_cat (pv 5) (pe_lst (pa_cons (pe_op op_catT (pe_slice sl_tupT (pv 4) po_none (po_some (pe_un un_neg pe_int))) (pe_tup (pa_cons (pe_lst (pa_cons pe_int pa_nil)) pa_nil))) (pa_cons (pe_op op_catT (pe_slice sl_tupT (pv 4) po_none (po_some (pe_un un_neg pe_int))) (pe_tup (pa_cons pe_dnewK pa_nil))) pa_nil)))) (pe_op op_rep (pe_lst (pa_cons (pe_op op_catT (pe_slice sl_tupT (pv 4) po_none (po_some (pe_un un_neg pe_int))) (pe_slice sl_tupT (pv 4) po_none (po_some pe_int))) pa_nil)) (pe_callTy call_int1 (by rfl) T.n_int (by decide +kernel) (pa_cons (pe_cmpR op_gt (pe_callB call_len_seq (by rfl) T.n_len PySem.boot_len (pa_cons (pv 4) pa_nil)) pe_int (nomark _)) pa_nil))))))
(pss_cons (ps_set (i := 5) nd rfl (.inl rfl) (pe_mark (pe_op op_cat (pv 5) (pe_lst (pa_cons (pe_op op_catT (pv 4) (pe_slice sl_tupT (pv 4) po_none (po_some pe_int))) (pa_cons (pe_op op_catT (pv 4) (pe_op op_repV (pe_slice sl_tupT (pv 4) (po_some (pe_un un_neg pe_int)) po_none) pe_int)) (pa_cons (pe_op op_repV (pe_tup (pa_cons (pe_lst pa_nil) pa_nil)) (pe_callB call_len_seq (by rfl) T.n_len PySem.boot_len (pa_cons (pv 4) pa_nil))) (pa_cons (pe_op op_repV (pe_tup (pa_cons pe_dnewK pa_nil)) (pe_callB call_len_seq (by rfl) T.n_len PySem.boot_len (pa_cons (pv 4) pa_nil))) pa_nil))))))))
(pss_cons (ps_set (i := 6) nd rfl (.inr rfl) (pe_call (ok_sip T) (hr.mono (by omega)) (by rfl) T.g__law_sip T.F__law_sip.kp T.b__law_sip .nil pass0 (pa_cons (pv 2) (pa_cons (pe_callB call_len_seq (by rfl) T.n_len PySem.boot_len (pa_cons (pv 4) pa_nil)) pa_nil))))
(pss_cons (ps_set (i := 5) nd rfl (.inl rfl) (pe_op op_cat (pv 5) (pe_mark (pe_lc (own := [("one", 10)]) (g := gName 10) (tt := tYes) (te := (tOp rCatT (tOp rCatT (tSl rSlT (tVar 4) tNoPart (tPart (tVar 6))) (tTup (tCons (tVar 10) tNil))) (tSl rSlT (tVar 4) (tPart (tOp (rI0 fun i j => .int (i + j)) (tVar 6) (tC (.int 1)))) tNoPart))) rfl nd (pi_list (pe_lst (pa_cons pe_non (pa_cons pe_bl (pa_cons pe_str (pa_cons (pe_tup (pa_cons pe_int pa_nil)) (pa_cons (pe_lst (pa_cons pe_int pa_nil)) (pa_cons pe_dnewK pa_nil))))))))
(blkOk_by (N := ["script", "k", "fount", "plant", "boxes", "bad", "at", "kept", "value", "many", "one"]) (sc := defScope sLaw) (by decide +kernel)) (fun _ _ _ _ _ => (pg_name (i := 10) nd rfl (.inl rfl))) (fun _ _ _ _ _ => pts_nil) (fun _ _ _ _ _ => (pe_op op_catT (pe_op op_catT (pe_slice sl_tupT (pv 4) po_none (po_some (pv 6))) (pe_tup (pa_cons (pv 10) pa_nil))) (pe_slice sl_tupT (pv 4) (po_some (pe_op op_add (pv 6) pe_int)) po_none)))))))
(Evl.pss_cut (ps_if (pt_cmpR op_gt (pe_callB call_len_seq (by rfl) T.n_len PySem.boot_len (pa_cons (pv 4) pa_nil)) pe_int (nomark _))
(pss_one (ps_expr (pe_bm PySem.F.plainAttrs_list PySem.F.slot_list_append PySem.F.type_list_append mt_append (pv 5) (pa_cons (pe_mark (pe_op op_catT (pe_op op_catT (pe_slice sl_tupT (pv 4) po_none (po_some (pv 6))) (pe_tup (pa_cons (pe_ix ix_tup (pv 4) (pe_op op_sub (pv 6) pe_int) (fun _ _ => rfl)) pa_nil))) (pe_slice sl_tupT (pv 4) (po_some (pe_op op_add (pv 6) pe_int)) po_none))) pa_nil)))) pss_nil)
(pss_cons (ps_set (i := 7) nd rfl (.inl rfl) (pe_callB (call_reprDB sb rfl hr.units) (by rfl) T.n_repr (by decide +kernel) (pa_cons (pe_lst (pa_cons (pv 3) (pa_cons (pv 5) pa_nil))) pa_nil)))
(pss_cons (ps_for PassesOwn.never rfl (pi_list (pe_call (ok_noPl T) (hr.mono (by omega)) (by rfl) T.g__law_no_plants T.F__law_no_plants.kp T.b__law_no_plants .nil pass0 (pa_cons (pv 2) (pa_cons (pv 3) pa_nil)))) (pg_name (i := 8) nd rfl (.inl rfl))
(pss_cons (ps_if (PW.pt (pw_or (pt_cmpR op_ne (pe_call (ok_tried T) (hr.mono (by omega)) (by rfl) T.g__law_tried T.F__law_tried.kp T.b__law_tried .nil pass0 (pa_cons (pv 8) (pa_cons (pe_ix ix_list (pv 5) (pe_call (ok_sip T) (hr.mono (by omega)) (by rfl) T.g__law_sip T.F__law_sip.kp T.b__law_sip .nil pass0 (pa_cons (pv 2) (pa_cons (pe_callB call_len_seq (by rfl) T.n_len PySem.boot_len (pa_cons (pv 5) pa_nil)) pa_nil))) (fun _ _ => rfl)) pa_nil))) pe_str (nomark _)) (pw_or1 (pt_cmpR op_ne (pe_call (ok_tried T) (hr.mono (by omega)) (by rfl) T.g__law_tried T.F__law_tried.kp T.b__law_tried .nil pass0 (pa_cons (pv 8) (pa_cons (pv 4) pa_nil))) pe_str (nomark _)))))
(pss_one (ps_ret pe_bl)) pss_nil)
(pss_cons (ps_set (i := 9) nd rfl (.inl rfl) (pe_ifExp (pt_val (pe_callB call_isiT (by rfl) T.n_isinstance (by decide +kernel) (pa_cons (pv 8) (pa_cons (pe_tup (pa_cons (pe_bltn (v := .ty "list") (by rfl) T.n_list (by decide +kernel) rfl) (pa_cons (pe_bltn (v := .ty "tuple") (by rfl) T.n_tuple (by decide +kernel) rfl) (pa_cons (pe_bltn (v := .ty "str") (by rfl) T.n_str (by decide +kernel) rfl) pa_nil)))) pa_nil)))) (pe_callB call_len (by rfl) T.n_len PySem.boot_len (pa_cons (pv 8) pa_nil)) pe_int))
(pss_one (ps_if (pt_cmpR op_ne (pe_call (ok_tried T) (hr.mono (by omega)) (by rfl) T.g__law_tried T.F__law_tried.kp T.b__law_tried .nil pass0 (pa_cons (pv 8) (pa_cons (pe_callTy call_tuple_of (by rfl) T.n_tuple (by decide +kernel) (pa_cons (pe_listRg rfl (by rfl) T.n_list (prg_1 (by rfl) T.n_range (pe_op op_add (pv 9) pe_int))) pa_nil)) pa_nil))) pe_str (nomark _))
(pss_one (ps_ret pe_bl)) pss_nil)))))
(pss_cons (ps_if (pt_cmpR (op_neD hr.units) (pe_lc (own := [("value", 8)]) (g := gName 8) (tt := (tTest (tOp rNe (tCall spTried [] E0 (tCons (tVar 3) (tCons (tVar 8) tNil))) (tC (.str "stock"))))) (te := (tVar 8)) rfl nd (pi_list (pv 5))
(blkOk_by (N := ["script", "k", "fount", "plant", "boxes", "bad", "at", "kept", "value", "many", "one"]) (sc := defScope sLaw) (by decide +kernel)) (fun _ _ _ _ _ => (pg_name (i := 8) nd rfl (.inl rfl))) (fun _ _ _ _ _ => (pts_one (pt_cmpR op_ne (pe_call (ok_tried T) (hr.mono (by omega)) (by rfl) T.g__law_tried T.F__law_tried.kp T.b__law_tried .nil pass0 (pa_cons (pv 3) (pa_cons (pv 8) pa_nil))) pe_str (nomark _)))) (fun _ _ _ _ _ => (pv 8))) (pe_lst pa_nil) (nomark _))
(pss_one (ps_ret pe_bl)) pss_nil)
(pss_one (ps_if (PW.pt (pw_or (pt_cmpR op_ne (pe_call (ok_tried T) (hr.mono (by omega)) (by rfl) T.g__law_tried T.F__law_tried.kp T.b__law_tried .nil pass0 (pa_cons (pv 3) (pa_cons (pv 4) pa_nil))) pe_str (nomark _)) (pw_or1 (pt_cmpR op_ne (pe_callB (call_reprDB sb rfl hr.units) (by rfl) T.n_repr (by decide +kernel) (pa_cons (pe_lst (pa_cons (pv 3) (pa_cons (pv 5) pa_nil))) pa_nil)) (pv 7) (nomark _)))))
(pss_one (ps_ret pe_bl)) pss_nil))))))))))))))))
(pss_one (ps_ret pe_bl))), ?_⟩
  have el : ((ns.map V.int).length : Nat) = ns.length := List.length_map ..
  obtain ⟨m6, e6, l6⟩ : ∃ M : Nat, (if (if ((ns.map V.int).length : Int) < 6 then ((ns.map V.int).length : Int) else 6) > 1 then (if ((ns.map V.int).length : Int) < 6 then ((ns.map V.int).length : Int) else 6) else 1) = (M : Int) ∧ M ≤ 6 := by
    by_cases c1 : ((ns.map V.int).length : Int) < 6
    · rw [if_pos c1]
      by_cases c2 : ((ns.map V.int).length : Int) > 1
      · rw [if_pos c2]
        exact ⟨_, rfl, by omega⟩
      · rw [if_neg c2]
        exact ⟨1, rfl, by decide⟩
    · rw [if_neg c1, if_pos (by decide)]
      exact ⟨6, rfl, by decide⟩
  refine ⟨.ref a, rfl, a, _, rfl, .inl hS, _, _, rfl, _, _, rfl, (m6 : Int), congrArg (fun z => [V.int z]) e6, by omega, by omega, ?_⟩
  refine for_range (lo := 0) (n := m6) (fun i σ H' => ∃ (y1 y2 y3 y4 y5 y6 y7 y8 y9 : Option V), σ = [some (.ref a), y1, y2, y3, y4, y5, y6, y7, y8, y9, none] ∧ ExtN H H')
    ⟨none, none, none, none, none, none, none, none, none, rfl, ExtN.refl H⟩ (fun i σ H1 hi p1 => ?_) (fun σ H1 p1 => rfl)
  obtain ⟨y1, y2, y3, y4, y5, y6, y7, y8, y9, rfl, x1⟩ := p1
  refine ⟨.ref a, rfl, .int (0 + (i : Nat)), rfl, a, ns, i, congrArg (fun z => [V.ref a, V.int z]) (Int.zero_add _), sqL_ext x1 hS, by omega, fun b o nb pb => ?_⟩
  have x2 := same_extN (same_new (o := o) nb)
  refine ⟨.ref b, rfl, b, 40, 0, rfl, by decide, by decide, pb, by decide, fun H4 p pl k4 B4 np P4 lp => ?_⟩
  have x4 : ExtN H1 H4 := B4.barN.extN' nb x2
  have pb4 : p ≠ b := k4.neT P4.at_
  refine ⟨.ref b, rfl, .ref p, rfl, b, p, pl, 0 + 100, rfl, k4, by omega, P4, fun H5 q ss k5 B5 nq eq5 so => ?_⟩
  have x5 := B5.barN.extN' nb x4
  have P5 : PlantAt H5 p pl := ⟨B5 _ _ pb4 P4.at_, P4.ok⟩
  have qb : q ≠ b := k5.neT eq5
  clear k4 P4 x4 B5 B4 nq np pb x2
  have l1 : 1 ≤ ss.length := by have := so.len; omega
  have l40 : ss.length ≤ 40 := by have := so.len; omega
  have ss0 : ss ≠ [] := fun e => by rw [e] at l1; cases l1
  have eE : (intD ss).drop ((intD ss).length - 1) ≠ [] := fun e => by
    have := congrArg List.length e
    rw [List.length_drop, intD_len] at this
    have z : ([] : List PyData).length = 0 := rfl
    omega
  have dB5 : DP (hide H5 b) (.ref q) (.tuple (intD ss)) := .tup (hide_at qb eq5) (DPs.ints ss)
  refine Rd.mark (d := .list (bad1 ss)) (G := hide H5 b) ?_ (Same.refl _) k5.ne0 fun v6 H6 s6 d6 => ?_
  · have dB := dB5
    exact (rd_lst (rds_cons rd_non (rds_cons rd_int (rds_cons rd_bl (rds_cons rd_str (rds_cons (rd_lst rds_nil (by show 0 ≤ 300; decide)) (rds_cons rd_dic (rds_cons (rd_lstOf (rd_var rfl dB)) (rds_cons (rd_catT (rd_var rfl dB) (rd_tup (rds_cons (rd_add (rd_maxT (rd_var rfl dB) ss0) rd_int) rds_nil) (by show 1 ≤ 300; decide)) (by simp only [List.length_append, List.length_take, List.length_drop, List.length_cons, List.length_nil, List.length_flatten, List.length_replicate, intD_len, frontS]; omega)) (rds_cons (rd_lastT (rd_var rfl dB)) (rds_cons (rd_catT (rd_lastT (rd_var rfl dB)) (rd_tup (rds_cons rd_str rds_nil) (by show 1 ≤ 300; decide)) (by simp only [List.length_append, List.length_take, List.length_drop, List.length_cons, List.length_nil, List.length_flatten, List.length_replicate, intD_len, frontS]; omega)) rds_nil)))))))))) (by show 10 ≤ 300; decide))
  have k6 := k5.same s6
  refine Rd.mark (d := .list (bad1 ss ++ bad2 ss)) (G := hide H6 b) ?_ (Same.refl _) k6.ne0 fun v7 H7 s7 d7 => ?_
  · have dB := dB5.same (hide_same s6 b)
    have dX := d6
    exact (rd_cat (rd_var rfl dX) (rd_lst (rds_cons (rd_catT (rd_lastT (rd_var rfl dB)) (rd_tup (rds_cons rd_non rds_nil) (by show 1 ≤ 300; decide)) (by simp only [List.length_append, List.length_take, List.length_drop, List.length_cons, List.length_nil, List.length_flatten, List.length_replicate, intD_len, frontS]; omega)) (rds_cons (rd_catT (rd_lastT (rd_var rfl dB)) (rd_tup (rds_cons rd_bl rds_nil) (by show 1 ≤ 300; decide)) (by simp only [List.length_append, List.length_take, List.length_drop, List.length_cons, List.length_nil, List.length_flatten, List.length_replicate, intD_len, frontS]; omega)) (rds_cons (rd_catT (rd_lastT (rd_var rfl dB)) (rd_tup (rds_cons rd_bl rds_nil) (by show 1 ≤ 300; decide)) (by simp only [List.length_append, List.length_take, List.length_drop, List.length_cons, List.length_nil, List.length_flatten, List.length_replicate, intD_len, frontS]; omega)) (rds_cons (rd_catT (rd_lastT (rd_var rfl dB)) (rd_tup (rds_cons (rd_tup (rds_cons rd_int rds_nil) (by show 1 ≤ 300; decide)) rds_nil) (by show 1 ≤ 300; decide)) (by simp only [List.length_append, List.length_take, List.length_drop, List.length_cons, List.length_nil, List.length_flatten, List.length_replicate, intD_len, frontS]; omega)) (rds_cons (rd_tup (rds_cons (rd_var rfl dB) rds_nil) (by show 1 ≤ 300; decide)) rds_nil))))) (by show 5 ≤ 300; decide)) (by show 10 + 5 ≤ 300; decide))
  have k7 := k6.same s7
  obtain ⟨n0, e0, l0, z0⟩ : ∃ n0 : Nat, (if decide ((1 : Int) < (((intD ss).length : Nat) : Int)) = true then (1 : Int) else 0) = (n0 : Int) ∧ n0 ≤ 1 ∧ (n0 ≠ 0 → 2 ≤ ss.length) := by
    by_cases c : 1 < ss.length
    · exact ⟨1, if_pos (decide_eq_true (by rw [intD_len]; omega)), Nat.le_refl _, fun _ => c⟩
    · exact ⟨0, if_neg (by rw [decide_eq_true_eq, intD_len]; omega), Nat.zero_le _, fun z => absurd rfl z⟩
  refine Rd.mark (d := .list (bad1 ss ++ bad2 ss ++ bad3 ss ++ bad3b ss n0)) (G := hide H7 b) ?_ (Same.refl _) k7.ne0 fun v8 H8 s8 d8 => ?_
  · have dB := dB5.same (hide_same (s6.trans s7) b)
    have dX := d7
    exact (rd_cat (rd_cat (rd_var rfl dX) (rd_lst (rds_cons (rd_catT (rd_lastT (rd_var rfl dB)) (rd_tup (rds_cons (rd_lst (rds_cons rd_int rds_nil) (by show 1 ≤ 300; decide)) rds_nil) (by show 1 ≤ 300; decide)) (by simp only [List.length_append, List.length_take, List.length_drop, List.length_cons, List.length_nil, List.length_flatten, List.length_replicate, intD_len, frontS]; omega)) (rds_cons (rd_catT (rd_lastT (rd_var rfl dB)) (rd_tup (rds_cons rd_dic rds_nil) (by show 1 ≤ 300; decide)) (by simp only [List.length_append, List.length_take, List.length_drop, List.length_cons, List.length_nil, List.length_flatten, List.length_replicate, intD_len, frontS]; omega)) rds_nil)) (by show 2 ≤ 300; decide)) (by show 15 + 2 ≤ 300; decide)) (rd_repB (rd_lst (rds_cons (rd_catT (rd_lastT (rd_var rfl dB)) (rd_oneT (rd_var rfl dB)) (by simp only [List.length_append, List.length_take, List.length_drop, List.length_cons, List.length_nil, List.length_flatten, List.length_replicate, intD_len, frontS]; omega)) rds_nil) (by show 1 ≤ 300; decide)) (rd_intB (rd_gt (rd_lenT (rd_var rfl dB)) rd_int)) n0 e0 l0 (by show 1 ≤ 300; decide)) (Nat.le_trans (Nat.add_le_add (Nat.le_refl 17) (bad3b_len ss l0)) (by decide)))
  have k8 := k7.same s8
  refine Rd.mark (d := .list (bad1 ss ++ bad2 ss ++ bad3 ss ++ bad3b ss n0 ++ bad4 ss)) (G := hide H8 b) ?_ (Same.refl _) k8.ne0 fun v9 H9 s9 d9 => ?_
  · have dB := dB5.same (hide_same (s6.trans (s7.trans s8)) b)
    have dX := d8
    exact (rd_cat (rd_var rfl dX) (rd_lst (rds_cons (rd_catT (rd_var rfl dB) (rd_oneT (rd_var rfl dB)) (by simp only [List.length_append, List.length_take, List.length_drop, List.length_cons, List.length_nil, List.length_flatten, List.length_replicate, intD_len, frontS]; omega)) (rds_cons (rd_catT (rd_var rfl dB) (rd_repT (rd_endT (rd_var rfl dB)) rd_int 2 rfl eE (by decide) (by decide) (by simp only [List.length_append, List.length_take, List.length_drop, List.length_cons, List.length_nil, List.length_flatten, List.length_replicate, intD_len, frontS]; omega)) (by simp [List.replicate, intD_len]; omega)) (rds_cons (rd_repT (rd_tup (rds_cons (rd_lst rds_nil (by decide)) rds_nil) (by show 1 ≤ 300; decide)) (rd_lenT (rd_var rfl dB)) _ rfl (by decide) (by rw [intD_len]; omega) (by rw [intD_len]; omega) (by show 1 ≤ 300; decide)) (rds_cons (rd_repT (rd_tup (rds_cons rd_dic rds_nil) (by show 1 ≤ 300; decide)) (rd_lenT (rd_var rfl dB)) _ rfl (by decide) (by rw [intD_len]; omega) (by rw [intD_len]; omega) (by show 1 ≤ 300; decide)) rds_nil)))) (by show 4 ≤ 300; decide)) (by rw [List.length_append]; exact Nat.le_trans (Nat.add_le_add_right (Nat.add_le_add (Nat.le_refl 17) (bad3b_len ss l0)) 4) (by decide)))
  have k9 := k8.same s9
  have s59 := s6.trans (s7.trans (s8.trans s9))
  have x9 := x5.trans (same_extN s59)
  have P9 := P5.same s59
  have eq9 := s59 _ _ eq5
  have dB9 := dB5.same (hide_same s59 b)
  clear d6 d7 d8 s6 s7 s8 s9 s59 k6 k7 k8 k5 dB5 x5 P5 eq5 e0
  have el2 : ((ss.map V.int).length : Nat) = ss.length := List.length_map ..
  refine ⟨.ref b, rfl, .ref q, rfl, q, _, rfl, .inr (.inl (.inl eq9)), b, _, _, rfl, by rw [el2]; omega, by rw [el2]; omega, k9, by omega, fun r H10 r0 r1 k10 B10 O10 => ?_⟩
  rw [el2] at r1
  obtain ⟨k, rfl⟩ := Int.eq_ofNat_of_zero_le r0
  have hk : k < ss.length := by omega
  obtain ⟨z9, rfl⟩ := dp_isL d9
  have P10 : PlantAt H10 p pl := ⟨B10 _ _ pb4 P9.at_, P9.ok⟩
  have eq10 := B10 _ _ qb eq9
  have x10 := B10.barN.extN' nb x9
  have d10 := d9.same (hide_bar B10)
  have dB10 := dB9.same (hide_bar B10)
  clear k9 B10 O10 d9 dB9 eq9 P9 x9
  refine ⟨.ref z9, rfl, Rd.mark (d := .list (bad5 ss k)) (G := hide H10 b) ?_ (Same.refl _) k10.ne0 fun v11 H11 s11 d11 => ?_⟩
  · refine rd_lc (ds := odd5) (rd_lst (rds_cons rd_non (rds_cons rd_bl (rds_cons rd_str (rds_cons (rd_tup (rds_cons rd_int rds_nil) (by show 1 ≤ 300; decide)) (rds_cons (rd_lst (rds_cons rd_int rds_nil) (by show 1 ≤ 300; decide)) (rds_cons rd_dic rds_nil)))))) (by show 6 ≤ 300; decide)) (by show 6 ≤ 300; decide) (fun _ => rfl) fun d hd D v G' s hv => ?_
    have dB := dB10.same s
    exact rd_catT (rd_catT (rd_toT (rd_var rfl dB) rfl rfl) (rd_tup (rds_cons (rd_var rfl hv) rds_nil) (by show 1 ≤ 300; decide)) (by rw [List.length_take, List.length_map]; show _ + 1 ≤ _; omega)) (rd_nextT (rd_var rfl dB) rfl rfl) (by rw [List.length_append, List.length_take, List.length_drop, List.length_map]; show _ + 1 + _ ≤ _; omega)
  have k11 := k10.same s11
  obtain ⟨z11, rfl⟩ := dp_isL d11
  obtain ⟨xs11, e11, dd11⟩ := dp_lst d11
  obtain ⟨xs9, e9, dd9⟩ := dp_lst (d10.same (hide_same s11 b))
  have ddA := dd9.app dd11
  have lenA := ddA.len
  have lenU := badUp_len ss k l0
  refine ⟨z9, z11, xs9, xs11, rfl, rfl, e9, e11, ?_, fun z nz => ?_⟩
  · rw [List.length_append] at lenA
    exact Nat.le_of_lt (small300 (by rw [lenA]; exact Nat.le_trans lenU.1 (by decide)))
  have zb : z ≠ b := k11.some nz
  have zn : NewN H1 z := fun o h => by
    by_cases c : ∃ ps, o = .tbl ps
    · exact c
    · have := (x10.trans (same_extN s11)) z o h fun ps e => c ⟨ps, e⟩
      rw [nz] at this
      cases this
  have sz := same_new (o := .lst (xs9 ++ xs11)) nz
  have s12 := s11.trans sz
  have P12 := P10.same s12
  have eq12 := s12 _ _ eq10
  have x12 := x10.trans (same_extN s12)
  have k12 := k11.same sz
  have ez12 : upd H11 z (.lst (xs9 ++ xs11)) z = some (.lst (xs9 ++ xs11)) := upd_same
  have dh12 : DPs (hides [z, b] (upd H11 z (.lst (xs9 ++ xs11)))) (xs9 ++ xs11) (badUp ss n0 k) := ddA.same fun c o h => by
    have n1 := hide_sub H11 b _ _ h
    refine hides_at (fun m => ?_) (sz _ _ n1)
    rcases List.mem_cons.mp m with rfl | m
    · rw [nz] at n1; cases n1
    · rw [List.mem_singleton.mp m] at h
      unfold hide at h
      rw [if_pos rfl] at h
      cases h
  clear d10 d11 e11 dd11 e9 dd9 ddA P10 eq10 x10 k10 k11 s11 dB10 s12
  revert P12 eq12 x12 k12 ez12 dh12
  generalize upd H11 z (.lst (xs9 ++ xs11)) = H12
  clear sz nz
  intro P12 eq12 x12 k12 ez12 dh12
  have up : ∀ d ∈ badUp ss n0 k, BadSt ss.length d := bad_up l1 l40 so.sm l0 z0 hk
  have open12 : ∀ {G : Hp} {xs : List V} {ds : List PyData}, G z = some (.lst xs) → DPs (hides [z, b] G) xs ds → DP (hide G b) (.ref z) (.list ds) := fun e h => .lst (hide_at zb e) (h.same fun c o h => by
    have n1 := hides_sub [z, b] _ _ _ h
    refine hide_at (fun m => ?_) n1
    unfold hides at h
    rw [if_pos (by rw [m]; simp)] at h
    cases h)
  refine ⟨fun σ G => ∃ bs n, σ = [some (.ref a), some (.int (0 + (i : Nat))), some (.ref b), some (.ref p), some (.ref q), some (.ref z), some (.int (k : Nat)), y7, y8, y9, none] ∧ Inn H1 b p q z pl ss bs n G ∧ (∀ d ∈ bs, BadSt ss.length d) ∧ bs.length ≤ 30 ∧ 1 ≤ bs.length ∧ n ≤ 500, ?_, fun σ G pw => ?_⟩
  · by_cases c2 : 1 < ss.length
    · refine ⟨.ref q, rfl, q, _, rfl, .inr (.inl (.inl eq12)), _, _, rfl, rfl, true, congrArg V.bl (decide_eq_true (by rw [el2]; omega)), iteT ?_⟩
      obtain ⟨j, ej⟩ : ∃ j : Nat, j = if k = 0 then ss.length - 1 else k - 1 := ⟨_, rfl⟩
      have hj : j < ss.length := by
        rw [ej]
        split <;> omega
      have ne : j ≠ k := by
        rw [ej]
        split <;> omega
      refine ⟨.ref z, rfl, .inl ⟨rfl, _, .inl (.inl ez12)⟩, Rd.markL (bs := [z, b]) (d := putP ss k (.int ss[j])) (G := hides [z, b] H12) ?_ (Same.refl _) (ther_two k12.ne0 (by rw [ez12]; exact fun e => by cases e)) fun v13 H13 s13 d13 => ?_⟩
      · have qz : q ≠ z := fun e => by
          rw [e, ez12] at eq12
          cases eq12
        have dB : DP (hides [z, b] H12) (.ref q) (.tuple (intD ss)) := .tup (hides_at (by simp [qz, qb]) eq12) (DPs.ints ss)
        exact rd_catT (rd_catT (rd_toT (rd_var rfl dB) rfl rfl) (rd_tup (rds_cons (rd_ixT (K := K) (j := j) (rd_var rfl dB) (rd_sub (rd_var rfl (.int _)) rd_int) (fun xs lx => atI_before (by rw [lx, intD_len]; omega) (by rw [lx, intD_len]; exact ej)) (by show (ss.map PyData.int)[j]? = _; rw [List.getElem?_map, List.getElem?_eq_getElem hj]; rfl)) rds_nil) (by show 1 ≤ 300; decide)) (by rw [List.length_take, List.length_map]; show _ + 1 ≤ _; omega)) (rd_nextT (rd_var rfl dB) rfl rfl) (by rw [List.length_append, List.length_take, List.length_drop, List.length_map]; show _ + 1 + _ ≤ _; omega)
      have ez13 := s13 _ _ ez12
      refine ⟨z, _, v13, rfl, rfl, ez13, by rw [lenA]; exact small300 (Nat.le_trans lenU.1 (by decide)), ?_⟩
      have pz : p ≠ z := fun e => by
        have := P12.at_
        rw [e, ez12] at this
        cases this
      have qz : q ≠ z := fun e => by
        rw [e, ez12] at eq12
        cases eq12
      refine ⟨badUp ss n0 k ++ [putP ss k (.int ss[j])], 500, rfl, ⟨?_, ?_, ⟨?_, P12.ok⟩, ?_, ?_⟩, fun d hd => ?_, ?_, ?_, ?_⟩
      · intro c o h nt
        have hz : c ≠ z := fun e => by
          obtain ⟨ps, e2⟩ := zn o (e ▸ h)
          exact nt ps e2
        rw [upd_ne hz]
        exact s13 _ _ (x12 _ _ h nt)
      · obtain ⟨u1, u2, u3, uq, ur⟩ := (k12.mono (by omega : _ ≤ 500)).same s13
        exact ⟨u1, u2, u3, (upd_ne (Ne.symm zb)).trans uq, ur⟩
      · rw [upd_ne pz]
        exact s13 _ _ P12.at_
      · rw [upd_ne qz]
        exact s13 _ _ eq12
      · refine open12 upd_same ?_
        rw [hides_upd (by simp)]
        exact (dh12.same (hides_same s13 _)).app (.cons d13 .nil)
      · rcases List.mem_append.mp hd with hd | hd
        · exact up d hd
        · rw [List.mem_singleton.mp hd]
          exact bad_twice l40 so.sm hk hj ne
      · rw [List.length_append]
        show _ + 1 ≤ _
        omega
      · rw [List.length_append]
        show 1 ≤ _ + 1
        omega
      · exact Nat.le_refl _
    · refine ⟨.ref q, rfl, q, _, rfl, .inr (.inl (.inl eq12)), _, _, rfl, rfl, false, congrArg V.bl (decide_eq_false (by rw [el2]; omega)), iteF ?_⟩
      exact ⟨badUp ss n0 k, _, rfl, ⟨x12, k12, P12, eq12, open12 ez12 dh12⟩, up, Nat.le_trans lenU.1 (by decide), lenU.2, by omega⟩
  · obtain ⟨bs, n, rfl, I, bad, lb, lb1, ln⟩ := pw
    clear open12 dh12 ez12 zn up k12 P12 eq12 x12 lenA lenU
    have big : StockBig pl ss := ⟨so.len, so.nd, fun x hx => by have := so.sm x hx; omega⟩
    have smP : ∀ x ∈ pl, x.natAbs < 10 ^ 50 := fun x hx => by
      obtain ⟨i, hi⟩ := List.mem_iff_getElem?.mp hx
      have lt := (List.getElem?_eq_some_iff.mp hi).1
      obtain ⟨h0, h1⟩ := I.P.ok.ok i x hi
      omega
    have nice := nice_both smP (by omega) (fun d hd => (bad d hd).1) lb
    refine ⟨.ref p, rfl, .ref z, rfl, (by show 2 ≤ sizeLine; decide), fun u0 nu0 => ?_⟩
    have su0 := same_new (o := .lst [.ref p, .ref z]) nu0
    refine ⟨.ref u0, .list [.tuple (pl.map PyData.int), .list bs], 4000, rfl, .lst upd_same (I.dd su0), nice, by decide, ?_⟩
    have I1 := I.ext (same_extN su0)
    generalize upd G u0 (.lst [.ref p, .ref z]) = G1 at I1 ⊢
    clear su0 nu0 I
    refine ⟨.ref b, rfl, .ref p, rfl, b, p, pl, n, rfl, I1.k, by omega, I1.P, fun G2 w2 ds k2 B2 d2 bp l32 => ?_⟩
    have I2 := I1.bar nb k2 B2
    obtain ⟨l, rfl⟩ := dp_isL d2
    have lne : l ≠ b := dp_neB d2
    obtain ⟨xs, e2, dd2⟩ := dp_lst d2
    clear d2 B2 k2 I1
    refine ⟨l, rfl, ⟨_, .inl (.inl e2)⟩, ?_⟩
    refine for_list (xs := xs) (fun i' σ G => ∃ (w8 w9 : Option V), σ = [some (.ref a), some (.int (0 + (i : Nat))), some (.ref b), some (.ref p), some (.ref q), some (.ref z), some (.int (k : Nat)), some (.str (PyData.list [.tuple (pl.map PyData.int), .list bs]).shown), w8, w9, none] ∧ Inn H1 b p q z pl ss bs (n + 1 + i') G ∧ G l = some (.lst xs) ∧ DPs (hide G b) xs ds)
      ⟨y8, y9, rfl, I2, e2, dd2⟩ (fun i' σ G _ p1 => let ⟨_, _, _, _, e, _⟩ := p1; .inl (.inl e)) (fun i' x σ G ex p1 => ?_) (fun σ G p1 => ?_)
    · obtain ⟨w8, w9, rfl, I, e, dd⟩ := p1
      have li := (List.getElem?_eq_some_iff.mp ex).1
      rw [dd2.len] at li
      obtain ⟨d, ed, hd⟩ := dd.get i' x ex
      have bd := bp d (List.mem_of_getElem? ed)
      have fits : ∀ {G' : Hp}, ExtN (hide G b) G' → FitsIs G' x false := fun e => FitsIs.ext e (bd.1 ▸ hd.fits bd.2.2)
      obtain ⟨zs, ez, dz⟩ := dp_lst I.d
      have zne : z ≠ b := dp_neB I.d
      have lz := dz.len
      refine ⟨x, rfl, .ref z, rfl, .ref b, rfl, .ref z, rfl, z, _, rfl, .inl (.inl (.inl ez)), b, _, _, rfl, by omega, by omega, I.k, by omega, fun r G3 r0 r1 k3 B3 O3 => ?_⟩
      have I3 := I.bar nb k3 B3
      obtain ⟨m, rfl⟩ := Int.eq_ofNat_of_zero_le r0
      have hm : m < zs.length := by omega
      have x3 : ExtN (hide G b) G3 := (same_extN (hide_bar B3)).trans (same_extN (hide_sub G3 b))
      have e3 := B3 _ _ lne e
      have dd3 := dd.same (hide_bar B3)
      refine ⟨z, zs, m, zs[m], rfl, rfl, .inl (.inl (B3 _ _ zne ez)), atI_nat (List.getElem?_eq_getElem hm), x, zs[m], rfl, .inl ⟨fits x3, fun G4 x4 => ⟨rfl, _, rfl, iteF ?_⟩⟩⟩
      refine ⟨x, rfl, .ref q, rfl, x, .ref q, rfl, .inl ⟨fits (x3.trans x4), fun G5 x5 => ⟨rfl, _, rfl, iteF ?_⟩⟩⟩
      have x35 := x4.trans x5
      have I5 := I3.ext x35
      have e5 := extN_lst x35 e3
      have dd5 := DPs.ext (hide_extN x35 b) _ _ dd3
      have hd5 := DP.ext (((same_extN (hide_bar B3)).trans (hide_extN x35 b))) _ _ hd
      have fits5 : ∀ {G' : Hp}, ExtN G5 G' → FitsIs G' x false := fun e => fits ((x3.trans x35).trans e)
      clear I3 e3 dd3 x3 B3 O3 k3 I e dd hd fits dz ez
      refine ⟨x, rfl, (by show 3 ≤ sizeLine; decide), fun tp ntp => ?_⟩
      have stp := same_new (o := .tup [.ty "list", .ty "tuple", .ty "str"]) ntp
      obtain ⟨ty, bb, hty, hkit, hlen⟩ := len_case (K := K) (hd5.same (hide_same stp b)) bd
      refine ⟨x, tp, _, .type ty, _, bb, rfl, upd_same, .cons (.ty _) (.cons (.ty _) (.cons (.ty _) .nil)), hty, hkit, bb, rfl, ?_⟩
      cases bb with
      | true =>
        obtain ⟨m, lv, lm⟩ := hlen rfl
        refine iteT ⟨x, rfl, x, m, rfl, lv, ?_⟩
        refine ⟨x, rfl, .int (m : Nat), rfl, (m : Nat), 1, rfl, rfl, (m : Nat) + 1, rfl, RgOk.of_le (by decide) (by omega) (by decide) (by omega), fun l1 n1 => ⟨l1, _, rfl, .inl ⟨.inl (.inl upd_same), fun t nt => ?_⟩⟩⟩
        have s7 := stp.trans ((same_new n1).trans (same_new (o := .tup (rgV 0 ((m : Nat) + 1))) nt))
        refine ⟨x, .ref t, rfl, .inl ⟨fits5 (same_extN s7), fun G7 x7 => ⟨rfl, _, rfl, iteF ?_⟩⟩⟩
        have xf := (same_extN s7).trans x7
        exact ⟨_, _, rfl, I5.ext xf, extN_lst xf e5, DPs.ext (hide_extN xf b) _ _ dd5⟩
      | false =>
        refine iteF ?_
        refine ⟨x, rfl, .int (0 : Int), rfl, (0 : Int), 1, rfl, rfl, (0 : Int) + 1, rfl, RgOk.of_le (by decide) (by omega) (by decide) (by omega), fun l1 n1 => ⟨l1, _, rfl, .inl ⟨.inl (.inl upd_same), fun t nt => ?_⟩⟩⟩
        have s7 := stp.trans ((same_new n1).trans (same_new (o := .tup (rgV 0 (0 + 1))) nt))
        refine ⟨x, .ref t, rfl, .inl ⟨fits5 (same_extN s7), fun G7 x7 => ⟨rfl, _, rfl, iteF ?_⟩⟩⟩
        have xf := (same_extN s7).trans x7
        exact ⟨_, _, rfl, I5.ext xf, extN_lst xf e5, DPs.ext (hide_extN xf b) _ _ dd5⟩
    · obtain ⟨w8, w9, rfl, I, e, dd⟩ := p1
      obtain ⟨zs, ez, dz⟩ := dp_lst I.d
      refine ⟨.ref z, rfl, z, rfl, ⟨_, .inl (.inl ez)⟩, fun D nD => ?_⟩
      have sD := same_new (o := .lst []) nD
      refine lc_list (K := K) (xs := zs) (fun j G' => Inn H1 b p q z pl ss bs (n + 1 + xs.length) G' ∧ G' z = some (.lst zs) ∧ DPs (hide G' b) zs bs ∧ G' D = some (.lst [])) ⟨I.ext (same_extN sD), sD _ _ ez, dz.same (hide_same sD b), upd_same⟩ (fun j G' _ p1 => .inl (.inl p1.2.1)) (fun j y G' ey p1 => ?_) (fun G' p1 => ?_)
      · obtain ⟨I', ez', dz', eD⟩ := p1
        obtain ⟨d, ed, hd⟩ := dz'.get j y ey
        have bd := bad d (List.mem_of_getElem? ed)
        have ns : NotStock G' pl y := by
          have := StIs.ext (same_extN (hide_sub G' b)) (hd.notSt bd)
          rw [so.len] at this
          exact this
        refine ⟨rfl, .ref p, rfl, y, rfl, .ref p, y, rfl, .inr (.inl ⟨p, pl, rfl, I'.P, ns, fun G2 x2 => ⟨rfl, _, rfl, iteF ⟨I'.ext x2, extN_lst x2 ez', DPs.ext (hide_extN x2 b) _ _ dz', extN_lst x2 eD⟩⟩⟩)⟩
      · obtain ⟨I', _, _, eD⟩ := p1
        refine ⟨Nat.zero_le _, fun e0 ne0 => ?_⟩
        have s0 := same_new (o := .lst []) ne0
        refine ⟨.list [], .list [], .lst (.inl (.inl (s0 _ _ eD))) .nil, .lst (.inl (.inl upd_same)) .nil, shaped_ints [], shaped_ints [], _, rfl, iteF ?_⟩
        have I0 := I'.ext (same_extN s0)
        refine ⟨.ref p, rfl, .ref q, rfl, .ref p, .ref q, rfl, .inr (.inr ⟨p, q, pl, ss, rfl, rfl, I0.P, .inl I0.q_, big, fun G3 x3 => ⟨rfl, _, rfl, iteF ?_⟩⟩)⟩
        have I3 := I0.ext x3
        refine ⟨.ref p, rfl, .ref z, rfl, (by show 2 ≤ sizeLine; decide), fun u1 nu1 => ⟨.ref u1, .list [.tuple (pl.map PyData.int), .list bs], 4000, rfl, .lst upd_same (I3.dd (same_new nu1)), nice, by decide, _, rfl, rfl, _, rfl, iteNS rfl ?_⟩⟩
        exact ⟨_, _, _, _, _, _, _, _, _, rfl, x1.trans (I3.x.trans (same_extN (same_new nu1)))⟩
end
end PT

set_option maxHeartbeats 8000000
/-! the end: what the top has left, and the law's call -/
namespace PT
open PySem PySem.Spec PyProof.Rows L2
theorem all_mk {l : PySem.W.OpenLaw} {w : World} {K : PySem.W.Frag} {mg : Str → Option Value} {fa a : Addr} {st : Shared} {base : Heap} {H : Hp} {ns : List Int} {p18 p19 p20 p21 p22 p24 p26 p27 p28 p29 p30 p31 p32 p33 p34 : Addr} {t_MOST_STATIONS : Tok}
    (X : K.In st.heap) (G : st.heap.Ns mainGlobals mg) (hfa : mg "law" = some (.ref fa)) (hl : ns.length ≤ 63) (hS : SqL K H a (ns.map V.int)) (en : Env0 l.prog w K mg base callerA [] st H) (sb : ∃ mm, base.Ns sysModules mm)
    {od18 an18 od19 an19 od20 an20 od21 an21 od22 an22 od24 an24 od26 an26 od27 an27 od28 an28 od29 an29 od30 an30 od31 an31 od32 an32 od33 an33 od34 an34 : Option Addr} {sl18 sl19 sl20 sl21 sl22 sl24 sl26 sl27 sl28 sl29 sl30 sl31 sl32 sl33 sl34 : Array (Option Value)} {oc18 kV18 dc18 pm18 cd18 ct18 oc19 kV19 dc19 pm19 cd19 ct19 oc20 kV20 dc20 pm20 cd20 ct20 oc21 kV21 dc21 pm21 cd21 ct21 oc22 kV22 dc22 pm22 cd22 ct22 oc24 kV24 dc24 pm24 cd24 ct24 oc26 kV26 dc26 pm26 cd26 ct26 oc27 kV27 dc27 pm27 cd27 ct27 oc28 kV28 dc28 pm28 cd28 ct28 oc29 kV29 dc29 pm29 cd29 ct29 oc30 kV30 dc30 pm30 cd30 ct30 oc31 kV31 dc31 pm31 cd31 ct31 oc32 kV32 dc32 pm32 cd32 ct32 oc33 kV33 dc33 pm33 cd33 ct33 oc34 kV34 dc34 pm34 cd34 ct34 : Value}
    (a18 : PySem.W.nsIn K mainGlobals "is_integer" = some (some (.ref p18))) (l18 : K.lookup p18 = some ⟨oc18, od18, .func (PySem.W.fnOf "is_integer" "is_integer" (defArgs sIsInteger) (defBody sIsInteger) (defScope sIsInteger) .none kV18 dc18 pm18 an18 cd18 ct18), sl18⟩) (c18 : PySem.W.codeIn K cd18 "is_integer" = true) (k18 : PySem.W.keepIn K (.ref p18) = true)
    (a19 : PySem.W.nsIn K mainGlobals "fits_plant" = some (some (.ref p19))) (l19 : K.lookup p19 = some ⟨oc19, od19, .func (PySem.W.fnOf "fits_plant" "fits_plant" (defArgs sFitsPlant) (defBody sFitsPlant) (defScope sFitsPlant) .none kV19 dc19 pm19 an19 cd19 ct19), sl19⟩) (c19 : PySem.W.codeIn K cd19 "fits_plant" = true) (k19 : PySem.W.keepIn K (.ref p19) = true)
    (a20 : PySem.W.nsIn K mainGlobals "fits_stock" = some (some (.ref p20))) (l20 : K.lookup p20 = some ⟨oc20, od20, .func (PySem.W.fnOf "fits_stock" "fits_stock" (defArgs sFitsStock) (defBody sFitsStock) (defScope sFitsStock) .none kV20 dc20 pm20 an20 cd20 ct20), sl20⟩) (c20 : PySem.W.codeIn K cd20 "fits_stock" = true) (k20 : PySem.W.keepIn K (.ref p20) = true)
    (a21 : PySem.W.nsIn K mainGlobals "check_plant" = some (some (.ref p21))) (l21 : K.lookup p21 = some ⟨oc21, od21, .func (PySem.W.fnOf "check_plant" "check_plant" (defArgs sCheckPlant) (defBody sCheckPlant) (defScope sCheckPlant) .none kV21 dc21 pm21 an21 cd21 ct21), sl21⟩) (c21 : PySem.W.codeIn K cd21 "check_plant" = true) (k21 : PySem.W.keepIn K (.ref p21) = true)
    (a22 : PySem.W.nsIn K mainGlobals "check_stock" = some (some (.ref p22))) (l22 : K.lookup p22 = some ⟨oc22, od22, .func (PySem.W.fnOf "check_stock" "check_stock" (defArgs sCheckStock) (defBody sCheckStock) (defScope sCheckStock) .none kV22 dc22 pm22 an22 cd22 ct22), sl22⟩) (c22 : PySem.W.codeIn K cd22 "check_stock" = true) (k22 : PySem.W.keepIn K (.ref p22) = true)
    (a24 : PySem.W.nsIn K mainGlobals "show_plant" = some (some (.ref p24))) (l24 : K.lookup p24 = some ⟨oc24, od24, .func (PySem.W.fnOf "show_plant" "show_plant" (defArgs sShowPlant) (defBody sShowPlant) (defScope sShowPlant) .none kV24 dc24 pm24 an24 cd24 ct24), sl24⟩) (c24 : PySem.W.codeIn K cd24 "show_plant" = true) (k24 : PySem.W.keepIn K (.ref p24) = true)
    (a26 : PySem.W.nsIn K mainGlobals "_law_fount" = some (some (.ref p26))) (l26 : K.lookup p26 = some ⟨oc26, od26, .func (PySem.W.fnOf "_law_fount" "_law_fount" (defArgs sLawFount) (defBody sLawFount) (defScope sLawFount) .none kV26 dc26 pm26 an26 cd26 ct26), sl26⟩) (c26 : PySem.W.codeIn K cd26 "_law_fount" = true) (k26 : PySem.W.keepIn K (.ref p26) = true)
    (a27 : PySem.W.nsIn K mainGlobals "_law_sip" = some (some (.ref p27))) (l27 : K.lookup p27 = some ⟨oc27, od27, .func (PySem.W.fnOf "_law_sip" "_law_sip" (defArgs sLawSip) (defBody sLawSip) (defScope sLawSip) .none kV27 dc27 pm27 an27 cd27 ct27), sl27⟩) (c27 : PySem.W.codeIn K cd27 "_law_sip" = true) (k27 : PySem.W.keepIn K (.ref p27) = true)
    (a28 : PySem.W.nsIn K mainGlobals "_law_mixed" = some (some (.ref p28))) (l28 : K.lookup p28 = some ⟨oc28, od28, .func (PySem.W.fnOf "_law_mixed" "_law_mixed" (defArgs sLawMixed) (defBody sLawMixed) (defScope sLawMixed) .none kV28 dc28 pm28 an28 cd28 ct28), sl28⟩) (c28 : PySem.W.codeIn K cd28 "_law_mixed" = true) (k28 : PySem.W.keepIn K (.ref p28) = true)
    (a29 : PySem.W.nsIn K mainGlobals "_law_grown" = some (some (.ref p29))) (l29 : K.lookup p29 = some ⟨oc29, od29, .func (PySem.W.fnOf "_law_grown" "_law_grown" (defArgs sLawGrown) (defBody sLawGrown) (defScope sLawGrown) .none kV29 dc29 pm29 an29 cd29 ct29), sl29⟩) (c29 : PySem.W.codeIn K cd29 "_law_grown" = true) (k29 : PySem.W.keepIn K (.ref p29) = true)
    (a30 : PySem.W.nsIn K mainGlobals "_law_filled" = some (some (.ref p30))) (l30 : K.lookup p30 = some ⟨oc30, od30, .func (PySem.W.fnOf "_law_filled" "_law_filled" (defArgs sLawFilled) (defBody sLawFilled) (defScope sLawFilled) .none kV30 dc30 pm30 an30 cd30 ct30), sl30⟩) (c30 : PySem.W.codeIn K cd30 "_law_filled" = true) (k30 : PySem.W.keepIn K (.ref p30) = true)
    (a31 : PySem.W.nsIn K mainGlobals "_law_kind" = some (some (.ref p31))) (l31 : K.lookup p31 = some ⟨oc31, od31, .func (PySem.W.fnOf "_law_kind" "_law_kind" (defArgs sLawKind) (defBody sLawKind) (defScope sLawKind) .none kV31 dc31 pm31 an31 cd31 ct31), sl31⟩) (c31 : PySem.W.codeIn K cd31 "_law_kind" = true) (k31 : PySem.W.keepIn K (.ref p31) = true)
    (a32 : PySem.W.nsIn K mainGlobals "_law_tried" = some (some (.ref p32))) (l32 : K.lookup p32 = some ⟨oc32, od32, .func (PySem.W.fnOf "_law_tried" "_law_tried" (defArgs sLawTried) (defBody sLawTried) (defScope sLawTried) .none kV32 dc32 pm32 an32 cd32 ct32), sl32⟩) (c32 : PySem.W.codeIn K cd32 "_law_tried" = true) (k32 : PySem.W.keepIn K (.ref p32) = true)
    (a33 : PySem.W.nsIn K mainGlobals "_law_no_plants" = some (some (.ref p33))) (l33 : K.lookup p33 = some ⟨oc33, od33, .func (PySem.W.fnOf "_law_no_plants" "_law_no_plants" (defArgs sLawNoPlants) (defBody sLawNoPlants) (defScope sLawNoPlants) .none kV33 dc33 pm33 an33 cd33 ct33), sl33⟩) (c33 : PySem.W.codeIn K cd33 "_law_no_plants" = true) (k33 : PySem.W.keepIn K (.ref p33) = true)
    (a34 : PySem.W.nsIn K mainGlobals "law" = some (some (.ref p34))) (l34 : K.lookup p34 = some ⟨oc34, od34, .func (PySem.W.fnOf "law" "law" (defArgs sLaw) (defBody sLaw) (defScope sLaw) .none kV34 dc34 pm34 an34 cd34 ct34), sl34⟩) (c34 : PySem.W.codeIn K cd34 "law" = true) (k34 : PySem.W.keepIn K (.ref p34) = true)
    (aM_MOST_STATIONS : PySem.W.nsIn K mainGlobals "MOST_STATIONS" = some (some (.int 40 t_MOST_STATIONS)))
    {xx_PlantError : Addr} (xa_PlantError : PySem.W.nsIn K mainGlobals "PlantError" = some (some (.ref xx_PlantError))) (xe_PlantError : PySem.W.excIn K xx_PlantError [.type "ValueError", .type "Exception", .type "BaseException", .type "object"] "ValueError.__new__" = true) (xk_PlantError : PySem.W.keepIn K (.ref xx_PlantError) = true) (xs_PlantError : PySem.W.subIn K (.ref xx_PlantError) (.type "BaseException") = some true) (xt_PlantError : PySem.W.typeIn K (.ref xx_PlantError) = some (.type "type"))
    {xx_NoPlant : Addr} (xa_NoPlant : PySem.W.nsIn K mainGlobals "NoPlant" = some (some (.ref xx_NoPlant))) (xe_NoPlant : PySem.W.excIn K xx_NoPlant [.type "ValueError", .type "Exception", .type "BaseException", .type "object"] "ValueError.__new__" = true) (xk_NoPlant : PySem.W.keepIn K (.ref xx_NoPlant) = true) (xs_NoPlant : PySem.W.subIn K (.ref xx_NoPlant) (.type "BaseException") = some true) (xt_NoPlant : PySem.W.typeIn K (.ref xx_NoPlant) = some (.type "type"))
    {xx_NoStation : Addr} (xa_NoStation : PySem.W.nsIn K mainGlobals "NoStation" = some (some (.ref xx_NoStation))) (xe_NoStation : PySem.W.excIn K xx_NoStation [.type "ValueError", .type "Exception", .type "BaseException", .type "object"] "ValueError.__new__" = true) (xk_NoStation : PySem.W.keepIn K (.ref xx_NoStation) = true) (xs_NoStation : PySem.W.subIn K (.ref xx_NoStation) (.type "BaseException") = some true) (xt_NoStation : PySem.W.typeIn K (.ref xx_NoStation) = some (.type "type"))
    {xx_NoStock : Addr} (xa_NoStock : PySem.W.nsIn K mainGlobals "NoStock" = some (some (.ref xx_NoStock))) (xe_NoStock : PySem.W.excIn K xx_NoStock [.type "ValueError", .type "Exception", .type "BaseException", .type "object"] "ValueError.__new__" = true) (xk_NoStock : PySem.W.keepIn K (.ref xx_NoStock) = true) (xs_NoStock : PySem.W.subIn K (.ref xx_NoStock) (.type "BaseException") = some true) (xt_NoStock : PySem.W.typeIn K (.ref xx_NoStock) = some (.type "type"))
    {xx_NoPattern : Addr} (xa_NoPattern : PySem.W.nsIn K mainGlobals "NoPattern" = some (some (.ref xx_NoPattern))) (xe_NoPattern : PySem.W.excIn K xx_NoPattern [.type "ValueError", .type "Exception", .type "BaseException", .type "object"] "ValueError.__new__" = true) (xk_NoPattern : PySem.W.keepIn K (.ref xx_NoPattern) = true) (xs_NoPattern : PySem.W.subIn K (.ref xx_NoPattern) (.type "BaseException") = some true) (xt_NoPattern : PySem.W.typeIn K (.ref xx_NoPattern) = some (.type "type"))
    {xx_NoDays : Addr} (xa_NoDays : PySem.W.nsIn K mainGlobals "NoDays" = some (some (.ref xx_NoDays))) (xe_NoDays : PySem.W.excIn K xx_NoDays [.type "ValueError", .type "Exception", .type "BaseException", .type "object"] "ValueError.__new__" = true) (xk_NoDays : PySem.W.keepIn K (.ref xx_NoDays) = true) (xs_NoDays : PySem.W.subIn K (.ref xx_NoDays) (.type "BaseException") = some true) (xt_NoDays : PySem.W.typeIn K (.ref xx_NoDays) = some (.type "type"))
    {xx_NoBox : Addr} (xa_NoBox : PySem.W.nsIn K mainGlobals "NoBox" = some (some (.ref xx_NoBox))) (xe_NoBox : PySem.W.excIn K xx_NoBox [.type "ValueError", .type "Exception", .type "BaseException", .type "object"] "ValueError.__new__" = true) (xk_NoBox : PySem.W.keepIn K (.ref xx_NoBox) = true) (xs_NoBox : PySem.W.subIn K (.ref xx_NoBox) (.type "BaseException") = some true) (xt_NoBox : PySem.W.typeIn K (.ref xx_NoBox) = some (.type "type"))
    {xx_NotOrdered : Addr} (xa_NotOrdered : PySem.W.nsIn K mainGlobals "NotOrdered" = some (some (.ref xx_NotOrdered))) (xe_NotOrdered : PySem.W.excIn K xx_NotOrdered [.type "ValueError", .type "Exception", .type "BaseException", .type "object"] "ValueError.__new__" = true) (xk_NotOrdered : PySem.W.keepIn K (.ref xx_NotOrdered) = true) (xs_NotOrdered : PySem.W.subIn K (.ref xx_NotOrdered) (.type "BaseException") = some true) (xt_NotOrdered : PySem.W.typeIn K (.ref xx_NotOrdered) = some (.type "type"))
    {xx_NoWords : Addr} (xa_NoWords : PySem.W.nsIn K mainGlobals "NoWords" = some (some (.ref xx_NoWords))) (xe_NoWords : PySem.W.excIn K xx_NoWords [.type "ValueError", .type "Exception", .type "BaseException", .type "object"] "ValueError.__new__" = true) (xk_NoWords : PySem.W.keepIn K (.ref xx_NoWords) = true) (xs_NoWords : PySem.W.subIn K (.ref xx_NoWords) (.type "BaseException") = some true) (xt_NoWords : PySem.W.typeIn K (.ref xx_NoWords) = some (.type "type"))
    {xx_NoNumber : Addr} (xa_NoNumber : PySem.W.nsIn K mainGlobals "NoNumber" = some (some (.ref xx_NoNumber))) (xe_NoNumber : PySem.W.excIn K xx_NoNumber [.type "ValueError", .type "Exception", .type "BaseException", .type "object"] "ValueError.__new__" = true) (xk_NoNumber : PySem.W.keepIn K (.ref xx_NoNumber) = true) (xs_NoNumber : PySem.W.subIn K (.ref xx_NoNumber) (.type "BaseException") = some true) (xt_NoNumber : PySem.W.typeIn K (.ref xx_NoNumber) = some (.type "type"))
    {xx_Full : Addr} (xa_Full : PySem.W.nsIn K mainGlobals "Full" = some (some (.ref xx_Full))) (xe_Full : PySem.W.excIn K xx_Full [.type "ValueError", .type "Exception", .type "BaseException", .type "object"] "ValueError.__new__" = true) (xk_Full : PySem.W.keepIn K (.ref xx_Full) = true) (xs_Full : PySem.W.subIn K (.ref xx_Full) (.type "BaseException") = some true) (xt_Full : PySem.W.typeIn K (.ref xx_Full) = some (.type "type"))
    {xx_Nothing : Addr} (xa_Nothing : PySem.W.nsIn K mainGlobals "Nothing" = some (some (.ref xx_Nothing))) (xe_Nothing : PySem.W.excIn K xx_Nothing [.type "ValueError", .type "Exception", .type "BaseException", .type "object"] "ValueError.__new__" = true) (xk_Nothing : PySem.W.keepIn K (.ref xx_Nothing) = true) (xs_Nothing : PySem.W.subIn K (.ref xx_Nothing) (.type "BaseException") = some true) (xt_Nothing : PySem.W.typeIn K (.ref xx_Nothing) = some (.type "type"))
    {xx_NoText : Addr} (xa_NoText : PySem.W.nsIn K mainGlobals "NoText" = some (some (.ref xx_NoText))) (xe_NoText : PySem.W.excIn K xx_NoText [.type "ValueError", .type "Exception", .type "BaseException", .type "object"] "ValueError.__new__" = true) (xk_NoText : PySem.W.keepIn K (.ref xx_NoText) = true) (xs_NoText : PySem.W.subIn K (.ref xx_NoText) (.type "BaseException") = some true) (xt_NoText : PySem.W.typeIn K (.ref xx_NoText) = some (.type "type"))
    {xx_NoRow : Addr} (xa_NoRow : PySem.W.nsIn K mainGlobals "NoRow" = some (some (.ref xx_NoRow))) (xe_NoRow : PySem.W.excIn K xx_NoRow [.type "ValueError", .type "Exception", .type "BaseException", .type "object"] "ValueError.__new__" = true) (xk_NoRow : PySem.W.keepIn K (.ref xx_NoRow) = true) (xs_NoRow : PySem.W.subIn K (.ref xx_NoRow) (.type "BaseException") = some true) (xt_NoRow : PySem.W.typeIn K (.ref xx_NoRow) = some (.type "type"))
    {xx_TooMany : Addr} (xa_TooMany : PySem.W.nsIn K mainGlobals "TooMany" = some (some (.ref xx_TooMany)))
    (er_all : allB K = true) (er_each : ((List.range 14).all (errB K xx_PlantError [xx_NoPlant, xx_NoStation, xx_NoStock, xx_NoPattern, xx_NoDays, xx_NoBox, xx_NotOrdered, xx_NoWords, xx_NoNumber, xx_TooMany, xx_Full, xx_Nothing, xx_NoText, xx_NoRow])) = true)
    (z_ValueError : PySem.W.nsIn K mainGlobals "ValueError" = some none)
    (z_all : PySem.W.nsIn K mainGlobals "all" = some none)
    (z_bool : PySem.W.nsIn K mainGlobals "bool" = some none)
    (z_int : PySem.W.nsIn K mainGlobals "int" = some none)
    (z_isinstance : PySem.W.nsIn K mainGlobals "isinstance" = some none)
    (z_len : PySem.W.nsIn K mainGlobals "len" = some none)
    (z_list : PySem.W.nsIn K mainGlobals "list" = some none)
    (z_max : PySem.W.nsIn K mainGlobals "max" = some none)
    (z_min : PySem.W.nsIn K mainGlobals "min" = some none)
    (z_range : PySem.W.nsIn K mainGlobals "range" = some none)
    (z_repr : PySem.W.nsIn K mainGlobals "repr" = some none)
    (z_set : PySem.W.nsIn K mainGlobals "set" = some none)
    (z_str : PySem.W.nsIn K mainGlobals "str" = some none)
    (z_tuple : PySem.W.nsIn K mainGlobals "tuple" = some none)
    (z_zip : PySem.W.nsIn K mainGlobals "zip" = some none) :
    codeAny (model l.prog w) callerA (.call (.ref fa) ⟨[.ref a], []⟩) (CR CX0 [] l.prog w H st (fun v _ => v = .bl true) fun _ _ _ => False) st := by
  have e := hfa.symm.trans (PySem.W.mg_of X G a34)
  cases e
  have F18 := fun_mk (st := sIsInteger) l18 c18 k18
  have b18 := F18.binds (ps := ["value"]) fun _ _ _ _ _ _ us hl => match us, hl with | [_], _ => rfl
  have F19 := fun_mk (st := sFitsPlant) l19 c19 k19
  have b19 := F19.binds (ps := ["value"]) fun _ _ _ _ _ _ us hl => match us, hl with | [_], _ => rfl
  have F20 := fun_mk (st := sFitsStock) l20 c20 k20
  have b20 := F20.binds (ps := ["plant", "value"]) fun _ _ _ _ _ _ us hl => match us, hl with | [_, _], _ => rfl
  have F21 := fun_mk (st := sCheckPlant) l21 c21 k21
  have b21 := F21.binds (ps := ["plant"]) fun _ _ _ _ _ _ us hl => match us, hl with | [_], _ => rfl
  have F22 := fun_mk (st := sCheckStock) l22 c22 k22
  have b22 := F22.binds (ps := ["plant", "stock"]) fun _ _ _ _ _ _ us hl => match us, hl with | [_, _], _ => rfl
  have F24 := fun_mk (st := sShowPlant) l24 c24 k24
  have b24 := F24.binds (ps := ["plant", "stock"]) fun _ _ _ _ _ _ us hl => match us, hl with | [_, _], _ => rfl
  have F26 := fun_mk (st := sLawFount) l26 c26 k26
  have b26 := F26.binds (ps := ["script", "k"]) fun _ _ _ _ _ _ us hl => match us, hl with | [_, _], _ => rfl
  have F27 := fun_mk (st := sLawSip) l27 c27 k27
  have b27 := F27.binds (ps := ["fount", "many"]) fun _ _ _ _ _ _ us hl => match us, hl with | [_, _], _ => rfl
  have F28 := fun_mk (st := sLawMixed) l28 c28 k28
  have b28 := F28.binds (ps := ["fount", "items"]) fun _ _ _ _ _ _ us hl => match us, hl with | [_, _], _ => rfl
  have F29 := fun_mk (st := sLawGrown) l29 c29 k29
  have b29 := F29.binds (ps := ["fount", "most"]) fun _ _ _ _ _ _ us hl => match us, hl with | [_, _], _ => rfl
  have F30 := fun_mk (st := sLawFilled) l30 c30 k30
  have b30 := F30.binds (ps := ["fount", "plant"]) fun _ _ _ _ _ _ us hl => match us, hl with | [_, _], _ => rfl
  have F31 := fun_mk (st := sLawKind) l31 c31 k31
  have b31 := F31.binds (ps := ["caught"]) fun _ _ _ _ _ _ us hl => match us, hl with | [_], _ => rfl
  have F32 := fun_mk (st := sLawTried) l32 c32 k32
  have b32 := F32.binds (ps := ["plant", "boxes"]) fun _ _ _ _ _ _ us hl => match us, hl with | [_, _], _ => rfl
  have F33 := fun_mk (st := sLawNoPlants) l33 c33 k33
  have b33 := F33.binds (ps := ["fount", "plant"]) fun _ _ _ _ _ _ us hl => match us, hl with | [_, _], _ => rfl
  have T : Tx K mg := { f_is_integer := p18, d_is_integer := _, F_is_integer := F18, b_is_integer := b18, g_is_integer := PySem.W.mg_of X G a18, f_fits_plant := p19, d_fits_plant := _, F_fits_plant := F19, b_fits_plant := b19, g_fits_plant := PySem.W.mg_of X G a19, f_fits_stock := p20, d_fits_stock := _, F_fits_stock := F20, b_fits_stock := b20, g_fits_stock := PySem.W.mg_of X G a20, f_check_plant := p21, d_check_plant := _, F_check_plant := F21, b_check_plant := b21, g_check_plant := PySem.W.mg_of X G a21, f_check_stock := p22, d_check_stock := _, F_check_stock := F22, b_check_stock := b22, g_check_stock := PySem.W.mg_of X G a22, f_show_plant := p24, d_show_plant := _, F_show_plant := F24, b_show_plant := b24, g_show_plant := PySem.W.mg_of X G a24, f__law_fount := p26, d__law_fount := _, F__law_fount := F26, b__law_fount := b26, g__law_fount := PySem.W.mg_of X G a26, f__law_sip := p27, d__law_sip := _, F__law_sip := F27, b__law_sip := b27, g__law_sip := PySem.W.mg_of X G a27, f__law_mixed := p28, d__law_mixed := _, F__law_mixed := F28, b__law_mixed := b28, g__law_mixed := PySem.W.mg_of X G a28, f__law_grown := p29, d__law_grown := _, F__law_grown := F29, b__law_grown := b29, g__law_grown := PySem.W.mg_of X G a29, f__law_filled := p30, d__law_filled := _, F__law_filled := F30, b__law_filled := b30, g__law_filled := PySem.W.mg_of X G a30, f__law_kind := p31, d__law_kind := _, F__law_kind := F31, b__law_kind := b31, g__law_kind := PySem.W.mg_of X G a31, f__law_tried := p32, d__law_tried := _, F__law_tried := F32, b__law_tried := b32, g__law_tried := PySem.W.mg_of X G a32, f__law_no_plants := p33, d__law_no_plants := _, F__law_no_plants := F33, b__law_no_plants := b33, g__law_no_plants := PySem.W.mg_of X G a33, t_MOST_STATIONS := t_MOST_STATIONS, g_MOST_STATIONS := PySem.W.mg_of X G aM_MOST_STATIONS, n_ValueError := PySem.W.mg_none_of X G z_ValueError, n_all := PySem.W.mg_none_of X G z_all, n_bool := PySem.W.mg_none_of X G z_bool, n_int := PySem.W.mg_none_of X G z_int, n_isinstance := PySem.W.mg_none_of X G z_isinstance, n_len := PySem.W.mg_none_of X G z_len, n_list := PySem.W.mg_none_of X G z_list, n_max := PySem.W.mg_none_of X G z_max, n_min := PySem.W.mg_none_of X G z_min, n_range := PySem.W.mg_none_of X G z_range, n_repr := PySem.W.mg_none_of X G z_repr, n_set := PySem.W.mg_none_of X G z_set, n_str := PySem.W.mg_none_of X G z_str, n_tuple := PySem.W.mg_none_of X G z_tuple, n_zip := PySem.W.mg_none_of X G z_zip, E_all := ⟨er_all, er_each⟩, x_TooMany := xx_TooMany, g_TooMany := PySem.W.mg_of X G xa_TooMany, x_PlantError := xx_PlantError, X_PlantError := ⟨PySem.W.mg_of X G xa_PlantError, xe_PlantError, xk_PlantError, xs_PlantError, xt_PlantError⟩, x_NoPlant := xx_NoPlant, X_NoPlant := ⟨PySem.W.mg_of X G xa_NoPlant, xe_NoPlant, xk_NoPlant, xs_NoPlant, xt_NoPlant⟩, x_NoStation := xx_NoStation, X_NoStation := ⟨PySem.W.mg_of X G xa_NoStation, xe_NoStation, xk_NoStation, xs_NoStation, xt_NoStation⟩, x_NoStock := xx_NoStock, X_NoStock := ⟨PySem.W.mg_of X G xa_NoStock, xe_NoStock, xk_NoStock, xs_NoStock, xt_NoStock⟩, x_NoPattern := xx_NoPattern, X_NoPattern := ⟨PySem.W.mg_of X G xa_NoPattern, xe_NoPattern, xk_NoPattern, xs_NoPattern, xt_NoPattern⟩, x_NoDays := xx_NoDays, X_NoDays := ⟨PySem.W.mg_of X G xa_NoDays, xe_NoDays, xk_NoDays, xs_NoDays, xt_NoDays⟩, x_NoBox := xx_NoBox, X_NoBox := ⟨PySem.W.mg_of X G xa_NoBox, xe_NoBox, xk_NoBox, xs_NoBox, xt_NoBox⟩, x_NotOrdered := xx_NotOrdered, X_NotOrdered := ⟨PySem.W.mg_of X G xa_NotOrdered, xe_NotOrdered, xk_NotOrdered, xs_NotOrdered, xt_NotOrdered⟩, x_NoWords := xx_NoWords, X_NoWords := ⟨PySem.W.mg_of X G xa_NoWords, xe_NoWords, xk_NoWords, xs_NoWords, xt_NoWords⟩, x_NoNumber := xx_NoNumber, X_NoNumber := ⟨PySem.W.mg_of X G xa_NoNumber, xe_NoNumber, xk_NoNumber, xs_NoNumber, xt_NoNumber⟩, x_Full := xx_Full, X_Full := ⟨PySem.W.mg_of X G xa_Full, xe_Full, xk_Full, xs_Full, xt_Full⟩, x_Nothing := xx_Nothing, X_Nothing := ⟨PySem.W.mg_of X G xa_Nothing, xe_Nothing, xk_Nothing, xs_Nothing, xt_Nothing⟩, x_NoText := xx_NoText, X_NoText := ⟨PySem.W.mg_of X G xa_NoText, xe_NoText, xk_NoText, xs_NoText, xt_NoText⟩, x_NoRow := xx_NoRow, X_NoRow := ⟨PySem.W.mg_of X G xa_NoRow, xe_NoRow, xk_NoRow, xs_NoRow, xt_NoRow⟩ }
  have room : Room 13 callerA := ⟨rfl, by decide, by decide⟩
  obtain ⟨t, ht, hq⟩ := law_body (P := l.prog) (w := w) (base := base) (f := fa) (cdv := cd34) (st := st) T hl hS sb (room.deeper _)
  exact at_body (us := [.ref a]) (vs := [.ref a]) l34 c34 scLaw room en (.of_eq rfl) (.cons rfl .nil) rfl ⟨t, ht.nox, hq⟩
end PT
open PySem PySem.W PyProof.Rows
set_option maxHeartbeats 0 in
theorem PySem.Challenge.cw_pulltree_k54_plants_not_shown_holds : PySem.Challenge.rw_pulltree_k54_plants_not_shown.Holds := by
  w_on; o_law; k_head; (case hw => w_witness2)
  k_fill
  refine PT.walk_GS (l := PySem.Challenge.rw_pulltree_k54_plants_not_shown) (n := 63) (by decide +kernel) rfl (by decide) rfl (fun w h Y => PySem.W.kIn_of Y) ?F
  case F =>
    intro w mg fa a st base H ns kin gl hmg kb gb sb hl hO hS en
    refine' PT.all_mk kin gl hmg hl hS en sb ?a18 ?l18 ?c18 ?k18 ?a19 ?l19 ?c19 ?k19 ?a20 ?l20 ?c20 ?k20 ?a21 ?l21 ?c21 ?k21 ?a22 ?l22 ?c22 ?k22 ?a24 ?l24 ?c24 ?k24 ?a26 ?l26 ?c26 ?k26 ?a27 ?l27 ?c27 ?k27 ?a28 ?l28 ?c28 ?k28 ?a29 ?l29 ?c29 ?k29 ?a30 ?l30 ?c30 ?k30 ?a31 ?l31 ?c31 ?k31 ?a32 ?l32 ?c32 ?k32 ?a33 ?l33 ?c33 ?k33 ?a34 ?l34 ?c34 ?k34 ?aM_MOST_STATIONS ?xa_PlantError ?xe_PlantError ?xk_PlantError ?xs_PlantError ?xt_PlantError ?xa_NoPlant ?xe_NoPlant ?xk_NoPlant ?xs_NoPlant ?xt_NoPlant ?xa_NoStation ?xe_NoStation ?xk_NoStation ?xs_NoStation ?xt_NoStation ?xa_NoStock ?xe_NoStock ?xk_NoStock ?xs_NoStock ?xt_NoStock ?xa_NoPattern ?xe_NoPattern ?xk_NoPattern ?xs_NoPattern ?xt_NoPattern ?xa_NoDays ?xe_NoDays ?xk_NoDays ?xs_NoDays ?xt_NoDays ?xa_NoBox ?xe_NoBox ?xk_NoBox ?xs_NoBox ?xt_NoBox ?xa_NotOrdered ?xe_NotOrdered ?xk_NotOrdered ?xs_NotOrdered ?xt_NotOrdered ?xa_NoWords ?xe_NoWords ?xk_NoWords ?xs_NoWords ?xt_NoWords ?xa_NoNumber ?xe_NoNumber ?xk_NoNumber ?xs_NoNumber ?xt_NoNumber ?xa_Full ?xe_Full ?xk_Full ?xs_Full ?xt_Full ?xa_Nothing ?xe_Nothing ?xk_Nothing ?xs_Nothing ?xt_Nothing ?xa_NoText ?xe_NoText ?xk_NoText ?xs_NoText ?xt_NoText ?xa_NoRow ?xe_NoRow ?xk_NoRow ?xs_NoRow ?xt_NoRow ?xa_TooMany ?er_all ?er_each ?z_ValueError ?z_all ?z_bool ?z_int ?z_isinstance ?z_len ?z_list ?z_max ?z_min ?z_range ?z_repr ?z_set ?z_str ?z_tuple ?z_zip
    (case a18 => k_is); (case l18 => k_is); (case c18 => k_is); (case k18 => k_is); (case a19 => k_is); (case l19 => k_is); (case c19 => k_is); (case k19 => k_is); (case a20 => k_is); (case l20 => k_is); (case c20 => k_is); (case k20 => k_is); (case a21 => k_is); (case l21 => k_is); (case c21 => k_is); (case k21 => k_is); (case a22 => k_is); (case l22 => k_is); (case c22 => k_is); (case k22 => k_is); (case a24 => k_is); (case l24 => k_is); (case c24 => k_is); (case k24 => k_is); (case a26 => k_is); (case l26 => k_is); (case c26 => k_is); (case k26 => k_is); (case a27 => k_is); (case l27 => k_is); (case c27 => k_is); (case k27 => k_is); (case a28 => k_is); (case l28 => k_is); (case c28 => k_is); (case k28 => k_is); (case a29 => k_is); (case l29 => k_is); (case c29 => k_is); (case k29 => k_is); (case a30 => k_is); (case l30 => k_is); (case c30 => k_is); (case k30 => k_is); (case a31 => k_is); (case l31 => k_is); (case c31 => k_is); (case k31 => k_is); (case a32 => k_is); (case l32 => k_is); (case c32 => k_is); (case k32 => k_is); (case a33 => k_is); (case l33 => k_is); (case c33 => k_is); (case k33 => k_is); (case a34 => k_is); (case l34 => k_is); (case c34 => k_is); (case k34 => k_is); (case aM_MOST_STATIONS => k_is); (case xa_PlantError => k_is); (case xe_PlantError => kernel_rfl); (case xk_PlantError => k_is); (case xs_PlantError => k_is); (case xt_PlantError => k_is); (case xa_NoPlant => k_is); (case xe_NoPlant => kernel_rfl); (case xk_NoPlant => k_is); (case xs_NoPlant => k_is); (case xt_NoPlant => k_is); (case xa_NoStation => k_is); (case xe_NoStation => kernel_rfl); (case xk_NoStation => k_is); (case xs_NoStation => k_is); (case xt_NoStation => k_is); (case xa_NoStock => k_is); (case xe_NoStock => kernel_rfl); (case xk_NoStock => k_is); (case xs_NoStock => k_is); (case xt_NoStock => k_is); (case xa_NoPattern => k_is); (case xe_NoPattern => kernel_rfl); (case xk_NoPattern => k_is); (case xs_NoPattern => k_is); (case xt_NoPattern => k_is); (case xa_NoDays => k_is); (case xe_NoDays => kernel_rfl); (case xk_NoDays => k_is); (case xs_NoDays => k_is); (case xt_NoDays => k_is); (case xa_NoBox => k_is); (case xe_NoBox => kernel_rfl); (case xk_NoBox => k_is); (case xs_NoBox => k_is); (case xt_NoBox => k_is); (case xa_NotOrdered => k_is); (case xe_NotOrdered => kernel_rfl); (case xk_NotOrdered => k_is); (case xs_NotOrdered => k_is); (case xt_NotOrdered => k_is); (case xa_NoWords => k_is); (case xe_NoWords => kernel_rfl); (case xk_NoWords => k_is); (case xs_NoWords => k_is); (case xt_NoWords => k_is); (case xa_NoNumber => k_is); (case xe_NoNumber => kernel_rfl); (case xk_NoNumber => k_is); (case xs_NoNumber => k_is); (case xt_NoNumber => k_is); (case xa_Full => k_is); (case xe_Full => kernel_rfl); (case xk_Full => k_is); (case xs_Full => k_is); (case xt_Full => k_is); (case xa_Nothing => k_is); (case xe_Nothing => kernel_rfl); (case xk_Nothing => k_is); (case xs_Nothing => k_is); (case xt_Nothing => k_is); (case xa_NoText => k_is); (case xe_NoText => kernel_rfl); (case xk_NoText => k_is); (case xs_NoText => k_is); (case xt_NoText => k_is); (case xa_NoRow => k_is); (case xe_NoRow => kernel_rfl); (case xk_NoRow => k_is); (case xs_NoRow => k_is); (case xt_NoRow => k_is); (case xa_TooMany => k_is); (case er_all => kernel_rfl); (case er_each => kernel_rfl); (case z_ValueError => k_is); (case z_all => k_is); (case z_bool => k_is); (case z_int => k_is); (case z_isinstance => k_is); (case z_len => k_is); (case z_list => k_is); (case z_max => k_is); (case z_min => k_is); (case z_range => k_is); (case z_repr => k_is); (case z_set => k_is); (case z_str => k_is); (case z_tuple => k_is); (case z_zip => k_is)


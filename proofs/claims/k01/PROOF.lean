import PyProof.Rows.All
import Wide.All
import OpenK.AllK
import Wide.FinOn
import HandS.ForMost
import HandS.IsInst
import HandS.TupAny
import HandS.TupMul
import HandS.Conv
import HandS.Style
import HandS.Flow
import HandS.Walk
import KE.GoesEnum
import KE.KRevSl
import HandS.RaiseMore
import HandS.Wide
import HandS.SetFor
import HandS.Strs
import PySem.Challenge.RW_pulltree_k01_plants
set_option Elab.async false
set_option linter.all false
set_option maxRecDepth 100000
set_option maxHeartbeats 4000000
/-! rules that the layer lacks: enumerate over a tuple, a list read and stored at one place, a tuple the other way round, repr of data -/
namespace PT
open PySem PySem.Spec PyProof.Rows L2

/-! ### enumerate(v) with one argument, v anything that begins -/
theorem meets_enum1 {v : Value} {o : Obj} {H : Heap → Prop} (B : Begins v o H) :
    Meets (Builtin.«enumerate.__new__» ⟨[.type "enumerate", v], []⟩) (fun _ R st => H st.heap ∧
      R (.ok (.ret (.ref (st.heap.push o).objs.size))) { st with heap := (st.heap.push o).push { cls := .type "enumerate", data := .fields #[.none, .bool false, .ref st.heap.objs.size, rawInt 0, .none, .none] } }) :=
  .of_wp fun prog w A R st hh => by
    obtain ⟨hp, gg, dd, tt, oo⟩ := st
    obtain ⟨b1, b2⟩ := hh
    have se := sub_enumerate
    have go : ∀ {A' : Around} {E' : Value → Shared → Prop} {Q' : Value → Shared → Prop}, Q' (.ref hp.objs.size) ⟨hp.push o, gg, dd, tt, oo⟩ → wpAny (model prog w) A' (pyIter v) Q' E' ⟨hp, gg, dd, tt, oo⟩ :=
      fun z => B.iter prog w _ _ ⟨hp, gg, dd, tt, oo⟩ _ b1 z
    wp_walk using go
    refine wpAny_stack_any fun frs => wpAny_pure ?_
    split
    · rename_i cc _ _ _ _ _
      cases (cc == Value.type "enumerate") <;> (wp_walk using go; exact ⟨_, rfl, b2⟩)
    · wp_walk using go
      exact ⟨_, rfl, b2⟩
theorem enum_call1 {prog : Program} {w : World} {A : Around} {E : Value → Shared → Prop} {st : Shared} {v : Value} {o : Obj} {H : Heap → Prop} {Q : Value → Shared → Prop} (B : Begins v o H) (b1 : H st.heap)
    (fin : ∀ h2, IsEnum h2 (st.heap.objs.size + 1) st.heap.objs.size 0 .none → h2.get? st.heap.objs.size = some o → (∀ b u, st.heap.get? b = some u → h2.get? b = some u) → Q (.ref (st.heap.objs.size + 1)) { st with heap := h2 }) :
    wpAny (model prog w) A (call (.type "enumerate") [v]) Q E st := by
  refine callType_new F.called_enumerate (by decide) (F.typeCall_enumerate_1 _) (F.newCall_enumerate_1 _) (fun ob => F.args_object_init_2 ob _) F.entry_enumerate_new (meets_enum1 B) ⟨b1, ?_⟩
  have sz : (st.heap.push o).objs.size = st.heap.objs.size + 1 := Heap.size_push ..
  show _ ∧ _
  rw [sz]
  have en : IsEnum ((st.heap.push o).push { cls := .type "enumerate", data := .fields #[.none, .bool false, .ref st.heap.objs.size, rawInt 0, .none, .none] }) (st.heap.objs.size + 1) st.heap.objs.size 0 .none := by
    have z := Heap.get?_push_size (st.heap.push o) (o := { cls := .type "enumerate", data := .fields #[.none, .bool false, .ref st.heap.objs.size, rawInt 0, .none, .none] }) rfl
    rw [sz] at z
    exact z
  exact ⟨⟨_, en, rfl⟩, fin _ en (Heap.get?_push_of_some _ (Heap.get?_push_size _ B.free)) fun b u y => Heap.get?_push_of_some _ (Heap.get?_push_of_some _ y)⟩

/-- the tuple at a, each item in a new pair with its place -/
def ItE (K : PySem.W.Frag) (a : Addr) : It :=
  ⟨fun i H => ∃ (xs : List V) (x : V), SqT K H a xs ∧ xs[i]? = some x,
   fun i H v H' => ∃ T x, v = .ref T ∧ H T = none ∧ H' = upd H T (.tup [.int (i : Nat), x]) ∧ ∀ xs, SqT K H a xs → xs[i]? = some x,
   fun i H => ∃ xs : List V, SqT K H a xs ∧ xs.length ≤ i⟩
theorem turn_E {P : Program} {w : World} {K : PySem.W.Frag} {elts : List Expr} {kk : Nat} {tpos : Pos} (a e it : Addr) :
    Turn P w K (.Tuple elts kk tpos) (ItE K a) [e, it] e (fun i h => (∃ old, IsEnum h e it ((i : Nat) : Int) old) ∧ h.IsTupleIter it a i ∧ e ≠ it) where
  mem := by simp
  obj := fun i h st b hb => by
    obtain ⟨⟨old, he⟩, ⟨o, ho, hc, hd⟩, _⟩ := st
    rcases List.mem_cons.mp hb with z | z
    · rw [z]
      exact ⟨_, he, fun v q => nomatch q⟩
    · rw [List.mem_singleton.mp z]
      exact ⟨o, ho, fun v q => by rw [hd] at q; cases q⟩
  keep := fun i h h' st k => ⟨let ⟨old, he⟩ := st.1; ⟨old, k e (by simp) _ he⟩, st.2.1.at fun o q => k it (by simp) o q, st.2.2⟩
  item := by
    intro X hP hw hK hc i pins st σ H E I hf tn hg
    subst hP hw hK
    obtain ⟨⟨old, he⟩, hit, hne⟩ := tn
    obtain ⟨xs, x, hq, hx⟩ := hg
    obtain ⟨its, rv, p, hz⟩ := I.tuple hq
    obtain ⟨u, hu, ru⟩ := rv.get hx
    have le : e < st.heap.objs.size := Heap.lt_size he
    have li : it < st.heap.objs.size := let ⟨_, q, _⟩ := hit; Heap.lt_size q
    have hta : a ≠ it := fun z => by
      obtain ⟨o1, q1, c1, _⟩ := hit
      obtain ⟨o2, q2, c2, _⟩ := p
      rw [z, q1] at q2
      cases q2
      rw [c1] at c2
      exact absurd (Value.type.inj c2) (by decide)
    have D := Draws.tuple (prog := X.prog) (w := X.w) (A := X.A.in1) (I.ok.hd hc) it a hta its.toArray
    have hi : i < its.length := by
      obtain ⟨h1, _⟩ := List.getElem?_eq_some_iff.mp hu
      exact h1
    refine wpAny_pyNext_enum_itemD D he ⟨hit, p⟩ (by simpa using hi) hne ?_ fun y h2 tk hy ho sn hT hsz hk => ?_
    · intro hm
      rcases List.mem_cons.mp hm with z | z
      · exact hne z
      · have z2 := List.mem_singleton.mp z
        obtain ⟨o2, q2, c2, _⟩ := p
        have q3 : st.heap.get? e = some _ := he
        rw [z2, q2] at q3
        cases q3
        exact absurd (Value.type.inj c2) (by decide)
    have ey : y = u := by
      have e1 : its.toArray[i]? = some u := by simpa using hu
      exact Option.some.inj (hy.symm.trans e1)
    subst ey
    refine ⟨_, rfl, wpAny_letOwnedTupleGo_enum (s := { st with heap := h2, toks := tk + 1 }) ho fun h3 he3 sb => ?_⟩
    have hT3 : h3.get? st.heap.objs.size = some { cls := .type "tuple", data := .seq #[.int i tk, y] } := (sb.2 _ (Nat.ne_of_gt le)).trans hT
    have nw : ObjOk X.prog X.w (upd H st.heap.objs.size (.tup [.int (i : Nat), x])) h3 st.heap.objs.size (.tup [.int (i : Nat), x]) :=
      ⟨by show 2 ≤ sizeLine; decide, [.int i tk, y], .cons ⟨_, rfl⟩ (.cons ru .nil), ⟨_, hT3, rfl, _, rfl⟩⟩
    have I1 : Inv X pins σ (upd H st.heap.objs.size (.tup [.int (i : Nat), x])) { st with heap := h3, toks := tk + 1 } :=
      I.turnedNew (ch := [e, it]) (fun b ob hb q => (sb.2 b (fun z => hb (by simp [z]))).trans (hk b ob (fun z => hb (by simp [z])) (fun z => hb (by simp [z])) q)) hf (Nat.le_refl _) nw
    refine ⟨.ref st.heap.objs.size, _, I1, rfl, ⟨_, x, rfl, I.hok.fresh (Nat.le_refl _), rfl, fun ys hy => by rw [I.tuple_inj hy hq]; exact hx⟩, ⟨⟨y, ?_⟩, sn.1.at fun o q => (sb.2 it (Ne.symm hne)).trans q, hne⟩, fun b hb => ?_⟩
    · have e1 : ((i + 1 : Nat) : Int) = (i : Int) + 1 := by omega
      exact e1 ▸ he3
    · have hb' : b < st.heap.objs.size := by
        rcases List.mem_cons.mp hb with z | z
        · exact z ▸ le
        · exact (List.mem_singleton.mp z) ▸ li
      rw [upd_ne (Nat.ne_of_lt hb')]
      exact (hf b hb).1
  done := by
    intro X hP hw hK hc i pins st σ H E I hf tn hg
    subst hP hw hK
    obtain ⟨⟨old, he⟩, hit, hne⟩ := tn
    obtain ⟨xs, hq, hx⟩ := hg
    obtain ⟨its, rv, p, hz⟩ := I.tuple hq
    obtain ⟨f0, f1, f2, f3, f4, f5⟩ := hf it (by simp)
    have hl := rv.length
    have hT : st.TypeIs (.ref e) "enumerate" := ⟨_, he, rfl⟩
    unfold pyNext
    refine wpAny_bind (wpAny_attempt (wpAny_callSpecial?_slot (name := Str.ofString "__next__") hT F.slot_enumerate_next (wpAny_call_entry F.slot_enumerate_next hT F.entry_enumerate_next ?_ (F.args_enumerate_next_1 _))))
    show wpAny _ _ (field (.ref e) 2 >>= _) _ _ _
    refine wpAny_bind (wpAny_field he rfl (x := .ref it) rfl ?_)
    refine wpAny_bind (wpAny_nextOf_tuple_end (I.ok.hd hc) hit p (by simp; omega) fun h2 x e1 hx2 => ?_)
    obtain ⟨o, ho, hcc⟩ := hx2
    refine wpAny_bind (wpAny_isInstance (T := "StopIteration") (b := true) ⟨o, ho, hcc⟩ isSubtype_stop ?_)
    exact wpAny_pure ⟨rfl, I.turned (t' := st.toks) (fun b o hb q => e1 b o hb q) f0 f1 f3 f4 f5⟩
  self := fun A i s Q E tn h => let ⟨⟨_, he⟩, _⟩ := tn; wpAny_pyIter_enum he h
def iE (K : PySem.W.Frag) (ta : TA) : TI := fun σ H R => ta σ H fun vs H1 => ∃ a xs, vs = [.ref a] ∧ SqT K H1 a xs ∧ R (ItE K a) H1
theorem pi_E {X : Cx} {e : Expr} {ta : TA} {p pos tpos : Pos} {elts : List Expr} {kk : Nat} (hg : Gl X "enumerate") (hm : X.mg "enumerate" = none) (ha : PA X [e] ta) (hs : starEach [e] X.env = [(false, eval e X.env)] := by rfl) :
    PI X (.Tuple elts kk tpos) (.Call (.Name "enumerate" p) [e] [] pos) (iE X.K ta) := by
  refine ⟨fun pins st σ H R I h => Call_ (ld_blt I hg hm boot_enumerate (PyProof.Rows.callWith_type1 (thn (ha.run pos pins st σ H _ I h) fun us s1 ⟨vs, H1, I1, r1, q1⟩ => ?_) hs rfl))⟩
  obtain ⟨a, xs, ex, hq, q⟩ := q1
  subst ex
  cases r1 with
  | cons r rr =>
    cases rr
    cases r
    obtain ⟨its, rv, pp, hz⟩ := I1.tuple hq
    refine enum_call1 (begins_tuple a its.toArray) pp fun h2 he hi hk => wpAny_pyIter_enum he ?_
    have I2 : Inv X pins σ H1 { s1 with heap := h2 } := I1.kept (t' := s1.toks) hk
    refine ⟨s1.heap.objs.size + 1, [s1.heap.objs.size + 1, s1.heap.objs.size], _, _, H1, rfl, I2, turn_E a (s1.heap.objs.size + 1) s1.heap.objs.size, ⟨⟨.none, he⟩, ⟨_, hi, rfl, rfl⟩, Nat.succ_ne_self _⟩, fun b hb => ?_, q⟩
    have hle : s1.heap.objs.size ≤ b := by
      rcases List.mem_cons.mp hb with z | z
      · rw [z]
        exact Nat.le_add_right _ _
      · rw [List.mem_singleton.mp z]
        exact Nat.le_refl _
    exact I1.fpOk hle (I1.hok.fresh hle)
theorem walk_E {K : PySem.W.Frag} {a : Addr} {xs : List V} : Walk (ItE K a) xs.length (fun H => SqT K H a xs) (YPair (fun i => some (.int (i : Nat))) (fun i => xs[i]?)) := by
  refine ⟨fun i _ hi q => ⟨xs, xs[i], q, by simp [hi]⟩, fun _ q => ⟨xs, q, Nat.le_refl _⟩, fun i H v H' _ q y => ?_⟩
  obtain ⟨T, x, h1, h2, h3, h4⟩ := y
  exact ⟨T, .int (i : Nat), x, h1, h2, h3, rfl, h4 xs q⟩

/-! ### a list's item read for o[i] op= v -/
theorem get_lst {X : Cx} : PGet X (fun o i H Q => ∃ p xs j v, o = .ref p ∧ i = .int ((j : Nat) : Int) ∧ SqL X.K H p xs ∧ xs[j]? = some v ∧ Q v H) := by
  intro pins st σ H o i ov iv Q I ro ri h
  obtain ⟨p, xs, j, v, rfl, rfl, hq, hv, q⟩ := h
  cases ro
  obtain ⟨t, rfl⟩ := ri
  obtain ⟨its, r, pl, hz⟩ := I.list hq
  obtain ⟨u, hu, ru⟩ := r.get hv
  have hn := line63
  have hl := r.length
  have hj : j < its.length := (List.getElem?_eq_some_iff.mp hu).1
  exact wpAny_getItem_list pl.isList (by omega) (by omega) (x := u) (by simpa using hu) ⟨v, H, I, ru, q⟩

end PT

set_option maxHeartbeats 4000000
/-! repr of data that the law shows: scalars, rows of ints, tuples of such items and of one odd thing -/
namespace PT
open PySem PySem.Spec PyProof.Rows L2

/-! ### t[::-1] of a tuple -/
theorem adj_back (n : Nat) : Builtin.Slice.sliceAdjust none none (-1) (n : Int) = ((n : Int) - 1, -1) := by
  unfold Builtin.Slice.sliceAdjust
  simp
theorem pl_back (n : Nat) : Builtin.Slice.slicePlaces ((n : Int) - 1) (-1) (-1) = n := by
  unfold Builtin.Slice.slicePlaces
  have h1 : ¬ ((-1 : Int) > 0) := by omega
  simp only [h1, if_false]
  split
  · rw [show (- -1 : Int) = 1 from rfl, Int.ediv_one]
    omega
  · omega
theorem fm_congr {α β : Type} {f g : α → Option β} : ∀ (l : List α), (∀ x ∈ l, f x = g x) → l.filterMap f = l.filterMap g
  | [], _ => rfl
  | x :: r, h => by
    rw [List.filterMap_cons, List.filterMap_cons, h x (List.mem_cons_self ..), fm_congr r fun y hy => h y (List.mem_cons_of_mem _ hy)]
theorem pick_back (xs : Array Value) : ((List.range xs.size).filterMap fun (k : Nat) => xs[(((xs.size : Int) - 1) + (k : Int) * (-1)).toNat]?) = xs.toList.reverse := by
  have e : ∀ (l : List Value) (n : Nat), n = l.length → ((List.range n).filterMap fun (k : Nat) => l[(((n : Int) - 1) + (k : Int) * (-1)).toNat]?) = l.reverse := by
    intro l
    induction l with
    | nil => intro n hn; subst hn; rfl
    | cons x r ih =>
      intro n hn
      subst hn
      have step : ∀ m, m ≤ r.length → ((List.range m).filterMap fun (k : Nat) => (x :: r)[((((x :: r).length : Nat) : Int) - 1 + (k : Int) * (-1)).toNat]?) = ((List.range m).filterMap fun (k : Nat) => r[(((r.length : Int) - 1) + (k : Int) * (-1)).toNat]?) := by
        intro m hm
        refine fm_congr _ fun k hk => ?_
        have hk' : k < m := List.mem_range.mp hk
        have e1 : ((((x :: r).length : Nat) : Int) - 1 + (k : Int) * (-1)).toNat = (((r.length : Int) - 1) + (k : Int) * (-1)).toNat + 1 := by
          rw [List.length_cons]
          omega
        rw [e1, List.getElem?_cons_succ]
      rw [List.length_cons, List.range_succ, List.filterMap_append]
      have s := step r.length (Nat.le_refl _)
      rw [List.length_cons] at s
      rw [s, ih r.length rfl, List.reverse_cons]
      congr 1
      have e2 : (((r.length + 1 : Nat) : Int) - 1 + (r.length : Int) * (-1)).toNat = 0 := by omega
      simp only [List.filterMap_cons, List.filterMap_nil, e2, List.getElem?_cons_zero]
  have := e xs.toList xs.size (by simp)
  simpa using this
section
variable {prog : Program} {w : World} {A : Around} {E : Value → Shared → Prop} {st : Shared}
theorem part_int {i : Int} {u : Tok} {Q : Option Int → Shared → Prop} (h : Q (some i) st) : wpAny (model prog w) A (Builtin.Slice.slicePartIndex (.int i u)) Q E st := slicePart_int h
theorem applied_back {sl : Addr} {n : Nat} {u : Tok} {Q : Int × Int × Nat → Shared → Prop} (hs : st.heap.IsSliceOf sl .none .none (.int (-1) u)) (h : Q ((n : Int) - 1, -1, n) st) :
    wpAny (model prog w) A (Builtin.Slice.sliceApplied (.ref sl) (pure (n : Int))) Q E st := by
  obtain ⟨ob, e1, e2, e3⟩ := id hs
  unfold Builtin.Slice.sliceApplied Builtin.Slice.sliceFields
  refine wpAny_bind (wpAny_bind (wpAny_field e1 e3 (x := .none) rfl (wpAny_bind (wpAny_field e1 e3 (x := .none) rfl (wpAny_bind (wpAny_field e1 e3 (x := .int (-1) u) rfl (wpAny_pure ?_)))))))
  refine wpAny_bind (part_int ?_)
  show wpAny _ _ (if ((-1 : Int) == 0) = true then _ else _) _ _ st
  rw [if_neg (by decide)]
  refine wpAny_bind (slicePart_none (wpAny_bind (slicePart_none (wpAny_bind (wpAny_pure ?_)))))
  show wpAny _ _ (match Builtin.Slice.sliceAdjust none none (-1) (n : Int) with | (lo, hi) => pure (lo, (-1 : Int), Builtin.Slice.slicePlaces lo hi (-1))) _ _ st
  rw [adj_back n]
  show wpAny _ _ (pure ((n : Int) - 1, (-1 : Int), Builtin.Slice.slicePlaces ((n : Int) - 1) (-1) (-1))) _ _ st
  rw [pl_back n]
  exact wpAny_pure h
theorem tup_back {t sl : Addr} {items : Array Value} {u : Tok} {Q : Value → Shared → Prop} (ht : IsTup st.heap t items) (hs : st.heap.IsSliceOf sl .none .none (.int (-1) u)) (hz : items.size ≤ sizeLine)
    (h : Q (.ref st.heap.objs.size) { st with heap := st.heap.push { cls := .type "tuple", data := .seq items.toList.reverse.toArray } }) : wpAny (model prog w) A (getItem (.ref t) (.ref sl)) Q E st := by
  have ok : sizeOk (.seq items.toList.reverse.toArray) := by
    show items.toList.reverse.toArray.size ≤ sizeLine
    rw [List.size_toArray, List.length_reverse, Array.length_toList]
    exact hz
  obtain ⟨ob, e1, e2, e3⟩ := id hs
  have ts : st.TypeIs (.ref sl) "slice" := ⟨ob, e1, e2⟩
  unfold getItem
  try with_reducible refine wpAny_holding ?_
  first | refine wpAny_bind (wpAny_pure ?_) | skip
  refine wpAny_bind (wpAny_sequenceKey ht.typeIs (by decide) (wpAny_bind (wpAny_callSpecial?_slot (name := Str.ofString "__getitem__") ht.typeIs PyProof.Rows.slot_tuple_getitem
    (wpAny_call_entry PyProof.Rows.slot_tuple_getitem ht.typeIs entry_tuple_getitem ?_ (args_tuple_getitem _ _)))))
  show wpAny _ _ (Builtin.Tuple.tupleItemsOf (.ref t) >>= _) _ _ st
  refine wpAny_bind (tupleItemsOf_ ht (wpAny_bind (wpAny_typeOf ts ?_)))
  rw [if_pos (by decide)]
  refine wpAny_bind (applied_back hs ?_)
  have no1 : ((-1 : Int) == 1) = false := by decide
  show wpAny _ _ (if (((items.size : Int) - 1) == 0 && (-1 : Int) == 1 && items.size == items.size) = true then _ else _) _ _ st
  rw [if_neg (by rw [no1, Bool.and_false, Bool.false_and]; exact Bool.false_ne_true), pick_back]
  first
    | exact wpAny_bind (m := Builtin.Tuple.tupleExact _) (wpAny_newObj_type (wpAny_pure ⟨_, rfl, wpAny_pure h⟩) ok)
    | exact wpAny_bind (m := Builtin.Tuple.tupleExact _) (wpAny_newObj_type (wpAny_bind (wpAny_pure (wpAny_pure ⟨_, rfl, wpAny_pure h⟩))) ok)
    | exact wpAny_bind (wpAny_bind (m := Builtin.Tuple.tupleExact _) (wpAny_newObj_type (wpAny_pure (wpAny_pure ⟨_, rfl, wpAny_pure h⟩)) ok))
    | exact wpAny_bind (wpAny_bind (m := Builtin.Tuple.tupleExact _) (wpAny_newObj_type (wpAny_pure ⟨_, rfl, wpAny_pure h⟩) ok))
end
section
variable {X : Cx}
def tRevT (K : PySem.W.Frag) (te : TE) : TE := fun σ H Q => te σ H fun x H1 => ∃ a xs, x = .ref a ∧ SqT K H1 a xs ∧ ∀ p, H1 p = none → Q (.ref p) (upd H1 p (.tup xs.reverse))
theorem pe_revT {e : Expr} {te : TE} {k : Nat} {p1 p2 p3 pos : Pos} (he : PE X e te) : PE X (.Subscript e (.Slice none none (some (.UnaryOp .USub (.Constant (.int 1) k p1) p2)) p3) pos) (tRevT X.K te) := by
  refine ⟨fun pins st σ H Q I h => Subscript_ (thn (he.run pins st σ H _ I h) fun v s1 ⟨x, H1, I1, r1, q1⟩ => ?_)⟩
  obtain ⟨a, xs, ex, hx, q⟩ := q1
  subst ex
  cases r1
  have minus : PO X (some (.UnaryOp .USub (.Constant (.int 1) k p1) p2)) (tPart (tUn (rU fun i => .int (-i)) (tC (.int 1)))) := po_some (pe_un un_neg pe_int)
  refine wpAny_Slice (thn (po_none.run pins s1 σ H1 (fun o H2 => o = none ∧ H2 = H1) I1 ⟨rfl, rfl⟩) fun vl s2 ⟨l, H2, I2, pl, el, e2⟩ => ?_)
  subst el e2
  refine thn (po_none.run pins s2 σ H2 (fun o H3 => o = none ∧ H3 = H2) I2 ⟨rfl, rfl⟩) fun vu s3 ⟨u, H3, I3, pu, eu, e3⟩ => ?_
  subst eu e3
  refine thn (minus.run pins s3 σ H3 (fun o H4 => o = some (-1) ∧ H4 = H3) I3 ⟨1, rfl, -1, rfl, rfl, rfl⟩) fun vs s4 ⟨o, H4, I4, ps, eo, e4⟩ => ?_
  subst eo e4
  have I5 : Inv X pins σ H4 { s4 with heap := s4.heap.push { cls := .type "slice", data := .fields #[vl, vu, vs] } } := I4.kept (t' := s4.toks) fun b ob q => Heap.get?_push_of_some _ q
  obtain ⟨its, r, ht, hz⟩ := I5.tuple hx
  have hlen := r.length
  cases pl
  cases pu
  cases ps
  show wpAny (model X.prog X.w) X.A (subscriptTail e (.Slice none none (some (.UnaryOp .USub (.Constant (.int 1) k p1) p2)) p3) (.ref a) (.ref s4.heap.objs.size)) (EP X pins σ Q) X.xe { s4 with heap := s4.heap.push { cls := .type "slice", data := .fields #[.none, .none, .int (-1) _] } }
  refine tail_any (ops := [.ref a, .ref s4.heap.objs.size]) ht.typeIs (PyProof.Rows.slot_tuple_getitem.lookup) ?_ (by with_unfolding_all rfl)
  refine tup_back ht (Heap.IsSliceOf.new _ _ _ _) (by rw [List.size_toArray]; omega) ?_
  exact ⟨.ref _, _, I5.laid (t' := s4.toks) (o := .tup xs.reverse) (fun b ob q => Heap.get?_push_of_some _ q) (Nat.le_refl _) ⟨by rw [List.length_reverse]; exact hz, _, r.reverse, IsTup.new _ _⟩, rfl, q _ (I5.hok.fresh (Nat.le_refl _))⟩
end
end PT

set_option maxHeartbeats 4000000
/-! repr of data that stands in the heap -/
namespace PT
open PySem PySem.Spec PyProof.Rows L2

/-! ### data in the heap -/
inductive Si (H : Hp) : V → PyData → Prop
  | non : Si H .non .none
  | bl (b : Bool) : Si H (.bl b) (.bool b)
  | int (i : Int) : Si H (.int i) (.int i)
  | str (x : Str) : Si H (.str x) (.str x)
  | dic {a : Addr} : H a = some (.dK []) → Si H (.ref a) (.dict [])
inductive Rp (K : PySem.W.Frag) (H : Hp) : V → PyData → Prop
  | dp {v : V} {d : PyData} : Dp K H v d → Rp K H v d
  | dic {a : Addr} : H a = some (.dK []) → Rp K H (.ref a) (.dict [])
  | tup {a : Addr} {xs : List V} {ds : List PyData} : SqT K H a xs → Paired (Si H) xs ds → Rp K H (.ref a) (.tuple ds)

theorem seqT {K : PySem.W.Frag} {H H' : Hp} {a : Addr} {xs : List V} (e : Same H H') (h : SqT K H a xs) : SqT K H' a xs := by
  rcases h with (h | ⟨o, h⟩) | h
  · exact .inl (.inl (e _ _ h))
  · exact .inl (.inr ⟨o, e _ _ h⟩)
  · exact .inr h
mutual
theorem dp_same {K : PySem.W.Frag} {H H' : Hp} (e : Same H H') : ∀ (d : PyData) (v : V), Dp K H v d → Dp K H' v d
  | .none, _, h => by cases h; exact .non
  | .bool b, _, h => by cases h; exact .bl b
  | .int i, _, h => by cases h; exact .int i
  | .str x, _, h => by cases h; exact .str x
  | .list ds, _, h => by
    cases h with
    | lst a b => exact .lst (e.seq a) (dps_same e ds _ b)
  | .tuple ds, _, h => by
    cases h with
    | tup a b => exact .tup (seqT e a) (dps_same e ds _ b)
  | .dict _, _, h => by cases h
theorem dps_same {K : PySem.W.Frag} {H H' : Hp} (e : Same H H') : ∀ (ds : List PyData) (vs : List V), DpAll K H vs ds → DpAll K H' vs ds
  | [], _, h => by cases h; exact .nil
  | d :: ds, _, h => by
    cases h with
    | cons a b => exact .cons (dp_same e d _ a) (dps_same e ds _ b)
end
mutual
theorem dp_nd {K : PySem.W.Frag} {H : Hp} : ∀ (d : PyData) (v : V), Dp K H v d → d.hasDict = false
  | .none, _, _ => rfl
  | .bool _, _, _ => rfl
  | .int _, _, _ => rfl
  | .str _, _, _ => rfl
  | .list ds, _, h => by
    cases h with
    | lst a b => simp only [PyData.hasDict]; exact dps_nd ds _ b
  | .tuple ds, _, h => by
    cases h with
    | tup a b => simp only [PyData.hasDict]; exact dps_nd ds _ b
  | .dict _, _, h => by cases h
theorem dps_nd {K : PySem.W.Frag} {H : Hp} : ∀ (ds : List PyData) (vs : List V), DpAll K H vs ds → PyData.hasDictAll ds = false
  | [], _, _ => rfl
  | d :: ds, _, h => by
    cases h with
    | cons a b => simp only [PyData.hasDictAll, dp_nd d _ a, dps_nd ds _ b, Bool.or_self]
end
theorem si_same {H H' : Hp} (e : Same H H') {v : V} {d : PyData} (h : Si H v d) : Si H' v d := by
  cases h with
  | non => exact .non
  | bl b => exact .bl b
  | int i => exact .int i
  | str x => exact .str x
  | dic q => exact .dic (e _ _ q)
theorem rp_same {K : PySem.W.Frag} {H H' : Hp} (e : Same H H') {v : V} {d : PyData} (h : Rp K H v d) : Rp K H' v d := by
  cases h with
  | dp q => exact .dp (dp_same e _ _ q)
  | dic q => exact .dic (e _ _ q)
  | tup a b => exact .tup (seqT e a) (Paired.mapP b fun _ _ z => si_same e z)
theorem dp_ints {K : PySem.W.Frag} {H : Hp} : ∀ ns : List Int, DpAll K H (ns.map V.int) (ns.map PyData.int)
  | [] => .nil
  | n :: ns => .cons (.int n) (dp_ints ns)

section
variable {X : Cx} {pins : List (Addr × Obj)} {σ : List (Option V)} {H : Hp} {st : Shared}
theorem dic_reads {a : Addr} (I : Inv X pins σ H st) (q : H a = some (.dK [])) : Reads st.heap (.ref a) (.dict []) ([a] ++ []) ∧ sysModules ≠ a := by
  obtain ⟨_, hs, vs, rel, dd⟩ := dk_of I.hok q
  obtain ⟨o, es, ep, e1, e2, e3, e4⟩ := dd
  cases rel
  have hes : es.toList = [] := by
    have z := e4.2.1.length
    exact List.eq_nil_of_length_eq_zero z
  refine ⟨.dict e1 e2.1 e3 ?_ ?_, fun z => ?_⟩
  · rw [hes]; exact .nil
  · rw [hes]; exact .nil
  · rw [← z] at hs
    simp at hs
theorem si_reads (I : Inv X pins σ H st) {v : V} {u : Value} {d : PyData} (h : Si H v d) (r : RelV v u) : ∃ as, Reads st.heap u d as ∧ sysModules ∉ as := by
  cases h with
  | non => cases r; exact ⟨_, .none, by simp⟩
  | bl b => cases r; exact ⟨_, .bool b, by simp⟩
  | int i => obtain ⟨t, rfl⟩ := r; exact ⟨_, .int i t, by simp⟩
  | str x => obtain ⟨t, rfl⟩ := r; exact ⟨_, .str x t, by simp⟩
  | dic q =>
    cases r
    obtain ⟨z, ne⟩ := dic_reads I q
    exact ⟨_, z, by simp [ne]⟩
theorem sis_reads (I : Inv X pins σ H st) : ∀ {xs : List V} {us : List Value} {ds : List PyData}, Paired (Si H) xs ds → Vals xs us → ∃ as, ReadsAll st.heap us ds as ∧ sysModules ∉ as
  | _, _, _, .nil, .nil => ⟨_, .nil, by simp⟩
  | _, _, _, .cons a b, .cons r t => by
    obtain ⟨as, h1, n1⟩ := si_reads I a r
    obtain ⟨bs, h2, n2⟩ := sis_reads I b t
    exact ⟨_, .cons h1 h2, by simp [n1, n2]⟩
theorem rp_reads (I : Inv X pins σ H st) {v : V} {u : Value} {d : PyData} (h : Rp X.K H v d) (r : RelV v u) : ∃ as, Reads st.heap u d as ∧ (d.hasDict = true → sysModules ∉ as) := by
  cases h with
  | dp q =>
    obtain ⟨as, z⟩ := Dp.reads I d v u q r
    exact ⟨as, z, fun e => by rw [dp_nd d v q] at e; cases e⟩
  | dic q =>
    cases r
    obtain ⟨z, ne⟩ := dic_reads I q
    exact ⟨_, z, fun _ => by simp [ne]⟩
  | tup a b =>
    cases r
    obtain ⟨its, rv, ⟨o, ho, hc, n, hd⟩, _⟩ := I.tuple a
    obtain ⟨as, z, ne⟩ := sis_reads I b rv
    exact ⟨_, .tuple ho hc hd z, fun _ => ne⟩
end

/-! ### what is short enough to be shown -/
structure Nice (W k : Nat) (d : PyData) : Prop where
  sh : d.showable = true
  dp : d.depth ≤ k
  lv : d.leavesShort 60 = true
  wt : d.weight ≤ W
theorem Nice.shown {W k : Nat} {d : PyData} (n : Nice W k d) (hW : W ≤ 270000 := by decide) : d.shown.length ≤ sizeLine := by
  have h1 := PyData.shown_le 60 (by decide) d n.lv
  have h2 := n.wt
  have h3 := sizeLine_eq
  have h4 : (60 + 2) * d.weight ≤ (60 + 2) * W := Nat.mul_le_mul_left _ h2
  have h5 : (60 + 2) * W ≤ (60 + 2) * 270000 := Nat.mul_le_mul_left _ hW
  omega
theorem Nice.mono {W W' k k' : Nat} {d : PyData} (n : Nice W k d) (hW : W ≤ W' := by decide) (hk : k ≤ k' := by decide) : Nice W' k' d := ⟨n.sh, Nat.le_trans n.dp hk, n.lv, Nat.le_trans n.wt hW⟩
theorem nice_none : Nice 0 0 .none := ⟨rfl, Nat.le_refl _, rfl, Nat.le_refl _⟩
theorem nice_bl (b : Bool) : Nice 0 0 (.bool b) := ⟨rfl, Nat.le_refl _, rfl, Nat.le_refl _⟩
theorem nice_int {i : Int} (h : i.natAbs < 10 ^ 50) : Nice 170 0 (.int i) := by
  have hl : i.natAbs.log2 < 169 := by
    by_cases z : i.natAbs = 0
    · rw [z]; decide
    · exact (Nat.log2_lt z).mpr (Nat.lt_trans h (by decide))
  refine ⟨by simp only [PyData.showable, decide_eq_true_eq]; omega, Nat.le_refl _, ?_, ?_⟩
  · simp only [PyData.leavesShort, decide_eq_true_eq]
    have z := int_text_length_le10 (k := 50) (by decide) h
    have z2 : (PyData.shown (.int i)).length = (toString i).length := by
      show (Str.ofString (toString i)).length = _
      exact PySem.ofString_length _
    omega
  · simp only [PyData.weight]
    split <;> omega
theorem nice_str {x : Str} (h : x.cps.size ≤ 170) (hc : ∀ c ∈ x.cps.toList, c < 16 ^ 8) : Nice 170 0 (.str x) :=
  ⟨rfl, Nat.le_refl _, by simp only [PyData.leavesShort, List.all_eq_true, decide_eq_true_eq]; exact hc, h⟩
theorem nice_all {W k : Nat} : ∀ {ds : List PyData}, (∀ d ∈ ds, Nice W k d) → PyData.showableAll ds = true ∧ PyData.depthAll ds ≤ k ∧ PyData.leavesShortAll 60 ds = true ∧ PyData.weightAll ds ≤ ds.length * (W + 1)
  | [], _ => ⟨rfl, Nat.zero_le _, rfl, Nat.zero_le _⟩
  | d :: ds, h => by
    obtain ⟨a1, a2, a3, a4⟩ := h d (List.mem_cons_self ..)
    obtain ⟨b1, b2, b3, b4⟩ := nice_all fun e he => h e (List.mem_cons_of_mem _ he)
    refine ⟨by simp only [PyData.showableAll, a1, b1, Bool.and_self], by simp only [PyData.depthAll]; omega, by simp only [PyData.leavesShortAll, a3, b3, Bool.and_self], ?_⟩
    simp only [PyData.weightAll, List.length_cons, Nat.add_mul, Nat.one_mul]
    omega
theorem nice_tup {W k L : Nat} {ds : List PyData} (h : ∀ d ∈ ds, Nice W k d) (hl : ds.length ≤ L) : Nice (L * (W + 1)) (k + 1) (.tuple ds) := by
  obtain ⟨b1, b2, b3, b4⟩ := nice_all h
  have z : ds.length * (W + 1) ≤ L * (W + 1) := Nat.mul_le_mul_right _ hl
  exact ⟨by simpa only [PyData.showable] using b1, by simp only [PyData.depth]; omega, by simpa only [PyData.leavesShort] using b3, by simp only [PyData.weight]; omega⟩
theorem nice_lst {W k L : Nat} {ds : List PyData} (h : ∀ d ∈ ds, Nice W k d) (hl : ds.length ≤ L) : Nice (L * (W + 1)) (k + 1) (.list ds) := by
  obtain ⟨b1, b2, b3, b4⟩ := nice_all h
  have z : ds.length * (W + 1) ≤ L * (W + 1) := Nat.mul_le_mul_right _ hl
  exact ⟨by simpa only [PyData.showable] using b1, by simp only [PyData.depth]; omega, by simpa only [PyData.leavesShort] using b3, by simp only [PyData.weight]; omega⟩
theorem nice_ints {ns : List Int} (h : ∀ n ∈ ns, n.natAbs < 10 ^ 50) : ∀ d ∈ ns.map PyData.int, Nice 170 0 d := fun d hd => by
  obtain ⟨n, hn, rfl⟩ := List.mem_map.mp hd
  exact nice_int (h n hn)

/-! ### repr(v) -/
section
variable {X : Cx}
theorem call_reprD (hg : X.A.guards = some []) (hu : X.A.units + 64 < cLine) : CallR X (.builtin "repr") (fun xs H Q => ∃ v d W, xs = [v] ∧ Rp X.K H v d ∧ Nice W 50 d ∧ W ≤ 270000 ∧ Q (.str d.shown) H) := by
  intro pins st σ H xs us Q I r h
  obtain ⟨v, d, W, rfl, hr, hn, hW, q⟩ := h
  obtain ⟨u, rfl, ru⟩ := vals1 r
  obtain ⟨as, hR, hs⟩ := rp_reads I hr ru
  have hz := hn.shown hW
  have hd := hn.dp
  have fin : ∀ t, EP X pins σ Q (.str d.shown t) { st with toks := st.toks + 1 } := fun t => ⟨.str d.shown, H, I.tok _, ⟨t, rfl⟩, q⟩
  cases hR with
  | none => exact PySem.P.repr_of_none (fin _)
  | bool b => exact PySem.P.repr_of_bool (fin _)
  | int i t => exact PySem.P.repr_of_int (by have := hn.sh; simpa only [PyData.showable, decide_eq_true_eq] using this) (fin _)
  | str x t => exact PySem.P.repr_of_str (fin _) hz
  | list a b c e => exact repr_of_reads' (.list a b c e) hn.sh hs hg (by omega) (fun _ _ z => z) (fun h' t tk hk => ⟨.str _, H, I.kept hk, ⟨t, rfl⟩, q⟩) hz
  | tuple a b c e => exact repr_of_reads' (.tuple a b c e) hn.sh hs hg (by omega) (fun _ _ z => z) (fun h' t tk hk => ⟨.str _, H, I.kept hk, ⟨t, rfl⟩, q⟩) hz
  | dict a b c e f => exact repr_of_reads' (.dict a b c e f) hn.sh hs hg (by omega) (fun _ _ z => z) (fun h' t tk hk => ⟨.str _, H, I.kept hk, ⟨t, rfl⟩, q⟩) hz
end
end PT

set_option maxHeartbeats 4000000
/-! the law's own call, where it is known that nothing is being shown: its body may use repr of data -/
namespace PT
open PySem PySem.Spec PyProof.Rows L2

section
variable {CX : CXT} {P : Program} {w : World} {K : PySem.W.Frag} {mg : Str → Option Value} {base : Heap}
/-- a def's call at one Around, from the reading of its body there -/
theorem at_body {k : Nat} {f : Addr} {name qual : Str} {params : Arguments} {body : List Stmt} {scope : Scope} {dV kV doc pm cdv ct oc : Value} {an od : Option Addr} {osl : Array (Option Value)} {N ps : List Str} {A : Around} {outer : List Env} {st : Shared} {H : Hp} {args : Args} {us : List Value} {vs : List V} {Q : VK} {E : XK}
    (lk : K.lookup f = some ⟨oc, od, .func (PySem.W.fnOf name qual params body scope dV kV doc pm an cdv ct), osl⟩) (cd : PySem.W.codeIn K cdv qual = true) (S : FnScope N ps scope) (room : Room (k + 1) A) (e0 : Env0 P w K mg base A outer st H)
    (bd : BindsTo st (PySem.W.fnOf name qual params body scope dV kV doc pm an cdv ct) args (ps.zip us)) (rv : Vals vs us) (ln : vs.length = ps.length)
    (rd : ∃ t, PSs (cxOf CX P w K mg base N qual scope f cdv A outer st H E) body t ∧ t { nx := fun _ H' => Q .non H', rt := Q } (start N vs) H) :
    codeAny (model P w) A (.call (.ref f) args) (CR CX outer P w H st Q E) st := by
  have kin : K.In st.heap := e0.mod.kin.keeps fun b o z => (e0.bs b o z).1
  have nol : st.heap.NoLimit := e0.mod.nolimit.keeps fun b o z => (e0.bs b o z).1
  have kinds : ∀ y ∈ ps.zip us, scope.names.lookup y.1 = some .local ∨ (scope.names.lookup y.1 = some .cell ∧ ((cellsFrom (st.heap.objs.size + 1) scope.names []).lookup y.1).isSome = true) := by
    rintro ⟨n, v⟩ hy
    exact (S.par n (List.of_mem_zip hy).1).imp id fun z => ⟨z, PySem.W.cellsFrom_some _ _ _ (.inl z)⟩
  refine codeAny_call_function room.depth (kin _ _ lk) rfl S.co S.gen rfl (PySem.W.codeRec_of kin cd) (bd _ _ _ _ (wpAny_newFunctionEnv_cells S.kind kinds fun env ee s1 x => ?_))
  subst ee
  refine ⟨nol.keeps x.toInCall.keep, codeAny_func ?_⟩
  obtain ⟨t, ht, hq⟩ := rd
  have I : Inv (cxOf CX P w K mg base N qual scope f cdv A outer st H E) [] (start N vs) H s1 := inv_start S room.hd e0 ln rv x
  refine wpAny_mono (ht.run [] s1 (start N vs) H _ I hq) (fun fl s2 z => ?_) fun _ _ z => z
  cases fl with
  | ret u =>
    obtain ⟨v, σ2, H2, J, rr, q⟩ := z
    exact ⟨v, H2, J.os, J.bare, J.base, J.hok, rr, q⟩
  | next =>
    obtain ⟨σ2, H2, J, q⟩ := z
    exact ⟨V.non, H2, J.os, J.bare, J.base, J.hok, rfl, q⟩
  | brk =>
    obtain ⟨_, _, _, q⟩ := z
    cases q
  | cont =>
    obtain ⟨_, _, _, q⟩ := z
    cases q
end

/-- the law's call behind the top: only the script may be tracked, and it is known -/
theorem law_atG {P : Program} {w : World} {K : PySem.W.Frag} {mg mb : Str → Option Value} {fa a : Addr} {s₁ : Shared} {vs : List Value} {ns : List Int}
    (kin : K.In s₁.heap) (gl : s₁.heap.Ns mainGlobals mg) (bl : s₁.heap.Ns builtinsNs mb) (bb : ∀ x : Str, x ≠ "__name__" → mb x = bootBuiltins x) (nl : s₁.heap.NoLimit) (gn : s₁.gens = #[])
    (ha : s₁.heap.get? a = some { cls := .type "list", data := .seq vs.toArray }) (hi : IntsAre vs ns) (hl : ns.length ≤ sizeLine)
    (F : ∀ (base : Heap) (H : Hp), K.In base → base.Ns mainGlobals mg → Only H → SqL K H a (ns.map V.int) → Env0 P w K mg base callerA [] s₁ H →
      codeAny (model P w) callerA (.call (.ref fa) ⟨[.ref a], []⟩) (CR CX0 [] P w H s₁ (fun v _ => v = .bl true) fun _ _ _ => False) s₁) :
    codeAny (model P w) callerA (.call (.ref fa) ⟨[.ref a], []⟩) (fun r s' => r = .ok (.ret (.bool true)) ∧ OldK s₁.heap s'.heap ∧ s'.os = s₁.os ∧ AllBare s'.gens) s₁ := by
  have rv := vals_ints hi
  have ln := hi.length
  suffices main : ∃ H : Hp, Only H ∧ SqL K H a (ns.map V.int) ∧ HOk P w H s₁.heap ∧ (∀ b, H b ≠ none → b = a ∧ K.lookup a = none) by
    obtain ⟨H, o1, o2, ok, tr⟩ := main
    have keepH : ∀ {b : Addr} {o : Obj}, s₁.heap.get? b = some o → H b = none → (hidT s₁.heap H).get? b = some o := fun z n => hidT_get z n
    have seqNot : ∀ {b : Addr} {o : Obj} {es : Array DictEntry} {ep : Nat}, s₁.heap.get? b = some o → o.data = .dict es ep → H b = none := by
      intro b o es ep z1 z2
      by_cases n : H b = none
      · exact n
      · rw [(tr b n).1, ha] at z1
        cases z1
        cases z2
    have nss : ∀ {b : Addr} {m : Str → Option Value}, s₁.heap.Ns b m → (hidT s₁.heap H).Ns b m := by
      rintro b m ⟨o, es, ep, z1, z2, r⟩
      exact ⟨o, es, ep, keepH z1 (seqNot z1 z2), z2, r⟩
    have kb : K.In (hidT s₁.heap H) := by
      intro b o z
      refine keepH (kin b o z) ?_
      by_cases n : H b = none
      · exact n
      · obtain ⟨z1, z2⟩ := tr b n
        rw [z1, z2] at z
        cases z
    have md : Mod K mg (hidT s₁.heap H) := by
      obtain ⟨mc, c1, c2⟩ := nl
      exact ⟨kb, nss gl, ⟨mb, nss bl, bb⟩, ⟨mc, nss c1, c2⟩⟩
    have en : Env0 P w K mg (hidT s₁.heap H) callerA [] s₁ H :=
      ⟨rfl, md, fun _ _ z => of_hidT z, Nat.le_of_eq (hidT_size _ _), trivial, fun b z => absurd (show b ∈ ([] : List Addr) from z) (by simp), ok, .of_eq gn⟩
    refine codeAny_mono (F _ H kb (nss gl) o1 o2 en) fun r s2 z => ?_
    match r, z with
    | .error _, z => exact False.elim z
    | .ok .next, z => exact False.elim z
    | .ok .brk, z => exact False.elim z
    | .ok .cont, z => exact False.elim z
    | .ok (.ret u), z =>
      obtain ⟨v, H2, os, bare, un, ok2, rr, q⟩ := z
      have q2 : v = .bl true := q
      subst q2
      obtain rfl : u = Value.bool true := rr
      refine ⟨rfl, .of_keep fun b o z => ?_, os, bare⟩
      by_cases n : H b = none
      · exact un.keep b o z n (fun y => absurd (show b ∈ ([] : List Addr) from y) (by simp)) (by simp)
      · rcases o1 b with y | ⟨ob, xs, y⟩
        · exact absurd y n
        · obtain ⟨y1, _⟩ := ok b _ y
          obtain ⟨y2, _⟩ := ok2 b _ (un.frzs b ob _ y)
          rw [z] at y1
          cases y1
          exact y2
  cases hk : K.lookup a with
  | some o =>
    have z := kin a o hk
    rw [ha] at z
    cases z
    exact ⟨fun _ => none, fun _ => .inl rfl, .inr ⟨_, vs.toArray, _, hk, rfl, rfl, rfl, by rw [List.size_toArray, ln]; exact hl, by simpa using rv⟩, fun _ u y => absurd (show (none : Option HO) = some u from y) (by simp), fun _ y => absurd rfl y⟩
  | none =>
    let scr : HO := .frz { cls := .type "list", data := .seq vs.toArray } (.lst (ns.map V.int))
    refine ⟨fun b => if b = a then some scr else none, fun b => ?_, .inl (.inr ⟨_, if_pos rfl⟩), fun b u z => ?_, fun b z => ?_⟩
    · by_cases e : b = a
      · exact .inr ⟨_, _, if_pos e⟩
      · exact .inl (if_neg e)
    · by_cases e : b = a
      · have z2 : some scr = some u := (if_pos e).symm.trans z
        cases z2
        rw [e]
        exact ⟨ha, by rw [List.length_map]; exact hl, vs, _, rv, ha⟩
      · exact absurd (show (none : Option HO) = some u from (if_neg e).symm.trans z) (by simp)
    · by_cases e : b = a
      · exact ⟨e, rfl⟩
      · exact absurd (if_neg e) z
/-- what k_head leaves, from such a call -/
theorem walk_G {l : PySem.W.OpenLaw} {n : Nat} {q : Program} {loose : List Str} {XP : (Str → Option Value) → Heap → Prop} {YP : World → Heap → Prop} {d : DefRec} {K : Params → PySem.W.Frag}
    (hn : l.most = some n) (hn2 : n ≤ sizeLine) (hdf : d.params.defaults = []) (hY : ∀ (w : World) (h : Heap), YP w h → (K w.params).In h)
    (F : ∀ (w : World) (mg : Str → Option Value) (fa a : Addr) (st : Shared) (base : Heap) (H : Hp) (ns : List Int), (K w.params).In st.heap → st.heap.Ns mainGlobals mg → mg d.name = some (.ref fa) → (K w.params).In base → base.Ns mainGlobals mg → ns.length ≤ n → Only H → SqL (K w.params) H a (ns.map V.int) →
      Env0 l.prog w (K w.params) mg base callerA [] st H → codeAny (model l.prog w) callerA (.call (.ref fa) ⟨[.ref a], []⟩) (CR CX0 [] l.prog w H st (fun v _ => v = .bl true) fun _ _ _ => False) st) :
    PySem.W.WalkO q loose XP YP l.row.toRowW d [] (fun f vs => PySem.call f vs) := by
  refine Att.attach_call hn hdf fun w s₀ s₁ mg mb fa o pm cd doc a vs ns G Y ho hd hcd hmg hobj hints hlen hg => ?_
  have kin := hY w _ Y
  exact law_atG kin G.T.g G.T.b G.T.builtins G.T.nolimit hg hobj hints (Nat.le_trans hlen hn2) fun base H kb gb o1 o2 en => F w mg fa a s₁ base H ns kin G.T.g hmg kb gb hlen o1 o2 en
end PT

set_option maxHeartbeats 4000000
/-! the text of the law, by places -/
namespace PT
open PySem PySem.Spec PyProof.Rows L2
def topS (i : Nat) : Stmt := PySem.Challenge.pw_pulltree_k01_plants.main.body.getD i (.Pass ⟨0, 0, 0, 0⟩)
abbrev sIsInteger : Stmt := topS 6
theorem scIsInteger : FnScope ["value"] ["value"] (defScope sIsInteger) := ⟨rfl, rfl, rfl, by decide +kernel, rfl, by decide +kernel, by decide +kernel⟩
abbrev sFitsPlant : Stmt := topS 7
theorem scFitsPlant : FnScope ["value", "greatest", "above"] ["value"] (defScope sFitsPlant) := ⟨rfl, rfl, rfl, by decide +kernel, rfl, by decide +kernel, by decide +kernel⟩
abbrev sFitsStation : Stmt := topS 8
theorem scFitsStation : FnScope ["plant", "value"] ["plant", "value"] (defScope sFitsStation) := ⟨rfl, rfl, rfl, by decide +kernel, rfl, by decide +kernel, by decide +kernel⟩
abbrev sCheckPlant : Stmt := topS 9
theorem scCheckPlant : FnScope ["plant"] ["plant"] (defScope sCheckPlant) := ⟨rfl, rfl, rfl, by decide +kernel, rfl, by decide +kernel, by decide +kernel⟩
abbrev sCheckStation : Stmt := topS 10
theorem scCheckStation : FnScope ["plant", "station"] ["plant", "station"] (defScope sCheckStation) := ⟨rfl, rfl, rfl, by decide +kernel, rfl, by decide +kernel, by decide +kernel⟩
abbrev sIsPlant : Stmt := topS 12
theorem scIsPlant : FnScope ["value"] ["value"] (defScope sIsPlant) := ⟨rfl, rfl, rfl, by decide +kernel, rfl, by decide +kernel, by decide +kernel⟩
abbrev sCustomer : Stmt := topS 13
theorem scCustomer : FnScope ["plant", "station"] ["plant", "station"] (defScope sCustomer) := ⟨rfl, rfl, rfl, by decide +kernel, rfl, by decide +kernel, by decide +kernel⟩
abbrev sSuppliers : Stmt := topS 14
theorem scSuppliers : FnScope ["plant", "station", "at", "above"] ["plant", "station"] (defScope sSuppliers) := ⟨rfl, rfl, rfl, by decide +kernel, rfl, by decide +kernel, by decide +kernel⟩
abbrev sMakers : Stmt := topS 15
theorem scMakers : FnScope ["plant", "customers", "station"] ["plant"] (defScope sMakers) := ⟨rfl, rfl, rfl, by decide +kernel, rfl, by decide +kernel, by decide +kernel⟩
abbrev sSize : Stmt := topS 16
theorem scSize : FnScope ["plant", "station", "counted", "above"] ["plant", "station"] (defScope sSize) := ⟨rfl, rfl, rfl, by decide +kernel, rfl, by decide +kernel, by decide +kernel⟩
abbrev sPathToShop : Stmt := topS 17
theorem scPathToShop : FnScope ["plant", "station"] ["plant", "station"] (defScope sPathToShop) := ⟨rfl, rfl, rfl, by decide +kernel, rfl, by decide +kernel, by decide +kernel⟩
abbrev sPathUp : Stmt := topS 18
theorem scPathUp : FnScope ["plant", "station", "customers", "path"] ["plant", "station"] (defScope sPathUp) := ⟨rfl, rfl, rfl, by decide +kernel, rfl, by decide +kernel, by decide +kernel⟩
abbrev sLawBag : Stmt := topS 20
theorem scLawBag : FnScope ["cell"] ["cell"] (defScope sLawBag) := ⟨rfl, rfl, rfl, by decide +kernel, rfl, by decide +kernel, by decide +kernel⟩
abbrev sLawPick : Stmt := topS 21
theorem scLawPick : FnScope ["bag", "many", "told", "first", "second"] ["bag", "many"] (defScope sLawPick) := ⟨rfl, rfl, rfl, by decide +kernel, rfl, by decide +kernel, by decide +kernel⟩
abbrev sLawPlant : Stmt := topS 22
theorem scLawPlant : FnScope ["bag", "most", "many", "way", "found", "k"] ["bag", "most"] (defScope sLawPlant) := ⟨rfl, rfl, rfl, by decide +kernel, rfl, by decide +kernel, by decide +kernel⟩
abbrev sLawDue : Stmt := topS 26
theorem scLawDue : FnScope ["value", "k", "other"] ["value"] (defScope sLawDue) := ⟨rfl, rfl, rfl, by decide +kernel, rfl, by decide +kernel, by decide +kernel⟩
abbrev sLawOthers : Stmt := topS 27
theorem scLawOthers : FnScope ["bag", "plant", "at", "odd", "some", "one"] ["bag", "plant"] (defScope sLawOthers) := ⟨rfl, rfl, rfl, by decide +kernel, rfl, by decide +kernel, by decide +kernel⟩
abbrev sLawPath : Stmt := topS 28
theorem scLawPath : FnScope ["plant", "station", "found"] ["plant", "station"] (defScope sLawPath) := ⟨rfl, rfl, rfl, by decide +kernel, rfl, by decide +kernel, by decide +kernel⟩
abbrev sLaw : Stmt := topS 29
theorem scLaw : FnScope ["script", "cell", "bag", "plant", "value", "kept", "station", "paths", "leaves", "path", "under", "many", "again", "told", "led", "ends", "k", "other"] ["script"] (defScope sLaw) := ⟨rfl, rfl, rfl, by decide +kernel, rfl, by decide +kernel, by decide +kernel⟩
/-- where the defs stand behind the top, and which names are still the built-in ones -/
structure Tx (K : PySem.W.Frag) (mg : Str → Option Value) where
  f_is_integer : Addr
  d_is_integer : FuncData
  f_fits_plant : Addr
  d_fits_plant : FuncData
  f_fits_station : Addr
  d_fits_station : FuncData
  f_check_plant : Addr
  d_check_plant : FuncData
  f_check_station : Addr
  d_check_station : FuncData
  f_is_plant : Addr
  d_is_plant : FuncData
  f_customer : Addr
  d_customer : FuncData
  f_suppliers : Addr
  d_suppliers : FuncData
  f_makers : Addr
  d_makers : FuncData
  f_size : Addr
  d_size : FuncData
  f_path_to_shop : Addr
  d_path_to_shop : FuncData
  f_path_up : Addr
  d_path_up : FuncData
  f__law_bag : Addr
  d__law_bag : FuncData
  f__law_pick : Addr
  d__law_pick : FuncData
  f__law_plant : Addr
  d__law_plant : FuncData
  f__law_due : Addr
  d__law_due : FuncData
  f__law_others : Addr
  d__law_others : FuncData
  f__law_path : Addr
  d__law_path : FuncData
  t_MOST_STATIONS : Tok
  F_is_integer : Fun K "is_integer" "is_integer" sIsInteger f_is_integer d_is_integer
  b_is_integer : Binds K d_is_integer ["value"] []
  g_is_integer : mg "is_integer" = some (.ref f_is_integer)
  F_fits_plant : Fun K "fits_plant" "fits_plant" sFitsPlant f_fits_plant d_fits_plant
  b_fits_plant : Binds K d_fits_plant ["value"] []
  g_fits_plant : mg "fits_plant" = some (.ref f_fits_plant)
  F_fits_station : Fun K "fits_station" "fits_station" sFitsStation f_fits_station d_fits_station
  b_fits_station : Binds K d_fits_station ["plant", "value"] []
  g_fits_station : mg "fits_station" = some (.ref f_fits_station)
  F_check_plant : Fun K "check_plant" "check_plant" sCheckPlant f_check_plant d_check_plant
  b_check_plant : Binds K d_check_plant ["plant"] []
  g_check_plant : mg "check_plant" = some (.ref f_check_plant)
  F_check_station : Fun K "check_station" "check_station" sCheckStation f_check_station d_check_station
  b_check_station : Binds K d_check_station ["plant", "station"] []
  g_check_station : mg "check_station" = some (.ref f_check_station)
  F_is_plant : Fun K "is_plant" "is_plant" sIsPlant f_is_plant d_is_plant
  b_is_plant : Binds K d_is_plant ["value"] []
  g_is_plant : mg "is_plant" = some (.ref f_is_plant)
  F_customer : Fun K "customer" "customer" sCustomer f_customer d_customer
  b_customer : Binds K d_customer ["plant", "station"] []
  g_customer : mg "customer" = some (.ref f_customer)
  F_suppliers : Fun K "suppliers" "suppliers" sSuppliers f_suppliers d_suppliers
  b_suppliers : Binds K d_suppliers ["plant", "station"] []
  g_suppliers : mg "suppliers" = some (.ref f_suppliers)
  F_makers : Fun K "makers" "makers" sMakers f_makers d_makers
  b_makers : Binds K d_makers ["plant"] []
  g_makers : mg "makers" = some (.ref f_makers)
  F_size : Fun K "size" "size" sSize f_size d_size
  b_size : Binds K d_size ["plant", "station"] []
  g_size : mg "size" = some (.ref f_size)
  F_path_to_shop : Fun K "path_to_shop" "path_to_shop" sPathToShop f_path_to_shop d_path_to_shop
  b_path_to_shop : Binds K d_path_to_shop ["plant", "station"] []
  g_path_to_shop : mg "path_to_shop" = some (.ref f_path_to_shop)
  F_path_up : Fun K "path_up" "path_up" sPathUp f_path_up d_path_up
  b_path_up : Binds K d_path_up ["plant", "station"] []
  g_path_up : mg "path_up" = some (.ref f_path_up)
  F__law_bag : Fun K "_law_bag" "_law_bag" sLawBag f__law_bag d__law_bag
  b__law_bag : Binds K d__law_bag ["cell"] []
  g__law_bag : mg "_law_bag" = some (.ref f__law_bag)
  F__law_pick : Fun K "_law_pick" "_law_pick" sLawPick f__law_pick d__law_pick
  b__law_pick : Binds K d__law_pick ["bag", "many"] []
  g__law_pick : mg "_law_pick" = some (.ref f__law_pick)
  F__law_plant : Fun K "_law_plant" "_law_plant" sLawPlant f__law_plant d__law_plant
  b__law_plant : Binds K d__law_plant ["bag", "most"] []
  g__law_plant : mg "_law_plant" = some (.ref f__law_plant)
  F__law_due : Fun K "_law_due" "_law_due" sLawDue f__law_due d__law_due
  b__law_due : Binds K d__law_due ["value"] []
  g__law_due : mg "_law_due" = some (.ref f__law_due)
  F__law_others : Fun K "_law_others" "_law_others" sLawOthers f__law_others d__law_others
  b__law_others : Binds K d__law_others ["bag", "plant"] []
  g__law_others : mg "_law_others" = some (.ref f__law_others)
  F__law_path : Fun K "_law_path" "_law_path" sLawPath f__law_path d__law_path
  b__law_path : Binds K d__law_path ["plant", "station"] []
  g__law_path : mg "_law_path" = some (.ref f__law_path)
  g_MOST_STATIONS : mg "MOST_STATIONS" = some (.int 40 t_MOST_STATIONS)
  n_bool : mg "bool" = none
  n_enumerate : mg "enumerate" = none
  n_int : mg "int" = none
  n_isinstance : mg "isinstance" = none
  n_len : mg "len" = none
  n_list : mg "list" = none
  n_max : mg "max" = none
  n_range : mg "range" = none
  n_repr : mg "repr" = none
  n_set : mg "set" = none
  n_tuple : mg "tuple" = none
end PT

/-! plants as lists of ints: customers, paths, suppliers, sizes -/
namespace PT

structure Plant (pl : List Int) : Prop where
  len : pl.length ≤ 39
  ok : ∀ (i : Nat) (x : Int), pl[i]? = some x → 0 ≤ x ∧ x ≤ i
/-- the customer of a station that is not 0 -/
def cu (pl : List Int) (k : Nat) : Nat := min (pl.getD (k - 1) 0).toNat (k - 1)
theorem cu_lt (pl : List Int) {k : Nat} (h : 0 < k) : cu pl k < k := by
  unfold cu
  omega
theorem Plant.at {pl : List Int} (p : Plant pl) {i : Nat} (hi : i < pl.length) : pl[i]? = some ((cu pl (i + 1) : Nat) : Int) := by
  have e : pl[i]? = some pl[i] := List.getElem?_eq_getElem hi
  obtain ⟨h0, h1⟩ := p.ok i _ e
  rw [e]
  unfold cu
  rw [Nat.add_sub_cancel, List.getD_eq_getElem?_getD, e, Option.getD_some]
  congr 1
  omega
/-- the way to station 0 -/
def path (pl : List Int) (k : Nat) : List Nat := if h : 0 < k then k :: path pl (cu pl k) else [k]
termination_by k
decreasing_by exact cu_lt pl h
theorem path_zero (pl : List Int) : path pl 0 = [0] := by
  rw [path]
  rfl
theorem path_pos (pl : List Int) {k : Nat} (h : 0 < k) : path pl k = k :: path pl (cu pl k) := by
  rw [path, dif_pos h]
theorem path_head (pl : List Int) (k : Nat) : (path pl k)[0]? = some k := by
  by_cases h : 0 < k
  · rw [path_pos pl h]; rfl
  · have : k = 0 := by omega
    subst this
    rw [path_zero]; rfl
theorem path_le (pl : List Int) : ∀ (k m : Nat), m ∈ path pl k → m ≤ k := by
  intro k
  induction k using Nat.strongRecOn with
  | ind k ih =>
    intro m hm
    by_cases h : 0 < k
    · rw [path_pos pl h] at hm
      rcases List.mem_cons.mp hm with e | e
      · omega
      · have := ih _ (cu_lt pl h) m e
        have := cu_lt pl h
        omega
    · have e : k = 0 := by omega
      subst e
      rw [path_zero] at hm
      simp at hm
      omega
theorem path_len (pl : List Int) : ∀ (k : Nat), (path pl k).length ≤ k + 1 := by
  intro k
  induction k using Nat.strongRecOn with
  | ind k ih =>
    by_cases h : 0 < k
    · rw [path_pos pl h, List.length_cons]
      have := ih _ (cu_lt pl h)
      have := cu_lt pl h
      omega
    · have e : k = 0 := by omega
      subst e
      rw [path_zero]
      simp
/-- the first station of the way that is at most m -/
def anc (pl : List Int) (m k : Nat) : Nat := if h : m < k then anc pl m (cu pl k) else k
termination_by k
decreasing_by exact cu_lt pl (by omega)
theorem anc_gt (pl : List Int) {m k : Nat} (h : m < k) : anc pl m k = anc pl m (cu pl k) := by
  rw [anc, dif_pos h]
theorem anc_le (pl : List Int) {m k : Nat} (h : k ≤ m) : anc pl m k = k := by
  rw [anc, dif_neg (by omega)]
theorem anc_mem (pl : List Int) (m : Nat) : ∀ k, anc pl m k = m ↔ m ∈ path pl k := by
  intro k
  induction k using Nat.strongRecOn with
  | ind k ih =>
    by_cases h : m < k
    · rw [anc_gt pl h, path_pos pl (by omega), List.mem_cons, ih _ (cu_lt pl (by omega))]
      constructor
      · exact .inr
      · rintro (e | e)
        · omega
        · exact e
    · rw [anc_le pl (by omega)]
      constructor
      · intro e
        subst e
        exact List.mem_of_getElem? (path_head pl k)
      · intro e
        have := path_le pl k m e
        omega
theorem anc_step (pl : List Int) {m : Nat} (hm : 0 < m) : ∀ k, anc pl (m - 1) k = if anc pl m k = m then cu pl m else anc pl m k := by
  intro k
  induction k using Nat.strongRecOn with
  | ind k ih =>
    by_cases h : m < k
    · rw [anc_gt pl h, anc_gt pl (by omega), ih _ (cu_lt pl (by omega))]
    · by_cases e : k = m
      · subst e
        have c := cu_lt pl hm
        rw [anc_gt pl (by omega), anc_le pl (Nat.le_refl k), if_pos rfl, anc_le pl (by omega)]
      · rw [anc_le pl (by omega), anc_le pl (by omega), if_neg e]
/-- how many stations come to j when all above m are passed on -/
def cnt (pl : List Int) (m j : Nat) : Nat := (List.range (pl.length + 1)).countP fun k => decide (anc pl m k = j)
theorem countP_or {α : Type} {p q r : α → Bool} (h : ∀ x, r x = (p x || q x)) (d : ∀ x, p x = true → q x = false) : ∀ l : List α, l.countP r = l.countP p + l.countP q
  | [] => rfl
  | x :: l => by
    rw [List.countP_cons, List.countP_cons, List.countP_cons, countP_or h d l, h x]
    cases ep : p x with
    | true =>
      rw [d x ep]
      simp
      omega
    | false =>
      cases q x <;> simp <;> omega
theorem countP_none {α : Type} {p : α → Bool} (h : ∀ x, p x = false) : ∀ l : List α, l.countP p = 0
  | [] => rfl
  | x :: l => by rw [List.countP_cons, countP_none h l, h x]; rfl
theorem cnt_step (pl : List Int) {m j : Nat} (hm : 0 < m) (hj : j < m) : cnt pl (m - 1) j = cnt pl m j + if cu pl m = j then cnt pl m m else 0 := by
  unfold cnt
  by_cases c : cu pl m = j
  · rw [if_pos c]
    refine countP_or (fun k => ?_) (fun k h => ?_) _
    · rw [anc_step pl hm k]
      by_cases e : anc pl m k = m
      · rw [if_pos e, c]
        simp [e]
      · rw [if_neg e]
        simp [e]
    · have := of_decide_eq_true h
      exact decide_eq_false (by omega)
  · rw [if_neg c, Nat.add_zero]
    congr 1
    funext k
    rw [anc_step pl hm k]
    by_cases e : anc pl m k = m
    · rw [if_pos e]
      have h1 : ¬ anc pl m k = j := by omega
      simp [c, h1]
    · rw [if_neg e]
theorem countP_one (j : Nat) : ∀ n, (List.range n).countP (fun k => decide (k = j)) = if j < n then 1 else 0
  | 0 => rfl
  | n + 1 => by
    rw [List.range_succ, List.countP_append, countP_one j n]
    simp only [List.countP_cons, List.countP_nil]
    by_cases e : n = j
    · subst e
      simp
    · by_cases h : j < n
      · have h2 : j < n + 1 := by omega
        simp [e, h, h2]
      · have h2 : ¬ j < n + 1 := by omega
        simp [e, h, h2]
theorem cnt_top (pl : List Int) {j : Nat} (hj : j ≤ pl.length) : cnt pl pl.length j = 1 := by
  unfold cnt
  have e : (List.range (pl.length + 1)).countP (fun k => decide (anc pl pl.length k = j)) = (List.range (pl.length + 1)).countP (fun k => decide (k = j)) := by
    refine List.countP_congr fun k hk => ?_
    have : k ≤ pl.length := by have := List.mem_range.mp hk; omega
    rw [anc_le pl this]
  rw [e, countP_one, if_pos (by omega)]
/-- the size of a station -/
def sz (pl : List Int) (j : Nat) : Nat := (List.range (pl.length + 1)).countP fun k => decide (j ∈ path pl k)
theorem cnt_sz (pl : List Int) (j : Nat) : cnt pl j j = sz pl j := by
  unfold cnt sz
  refine List.countP_congr fun k _ => ?_
  simp only [decide_eq_true_eq]
  exact anc_mem pl j k
/-- the list of sizes when the stations above m are passed on -/
def szs (pl : List Int) (m : Nat) : List Int := (List.range (pl.length + 1)).map fun j => if j ≤ m then ((cnt pl m j : Nat) : Int) else ((sz pl j : Nat) : Int)
theorem szs_len (pl : List Int) (m : Nat) : (szs pl m).length = pl.length + 1 := by
  unfold szs
  rw [List.length_map, List.length_range]
theorem szs_at (pl : List Int) (m : Nat) {j : Nat} (hj : j ≤ pl.length) : (szs pl m)[j]? = some (if j ≤ m then ((cnt pl m j : Nat) : Int) else ((sz pl j : Nat) : Int)) := by
  unfold szs
  rw [List.getElem?_map, List.getElem?_range (by omega)]
  rfl
theorem szs_top (pl : List Int) : szs pl pl.length = List.replicate (pl.length + 1) 1 := by
  refine List.ext_getElem? fun j => ?_
  by_cases hj : j ≤ pl.length
  · rw [szs_at pl _ hj, if_pos hj, cnt_top pl hj, List.getElem?_replicate, if_pos (by omega)]
    rfl
  · rw [List.getElem?_eq_none (by rw [szs_len]; omega), List.getElem?_eq_none (by rw [List.length_replicate]; omega)]
theorem szs_step (pl : List Int) {m : Nat} (hm : 0 < m) (hn : m ≤ pl.length) : szs pl (m - 1) = (szs pl m).set (cu pl m) (((cnt pl m (cu pl m) : Nat) : Int) + ((cnt pl m m : Nat) : Int)) := by
  have hc := cu_lt pl hm
  refine List.ext_getElem? fun j => ?_
  by_cases hj : j ≤ pl.length
  · rw [szs_at pl _ hj]
    by_cases e : cu pl m = j
    · subst e
      rw [List.getElem?_set_self (by rw [szs_len]; omega), if_pos (by omega), cnt_step pl hm hc, if_pos rfl]
      congr 1
    · rw [List.getElem?_set_ne e, szs_at pl _ hj]
      by_cases h1 : j ≤ m - 1
      · rw [if_pos h1, if_pos (by omega), cnt_step pl hm (by omega), if_neg e, Nat.add_zero]
      · rw [if_neg h1]
        by_cases h2 : j ≤ m
        · have : j = m := by omega
          subst this
          rw [if_pos (Nat.le_refl _), cnt_sz]
        · rw [if_neg h2]
  · rw [List.getElem?_eq_none (by rw [szs_len]; omega), List.getElem?_eq_none (by rw [List.length_set, szs_len]; omega)]
theorem szs_zero (pl : List Int) {j : Nat} (hj : j ≤ pl.length) : (szs pl 0)[j]? = some ((sz pl j : Nat) : Int) := by
  rw [szs_at pl 0 hj]
  by_cases h : j ≤ 0
  · have : j = 0 := by omega
    subst this
    rw [if_pos (Nat.le_refl _), cnt_sz]
  · rw [if_neg h]
theorem cnt_le (pl : List Int) (m j : Nat) : cnt pl m j ≤ pl.length + 1 := by
  unfold cnt
  exact Nat.le_trans List.countP_le_length (by rw [List.length_range]; exact Nat.le_refl _)
theorem sz_le (pl : List Int) (j : Nat) : sz pl j ≤ pl.length + 1 := by
  rw [← cnt_sz]
  exact cnt_le pl j j

/-- the suppliers of j among the first i stations that have a customer -/
def sup (pl : List Int) (i j : Nat) : List Int := ((List.range i).filter fun k => decide (pl.getD k 0 = (j : Int))).map fun k => ((k : Nat) : Int) + 1
theorem sup_zero (pl : List Int) (j : Nat) : sup pl 0 j = [] := rfl
theorem sup_step {pl : List Int} {i : Nat} {x : Int} (j : Nat) (h : pl[i]? = some x) : sup pl (i + 1) j = if x = (j : Int) then sup pl i j ++ [((i : Nat) : Int) + 1] else sup pl i j := by
  unfold sup
  rw [List.range_succ, List.filter_append, List.map_append]
  have e : pl[i]?.getD 0 = x := by rw [h]; rfl
  by_cases c : x = (j : Int)
  · rw [if_pos c]
    simp [e, c]
  · rw [if_neg c]
    simp [e, c]
theorem sup_len (pl : List Int) (i j : Nat) : (sup pl i j).length ≤ i := by
  unfold sup
  rw [List.length_map]
  exact Nat.le_trans (List.length_filter_le ..) (by rw [List.length_range]; exact Nat.le_refl _)
theorem sup_small (pl : List Int) (i j : Nat) : ∀ n ∈ sup pl i j, 0 ≤ n ∧ n ≤ i := by
  intro n hn
  unfold sup at hn
  obtain ⟨k, hk, rfl⟩ := List.mem_map.mp hn
  have := List.mem_range.mp (List.mem_filter.mp hk).1
  omega
theorem sup_nil {pl : List Int} (j : Nat) : sup pl pl.length j = [] ↔ (j : Int) ∉ pl := by
  constructor
  · intro h hm
    obtain ⟨k, hk, e⟩ := List.getElem_of_mem hm
    have : ((k : Nat) : Int) + 1 ∈ sup pl pl.length j := by
      unfold sup
      refine List.mem_map.mpr ⟨k, List.mem_filter.mpr ⟨List.mem_range.mpr hk, ?_⟩, rfl⟩
      rw [decide_eq_true_eq, List.getD_eq_getElem?_getD, List.getElem?_eq_getElem hk, Option.getD_some]
      exact e
    rw [h] at this
    cases this
  · intro h
    unfold sup
    rw [List.map_eq_nil_iff, List.filter_eq_nil_iff]
    intro k hk c
    have hk' := List.mem_range.mp hk
    have e := of_decide_eq_true c
    rw [List.getD_eq_getElem?_getD, List.getElem?_eq_getElem hk', Option.getD_some] at e
    exact h (e ▸ List.getElem_mem hk')
/-- the makers -/
def mks (pl : List Int) (i : Nat) : List Int := ((List.range i).filter fun (j : Nat) => decide ((j : Int) ∉ pl)).map fun (j : Nat) => (j : Int)
theorem mks_step (pl : List Int) (i : Nat) : mks pl (i + 1) = if (i : Int) ∈ pl then mks pl i else mks pl i ++ [((i : Nat) : Int)] := by
  unfold mks
  rw [List.range_succ, List.filter_append, List.map_append]
  by_cases c : (i : Int) ∈ pl
  · rw [if_pos c]
    simp [c]
  · rw [if_neg c]
    simp [c]
theorem mks_len (pl : List Int) (i : Nat) : (mks pl i).length ≤ i := by
  unfold mks
  rw [List.length_map]
  exact Nat.le_trans (List.length_filter_le ..) (by rw [List.length_range]; exact Nat.le_refl _)
theorem mks_small (pl : List Int) (i : Nat) : ∀ n ∈ mks pl i, 0 ≤ n ∧ n ≤ i := by
  intro n hn
  unfold mks at hn
  obtain ⟨k, hk, rfl⟩ := List.mem_map.mp hn
  have := List.mem_range.mp (List.mem_filter.mp hk).1
  omega
end PT

/-! a day of a plant, as a function on lists -/
namespace PT

theorem sup_gt {pl : List Int} (hP : Plant pl) {j : Nat} {n : Int} (h : n ∈ sup pl pl.length j) : ∃ k : Nat, n = (k : Int) ∧ j < k ∧ k ≤ pl.length := by
  unfold sup at h
  obtain ⟨k, hk, rfl⟩ := List.mem_map.mp h
  obtain ⟨h1, h2⟩ := List.mem_filter.mp hk
  have hk' := List.mem_range.mp h1
  have e : pl[k]? = some pl[k] := List.getElem?_eq_getElem hk'
  obtain ⟨a, b⟩ := hP.ok k _ e
  have c := of_decide_eq_true h2
  rw [List.getD_eq_getElem?_getD, e, Option.getD_some] at c
  exact ⟨k + 1, by omega, by omega, by omega⟩
/-- the number of the box at a station -/
def bx (ss : List Int) (k : Int) : Int := ss.getD k.toNat 0
/-- the first of the stations with the oldest box -/
def pickB (ss : List Int) (b : Int) (l : List Int) : Int := l.foldl (fun b o => if bx ss o < bx ss b then o else b) b
theorem pickB_mem (ss : List Int) : ∀ (l : List Int) (b : Int), pickB ss b l ∈ b :: l
  | [], b => List.mem_cons_self
  | o :: l, b => by
    have ih := pickB_mem ss l (if bx ss o < bx ss b then o else b)
    show pickB ss (if bx ss o < bx ss b then o else b) l ∈ b :: o :: l
    rcases List.mem_cons.mp ih with e | e
    · rw [e]
      by_cases c : bx ss o < bx ss b
      · rw [if_pos c]; simp
      · rw [if_neg c]; simp
    · exact List.mem_cons_of_mem _ (List.mem_cons_of_mem _ e)
theorem pickB_le (ss : List Int) : ∀ (l : List Int) (b : Int), ∀ x ∈ b :: l, bx ss (pickB ss b l) ≤ bx ss x
  | [], b, x, h => by
    rw [List.mem_singleton.mp h]
    exact Int.le_refl _
  | o :: l, b, x, h => by
    have ih := pickB_le ss l (if bx ss o < bx ss b then o else b)
    show bx ss (pickB ss (if bx ss o < bx ss b then o else b) l) ≤ bx ss x
    have h0 := ih _ List.mem_cons_self
    rcases List.mem_cons.mp h with e | e
    · subst e
      by_cases c : bx ss o < bx ss x
      · rw [if_pos c] at h0 ⊢
        omega
      · rw [if_neg c] at h0 ⊢
        exact h0
    · rcases List.mem_cons.mp e with e | e
      · subst e
        by_cases c : bx ss x < bx ss b
        · rw [if_pos c] at h0 ⊢
          exact h0
        · rw [if_neg c] at h0 ⊢
          omega
      · exact ih x (List.mem_cons_of_mem _ e)
/-- the supplier that gives to j; 0 for a maker -/
def bst (pl ss : List Int) (j : Nat) : Nat := match sup pl pl.length j with
  | [] => 0
  | h :: r => (pickB ss h (h :: r)).toNat
theorem bst_nil {pl ss : List Int} {j : Nat} (h : sup pl pl.length j = []) : bst pl ss j = 0 := by
  unfold bst
  rw [h]
theorem bst_cons {pl ss : List Int} {j : Nat} {h : Int} {r : List Int} (hP : Plant pl) (e : sup pl pl.length j = h :: r) : pickB ss h (h :: r) = ((bst pl ss j : Nat) : Int) ∧ pickB ss h (h :: r) ∈ sup pl pl.length j ∧ j < bst pl ss j ∧ bst pl ss j ≤ pl.length := by
  have hm : pickB ss h (h :: r) ∈ sup pl pl.length j := by
    rw [e]
    rcases List.mem_cons.mp (pickB_mem ss (h :: r) h) with z | z
    · rw [z]
      exact List.mem_cons_self
    · exact z
  obtain ⟨k, ek, h1, h2⟩ := sup_gt hP hm
  have eb : bst pl ss j = k := by
    unfold bst
    rw [e]
    show (pickB ss h (h :: r)).toNat = k
    omega
  rw [eb]
  exact ⟨ek, hm, h1, h2⟩
/-- the greatest number -/
def mxv : List Int → Int
  | [] => 0
  | x :: r => r.foldl max x
theorem fold_max : ∀ (r : List Int) (x : Int), r.foldl max x ∈ x :: r ∧ ∀ y ∈ x :: r, y ≤ r.foldl max x
  | [], x => ⟨List.mem_cons_self, fun y h => by rw [List.mem_singleton.mp h]; exact Int.le_refl _⟩
  | z :: r, x => by
    obtain ⟨h1, h2⟩ := fold_max r (max x z)
    rw [List.foldl_cons]
    refine ⟨?_, fun y h => ?_⟩
    · rcases List.mem_cons.mp h1 with e | e
      · rw [e]
        by_cases c : x ≤ z
        · rw [Int.max_eq_right c]; simp
        · rw [Int.max_eq_left (by omega)]; simp
      · exact List.mem_cons_of_mem _ (List.mem_cons_of_mem _ e)
    · have h0 := h2 _ List.mem_cons_self
      rcases List.mem_cons.mp h with e | e
      · subst e
        omega
      · rcases List.mem_cons.mp e with e | e
        · subst e
          omega
        · exact h2 y (List.mem_cons_of_mem _ e)
theorem mxv_mem {l : List Int} (h : l ≠ []) : mxv l ∈ l ∧ ∀ y ∈ l, y ≤ mxv l := by
  cases l with
  | nil => exact absurd rfl h
  | cons x r => exact fold_max r x
theorem mxv_of {l : List Int} {m : Int} (h : m ∈ l) (u : ∀ y ∈ l, y ≤ m) : m = mxv l := by
  have hn : l ≠ [] := fun e => by
    rw [e] at h
    cases h
  obtain ⟨a, b⟩ := mxv_mem hn
  have := u _ a
  have := b _ h
  omega
/-- the day from a row, where the chain has come to c -/
def go (pl ss row : List Int) (pre : List Nat) (c : Nat) : List Nat × List Int :=
  if h : c < bst pl ss c ∧ bst pl ss c ≤ pl.length then go pl ss (row.set c (bx ss (bst pl ss c))) (pre ++ [c]) (bst pl ss c) else (pre ++ [c], row.set c (mxv ss + 1))
termination_by pl.length - c
decreasing_by omega
theorem go_on {pl ss row : List Int} {pre : List Nat} {c : Nat} (h : c < bst pl ss c ∧ bst pl ss c ≤ pl.length) : go pl ss row pre c = go pl ss (row.set c (bx ss (bst pl ss c))) (pre ++ [c]) (bst pl ss c) := by
  rw [go, dif_pos h]
theorem go_end {pl ss row : List Int} {pre : List Nat} {c : Nat} (h : ¬ (c < bst pl ss c ∧ bst pl ss c ≤ pl.length)) : go pl ss row pre c = (pre ++ [c], row.set c (mxv ss + 1)) := by
  rw [go, dif_neg h]
/-- a day that begins at j: the chain, the row behind it -/
def day (pl ss : List Int) (j : Nat) : List Nat × List Int := go pl ss ss [] j
theorem perm_set {α : Type} : ∀ {l : List α} {i : Nat} {a : α} (x : α), l[i]? = some a → (a :: l.set i x).Perm (x :: l)
  | [], _, _, _, h => by simp at h
  | y :: r, 0, a, x, h => by
    have e : y = a := Option.some.inj h
    subst e
    exact List.Perm.swap x y r
  | y :: r, i + 1, a, x, h => by
    have ih := perm_set (l := r) (i := i) (a := a) x (by simpa using h)
    show (a :: y :: r.set i x).Perm (x :: y :: r)
    exact ((List.Perm.swap y a (r.set i x)).trans (ih.cons y)).trans (List.Perm.swap x y r)
/-- what a row has to do with the stock while the chain stands at c -/
structure Row (pl ss row : List Int) (s0 : Int) (c : Nat) : Prop where
  len : row.length = ss.length
  top : ∀ k, c ≤ k → row[k]? = ss[k]?
  pm : (s0 :: row).Perm (bx ss c :: ss)
theorem bx_at {ss : List Int} {k : Nat} (h : k < ss.length) : ss[k]? = some (bx ss k) := by
  unfold bx
  rw [Int.toNat_natCast, List.getD_eq_getElem?_getD, List.getElem?_eq_getElem h, Option.getD_some]
theorem Row.start {pl ss : List Int} {c : Nat} (h : c < ss.length) : Row pl ss ss (bx ss c) c := ⟨rfl, fun _ _ => rfl, .refl _⟩
theorem Row.next {pl ss row : List Int} {s0 : Int} {c d : Nat} (h : Row pl ss row s0 c) (hc : c < ss.length) (hd : c < d) : Row pl ss (row.set c (bx ss d)) s0 d := by
  have ec : row[c]? = some (bx ss c) := by
    rw [h.top c (Nat.le_refl _)]
    exact bx_at hc
  refine ⟨by rw [List.length_set]; exact h.len, fun k hk => ?_, ?_⟩
  · rw [List.getElem?_set_ne (by omega)]
    exact h.top k (by omega)
  · have p1 := perm_set (bx ss d) ec
    have p2 : (bx ss c :: s0 :: row.set c (bx ss d)).Perm (bx ss c :: bx ss d :: ss) :=
      (List.Perm.swap s0 (bx ss c) _).trans ((p1.cons s0).trans ((List.Perm.swap (bx ss d) s0 row).trans ((h.pm.cons (bx ss d)).trans (List.Perm.swap (bx ss c) (bx ss d) ss))))
    exact p2.cons_inv
theorem go_ok {pl ss : List Int} (hs : ss.length = pl.length + 1) : ∀ (n : Nat) (row : List Int) (pre : List Nat) (c : Nat) (s0 : Int), pl.length - c = n → c ≤ pl.length → Row pl ss row s0 c →
    (go pl ss row pre c).2.length = ss.length ∧ (s0 :: (go pl ss row pre c).2).Perm ((mxv ss + 1) :: ss) ∧ (∀ x ∈ (go pl ss row pre c).1, x ∈ pre ∨ x ≤ pl.length) ∧ (go pl ss row pre c).1.length ≤ pre.length + (pl.length + 1 - c) ∧ ∃ r, (go pl ss row pre c).1 = pre ++ c :: r := by
  intro n
  induction n using Nat.strongRecOn with
  | ind n ih =>
    intro row pre c s0 hn hc hR
    have hc' : c < ss.length := by omega
    by_cases h : c < bst pl ss c ∧ bst pl ss c ≤ pl.length
    · rw [go_on h]
      obtain ⟨a1, a2, a3, a4, r, a5⟩ := ih (pl.length - bst pl ss c) (by omega) (row.set c (bx ss (bst pl ss c))) (pre ++ [c]) (bst pl ss c) s0 rfl h.2 (hR.next hc' h.1)
      refine ⟨a1, a2, fun x hx => ?_, ?_, bst pl ss c :: r, by rw [a5, List.append_assoc]; rfl⟩
      · rcases a3 x hx with z | z
        · rcases List.mem_append.mp z with z | z
          · exact .inl z
          · exact .inr (by rw [List.mem_singleton.mp z]; exact hc)
        · exact .inr z
      · rw [List.length_append] at a4
        have z : ([c] : List Nat).length = 1 := rfl
        omega
    · rw [go_end h]
      have ec : row[c]? = some (bx ss c) := by
        rw [hR.top c (Nat.le_refl _)]
        exact bx_at hc'
      refine ⟨by rw [List.length_set]; exact hR.len, ?_, fun x hx => ?_, ?_, [], rfl⟩
      · have p1 := perm_set (mxv ss + 1) ec
        have p2 : (bx ss c :: s0 :: row.set c (mxv ss + 1)).Perm (bx ss c :: (mxv ss + 1) :: ss) :=
          (List.Perm.swap s0 (bx ss c) _).trans ((p1.cons s0).trans ((List.Perm.swap (mxv ss + 1) s0 row).trans ((hR.pm.cons (mxv ss + 1)).trans (List.Perm.swap (bx ss c) (mxv ss + 1) ss))))
        exact p2.cons_inv
      · rcases List.mem_append.mp hx with z | z
        · exact .inl z
        · exact .inr (by rw [List.mem_singleton.mp z]; exact hc)
      · rw [List.length_append]
        have z : ([c] : List Nat).length = 1 := rfl
        omega
/-- a day keeps a stock a stock -/
theorem day_ok {pl ss : List Int} (hs : ss.length = pl.length + 1) (hn : ss.Nodup) {j : Nat} (hj : j ≤ pl.length) :
    (day pl ss j).2.length = pl.length + 1 ∧ (day pl ss j).2.Nodup ∧ (∀ x ∈ (day pl ss j).2, x ∈ ss ∨ x = mxv ss + 1) ∧ (∀ x ∈ (day pl ss j).1, x ≤ pl.length) ∧ (day pl ss j).1.length ≤ pl.length + 1 := by
  obtain ⟨a1, a2, a3, a4, _⟩ := go_ok hs _ ss [] j (bx ss j) rfl hj (Row.start (by omega))
  have hne : ss ≠ [] := fun e => by
    rw [e] at hs
    simp at hs
  obtain ⟨m1, m2⟩ := mxv_mem hne
  have nd : ((mxv ss + 1) :: ss).Nodup := List.nodup_cons.mpr ⟨fun h => by have := m2 _ h; omega, hn⟩
  have nd2 := a2.nodup_iff.mpr nd
  refine ⟨by unfold day; rw [a1]; exact hs, (List.nodup_cons.mp nd2).2, fun x hx => ?_, fun x hx => ?_, ?_⟩
  · have z := a2.mem_iff.mp (List.mem_cons_of_mem _ hx)
    rcases List.mem_cons.mp z with e | e
    · exact .inr e
    · exact .inl e
  · rcases a3 x hx with z | z
    · cases z
    · exact z
  · unfold day
    have z : ([] : List Nat).length = 0 := rfl
    omega
end PT

/-! stocks that are ordered: a day keeps them, and each stock becomes one -/
namespace PT

theorem sup_cu {pl : List Int} (hP : Plant pl) {j k : Nat} : ((k : Nat) : Int) ∈ sup pl pl.length j ↔ 0 < k ∧ k ≤ pl.length ∧ cu pl k = j := by
  unfold sup
  rw [List.mem_map]
  constructor
  · rintro ⟨i, hi, e⟩
    obtain ⟨h1, h2⟩ := List.mem_filter.mp hi
    have hi' := List.mem_range.mp h1
    have ek : k = i + 1 := by omega
    subst ek
    have e2 := hP.at hi'
    have c := of_decide_eq_true h2
    rw [List.getD_eq_getElem?_getD, e2, Option.getD_some] at c
    exact ⟨by omega, by omega, by omega⟩
  · rintro ⟨h1, h2, h3⟩
    refine ⟨k - 1, List.mem_filter.mpr ⟨List.mem_range.mpr (by omega), decide_eq_true ?_⟩, by omega⟩
    have e2 := hP.at (i := k - 1) (by omega)
    rw [show k - 1 + 1 = k by omega] at e2
    rw [List.getD_eq_getElem?_getD, e2, Option.getD_some, h3]
/-- does a station give to j? -/
def gives (pl ss : List Int) (j : Nat) : Prop := j < bst pl ss j ∧ bst pl ss j ≤ pl.length
instance (pl ss : List Int) (j : Nat) : Decidable (gives pl ss j) := inferInstanceAs (Decidable (_ ∧ _))
theorem gives_of {pl ss : List Int} (hP : Plant pl) {k : Nat} (h0 : 0 < k) (h1 : k ≤ pl.length) : gives pl ss (cu pl k) ∧ bx ss (bst pl ss (cu pl k)) ≤ bx ss k := by
  have hm := (sup_cu hP).mpr ⟨h0, h1, rfl⟩
  cases e : sup pl pl.length (cu pl k) with
  | nil => rw [e] at hm; cases hm
  | cons h r =>
    obtain ⟨b1, b2, b3, b4⟩ := bst_cons (ss := ss) hP e
    rw [e] at hm
    have z := pickB_le ss (h :: r) h k (List.mem_cons_of_mem _ hm)
    rw [b1] at z
    exact ⟨⟨b3, b4⟩, z⟩
theorem gives_cu {pl ss : List Int} (hP : Plant pl) {j : Nat} (h : gives pl ss j) : cu pl (bst pl ss j) = j := by
  cases e : sup pl pl.length j with
  | nil =>
    have z := bst_nil (ss := ss) e
    unfold gives at h
    omega
  | cons a r =>
    obtain ⟨b1, b2, b3, b4⟩ := bst_cons (ss := ss) hP e
    rw [b1] at b2
    exact ((sup_cu hP).mp b2).2.2
/-- the chain from c on -/
def chn (pl ss : List Int) (c : Nat) : List Nat := if h : c < bst pl ss c ∧ bst pl ss c ≤ pl.length then c :: chn pl ss (bst pl ss c) else [c]
termination_by pl.length - c
decreasing_by omega
theorem chn_on {pl ss : List Int} {c : Nat} (h : gives pl ss c) : chn pl ss c = c :: chn pl ss (bst pl ss c) := by
  rw [chn, dif_pos (show c < bst pl ss c ∧ bst pl ss c ≤ pl.length from h)]
theorem chn_end {pl ss : List Int} {c : Nat} (h : ¬ gives pl ss c) : chn pl ss c = [c] := by
  rw [chn, dif_neg (show ¬ (c < bst pl ss c ∧ bst pl ss c ≤ pl.length) from h)]
theorem chn_self {pl ss : List Int} (c : Nat) : c ∈ chn pl ss c := by
  by_cases h : gives pl ss c
  · rw [chn_on h]; exact List.mem_cons_self
  · rw [chn_end h]; exact List.mem_cons_self
theorem chn_le {pl ss : List Int} : ∀ (n c : Nat), pl.length - c = n → c ≤ pl.length → ∀ k ∈ chn pl ss c, c ≤ k ∧ k ≤ pl.length := by
  intro n
  induction n using Nat.strongRecOn with
  | ind n ih =>
    intro c hn hc k hk
    by_cases h : gives pl ss c
    · rw [chn_on h] at hk
      unfold gives at h
      rcases List.mem_cons.mp hk with z | z
      · omega
      · have := ih (pl.length - bst pl ss c) (by omega) (bst pl ss c) rfl h.2 k z
        omega
    · rw [chn_end h] at hk
      have := List.mem_singleton.mp hk
      omega
theorem chn_down {pl ss : List Int} : ∀ (n c : Nat), pl.length - c = n → ∀ k ∈ chn pl ss c, gives pl ss k → bst pl ss k ∈ chn pl ss c := by
  intro n
  induction n using Nat.strongRecOn with
  | ind n ih =>
    intro c hn k hk hg
    by_cases h : gives pl ss c
    · rw [chn_on h] at hk ⊢
      rcases List.mem_cons.mp hk with z | z
      · rw [z]
        exact List.mem_cons_of_mem _ (chn_self _)
      · unfold gives at h
        exact List.mem_cons_of_mem _ (ih (pl.length - bst pl ss c) (by omega) (bst pl ss c) rfl k z hg)
    · rw [chn_end h] at hk
      rw [List.mem_singleton.mp hk] at hg
      exact absurd hg h
theorem chn_up {pl ss : List Int} : ∀ (n c : Nat), pl.length - c = n → ∀ k ∈ chn pl ss c, k = c ∨ ∃ p ∈ chn pl ss c, gives pl ss p ∧ bst pl ss p = k := by
  intro n
  induction n using Nat.strongRecOn with
  | ind n ih =>
    intro c hn k hk
    by_cases h : gives pl ss c
    · rw [chn_on h] at hk ⊢
      rcases List.mem_cons.mp hk with z | z
      · exact .inl z
      · have h' := h
        unfold gives at h'
        rcases ih (pl.length - bst pl ss c) (by omega) (bst pl ss c) rfl k z with y | ⟨p, y, w⟩
        · exact .inr ⟨c, List.mem_cons_self, h, y.symm⟩
        · exact .inr ⟨p, List.mem_cons_of_mem _ y, w⟩
    · rw [chn_end h] at hk
      exact .inl (List.mem_singleton.mp hk)
/-- what comes to a station of the chain -/
def nxt (pl ss : List Int) (j : Nat) : Int := if gives pl ss j then bx ss (bst pl ss j) else mxv ss + 1
theorem go_chn {pl ss : List Int} : ∀ (n : Nat) (row : List Int) (pre : List Nat) (c : Nat), pl.length - c = n → (go pl ss row pre c).1 = pre ++ chn pl ss c := by
  intro n
  induction n using Nat.strongRecOn with
  | ind n ih =>
    intro row pre c hn
    by_cases h : gives pl ss c
    · have h' := h
      unfold gives at h'
      rw [go_on h', ih (pl.length - bst pl ss c) (by omega) _ _ _ rfl, chn_on h, List.append_assoc]
      rfl
    · rw [go_end h, chn_end h]
theorem go_at {pl ss : List Int} : ∀ (n : Nat) (row : List Int) (pre : List Nat) (c : Nat), pl.length - c = n → c ≤ pl.length → row.length = pl.length + 1 → ∀ j, j ≤ pl.length → (go pl ss row pre c).2[j]? = if j ∈ chn pl ss c then some (nxt pl ss j) else row[j]? := by
  intro n
  induction n using Nat.strongRecOn with
  | ind n ih =>
    intro row pre c hn hc hr j hj
    by_cases h : gives pl ss c
    · have h' := h
      unfold gives at h'
      rw [go_on h', ih (pl.length - bst pl ss c) (by omega) _ _ _ rfl h'.2 (by rw [List.length_set]; exact hr) j hj, chn_on h]
      by_cases hm : j ∈ chn pl ss (bst pl ss c)
      · rw [if_pos hm, if_pos (List.mem_cons_of_mem _ hm)]
      · rw [if_neg hm]
        by_cases e : j = c
        · subst e
          rw [if_pos List.mem_cons_self, List.getElem?_set_self (by omega)]
          unfold nxt
          rw [if_pos h]
        · rw [if_neg (fun z => (List.mem_cons.mp z).elim e hm), List.getElem?_set_ne (fun z => e z.symm)]
    · rw [go_end h, chn_end h]
      by_cases e : j = c
      · subst e
        rw [if_pos List.mem_cons_self, List.getElem?_set_self (by omega)]
        unfold nxt
        rw [if_neg h]
      · rw [if_neg (fun z => e (List.mem_singleton.mp z)), List.getElem?_set_ne (fun z => e z.symm)]
theorem bx_some {ss : List Int} {k : Nat} {v : Int} (h : ss[k]? = some v) : bx ss k = v := by
  unfold bx
  rw [Int.toNat_natCast, List.getD_eq_getElem?_getD, h, Option.getD_some]
theorem day_at {pl ss : List Int} (hs : ss.length = pl.length + 1) {j : Nat} (hj : j ≤ pl.length) : bx (day pl ss 0).2 j = if j ∈ chn pl ss 0 then nxt pl ss j else bx ss j := by
  have z := go_at (pl := pl) (ss := ss) _ ss [] 0 rfl (Nat.zero_le _) hs j hj
  by_cases h : j ∈ chn pl ss 0
  · rw [if_pos h] at z ⊢
    exact bx_some z
  · rw [if_neg h] at z ⊢
    rw [bx_at (ss := ss) (k := j) (by omega)] at z
    exact bx_some z
theorem day_chn {pl ss : List Int} (j : Nat) : (day pl ss j).1 = chn pl ss j := go_chn _ ss [] j rfl
theorem bx_inj {ss : List Int} (hn : ss.Nodup) {i j : Nat} (hi : i < ss.length) (hj : j < ss.length) (h : bx ss i = bx ss j) : i = j := by
  have ei := bx_at hi
  have ej := bx_at hj
  rw [← h] at ej
  exact (List.getElem?_inj hi hn).mp (ei.trans ej.symm)
theorem bx_mem {ss : List Int} {k : Nat} (h : k < ss.length) : bx ss k ∈ ss := List.mem_of_getElem? (bx_at h)
theorem mxv_lt {ss : List Int} {k : Nat} (h : k < ss.length) : bx ss k < mxv ss + 1 := by
  have hne : ss ≠ [] := fun e => by
    rw [e] at h
    cases h
  have := (mxv_mem hne).2 _ (bx_mem h)
  omega
/-- boxes of a kind are older than those that wait below -/
def Waits (N : Int → Prop) (pl ss : List Int) : Prop := ∀ k : Nat, 0 < k → k ≤ pl.length → N (bx ss (cu pl k)) → bx ss (cu pl k) < bx ss k
theorem inv_day {N : Int → Prop} {pl ss : List Int} (hP : Plant pl) (hs : ss.length = pl.length + 1) (hn : ss.Nodup) (h : Waits N pl ss) : Waits N pl (day pl ss 0).2 := by
  intro k h0 h1 hN
  have hc := cu_lt pl h0
  rw [day_at hs (j := cu pl k) (by omega)] at hN ⊢
  rw [day_at hs h1]
  obtain ⟨g1, g2⟩ := gives_of (ss := ss) hP h0 h1
  by_cases hm : cu pl k ∈ chn pl ss 0
  · rw [if_pos hm] at hN ⊢
    have en : nxt pl ss (cu pl k) = bx ss (bst pl ss (cu pl k)) := by
      unfold nxt
      rw [if_pos g1]
    rw [en] at hN ⊢
    by_cases hk : k ∈ chn pl ss 0
    · rw [if_pos hk]
      have ek : bst pl ss (cu pl k) = k := by
        rcases chn_up _ 0 rfl k hk with z | ⟨p, _, gp, ep⟩
        · omega
        · have := gives_cu hP gp
          rw [ep] at this
          rw [this]
          exact ep
      rw [ek] at hN ⊢
      unfold nxt
      by_cases gk : gives pl ss k
      · rw [if_pos gk]
        have e2 := gives_cu hP gk
        have h3 := h (bst pl ss k) (by unfold gives at gk; omega) gk.2
        rw [e2] at h3
        exact h3 hN
      · rw [if_neg gk]
        exact mxv_lt (by omega)
    · rw [if_neg hk]
      have hne : bx ss (bst pl ss (cu pl k)) ≠ bx ss k := fun e => by
        have z := bx_inj hn (by have := g1.2; omega) (by omega) e
        exact hk (z ▸ chn_down _ 0 rfl _ hm g1)
      omega
  · rw [if_neg hm] at hN ⊢
    have hk : k ∉ chn pl ss 0 := fun z => by
      rcases chn_up _ 0 rfl k z with y | ⟨p, hp, gp, ep⟩
      · omega
      · have := gives_cu hP gp
        rw [ep] at this
        rw [this] at hm
        exact hm hp
    rw [if_neg hk]
    exact h k h0 h1 hN
/-- each station's box is older than those of its suppliers -/
def Ord (pl ss : List Int) : Prop := ∀ k : Nat, 0 < k → k ≤ pl.length → bx ss (cu pl k) < bx ss k
theorem ord_day {pl ss : List Int} (hP : Plant pl) (hs : ss.length = pl.length + 1) (hn : ss.Nodup) (h : Ord pl ss) : Ord pl (day pl ss 0).2 := fun k a b => inv_day (N := fun _ => True) hP hs hn (fun k a b _ => h k a b) k a b trivial
/-! ### within n - 1 days -/
theorem countP_two {α : Type} {p : α → Bool} : ∀ {l : List α} {i j : Nat} {a b : α}, i < j → l[i]? = some a → l[j]? = some b → p a = true → p b = true → 2 ≤ l.countP p
  | [], _, _, _, _, _, h, _, _, _ => by simp at h
  | x :: l, 0, j + 1, a, b, _, h, g, pa, pb => by
    have e : x = a := Option.some.inj h
    subst e
    rw [List.countP_cons_of_pos pa]
    have : 0 < l.countP p := List.countP_pos_iff.mpr ⟨b, List.mem_of_getElem? (by simpa using g), pb⟩
    omega
  | x :: l, i + 1, j + 1, a, b, hij, h, g, pa, pb => by
    have := countP_two (l := l) (i := i) (j := j) (by omega) (by simpa using h) (by simpa using g) pa pb
    exact Nat.le_trans this (List.Sublist.countP_le (List.sublist_cons_self x l))
/-- the stock after n days -/
def dyn (pl ss : List Int) : Nat → List Int
  | 0 => ss
  | n + 1 => (day pl (dyn pl ss n) 0).2
theorem dyn_len {pl ss : List Int} (hs : ss.length = pl.length + 1) (hn : ss.Nodup) : ∀ n, (dyn pl ss n).length = pl.length + 1 ∧ (dyn pl ss n).Nodup
  | 0 => ⟨hs, hn⟩
  | n + 1 => by
    obtain ⟨a, b⟩ := dyn_len hs hn n
    obtain ⟨a2, b2, _⟩ := day_ok a b (Nat.zero_le _) (j := 0)
    exact ⟨a2, b2⟩
theorem dyn_add (pl ss : List Int) (m : Nat) : ∀ n, dyn pl ss (m + n) = dyn pl (dyn pl ss m) n
  | 0 => rfl
  | n + 1 => by
    show (day pl (dyn pl ss (m + n)) 0).2 = (day pl (dyn pl (dyn pl ss m) n) 0).2
    rw [dyn_add pl ss m n]
theorem bx0 (ss : List Int) : bx ss ((0 : Nat) : Int) = bx ss 0 := rfl
theorem day_perm {pl ss : List Int} (hs : ss.length = pl.length + 1) : (bx ss 0 :: (day pl ss 0).2).Perm ((mxv ss + 1) :: ss) :=
  (go_ok hs _ ss [] 0 (bx ss ((0 : Nat) : Int)) rfl (Nat.zero_le _) (Row.start (pl := pl) (ss := ss) (c := 0) (by omega))).2.1
theorem day_mxv {pl ss : List Int} (hs : ss.length = pl.length + 1) : mxv (day pl ss 0).2 = mxv ss + 1 := by
  have hne : ss ≠ [] := fun e => by
    rw [e] at hs
    simp at hs
  obtain ⟨m1, m2⟩ := mxv_mem hne
  have p := day_perm hs
  have h0 := m2 _ (bx_mem (ss := ss) (k := 0) (by omega))
  rw [bx0] at h0
  refine (mxv_of ?_ fun y hy => ?_).symm
  · have z := p.mem_iff.mpr List.mem_cons_self
    rcases List.mem_cons.mp z with e | e
    · exact absurd e (by omega)
    · exact e
  · have z := p.mem_iff.mp (List.mem_cons_of_mem _ hy)
    rcases List.mem_cons.mp z with e | e
    · omega
    · have := m2 _ e
      omega
theorem dyn_mxv {pl ss : List Int} (hs : ss.length = pl.length + 1) (hn : ss.Nodup) : ∀ n : Nat, mxv (dyn pl ss n) = mxv ss + n
  | 0 => by show mxv ss = mxv ss + ((0 : Nat) : Int); omega
  | n + 1 => by
    show mxv (day pl (dyn pl ss n) 0).2 = _
    rw [day_mxv (dyn_len hs hn n).1, dyn_mxv hs hn n]
    omega
theorem inv_dyn {N : Int → Prop} {pl ss : List Int} (hP : Plant pl) (hs : ss.length = pl.length + 1) (hn : ss.Nodup) (h : Waits N pl ss) : ∀ n, Waits N pl (dyn pl ss n)
  | 0 => h
  | n + 1 => inv_day hP (dyn_len hs hn n).1 (dyn_len hs hn n).2 (inv_dyn hP hs hn h n)
theorem ord_dyn {pl ss : List Int} (hP : Plant pl) (hs : ss.length = pl.length + 1) (hn : ss.Nodup) (h : Ord pl ss) : ∀ n, Ord pl (dyn pl ss n) := fun n k a b => inv_dyn (N := fun _ => True) hP hs hn (fun k a b _ => h k a b) n k a b trivial
/-- once the box at the shop is a new one, all are -/
theorem all_new {t : Int} {pl ss : List Int} (h : Waits (t < ·) pl ss) (h0 : t < bx ss 0) : ∀ k : Nat, k ≤ pl.length → t < bx ss k := by
  intro k
  induction k using Nat.strongRecOn with
  | ind k ih =>
    intro hk
    by_cases e : k = 0
    · rw [e]; exact h0
    · have hc := cu_lt pl (show 0 < k by omega)
      have h1 := ih (cu pl k) hc (by omega)
      have := h k (by omega) hk h1
      omega
def olds (t : Int) (ss : List Int) : Nat := ss.countP fun x => decide (x ≤ t)
theorem olds_day {t : Int} {pl ss : List Int} (hs : ss.length = pl.length + 1) (ht : t ≤ mxv ss) (h : Waits (t < ·) pl ss) {m : Nat} (ho : olds t ss ≤ m + 1) : olds t (day pl ss 0).2 ≤ m := by
  have e := (day_perm hs).countP_eq fun x => decide (x ≤ t)
  have e2 : ((mxv ss + 1) :: ss).countP (fun x => decide (x ≤ t)) = olds t ss := List.countP_cons_of_neg (by rw [decide_eq_true_eq]; omega)
  rw [e2] at e
  by_cases c : bx ss 0 ≤ t
  · rw [List.countP_cons_of_pos (p := fun x => decide (x ≤ t)) (decide_eq_true c)] at e
    unfold olds at ho e ⊢
    omega
  · rw [List.countP_cons_of_neg (p := fun x => decide (x ≤ t)) (by rw [decide_eq_true_eq]; exact c)] at e
    have z : olds t ss = 0 := by
      unfold olds
      rw [List.countP_eq_zero]
      intro x hx
      obtain ⟨k, hk, rfl⟩ := List.getElem_of_mem hx
      have e3 := bx_at hk
      rw [List.getElem?_eq_getElem hk] at e3
      have := all_new h (by omega) k (by omega)
      rw [Option.some.inj e3, decide_eq_true_eq]
      omega
    rw [z] at e
    unfold olds
    omega
theorem olds_dyn {pl ss : List Int} (hP : Plant pl) (hs : ss.length = pl.length + 1) (hn : ss.Nodup) (hI : Waits (mxv ss < ·) pl ss) : ∀ n, n ≤ pl.length → olds (mxv ss) (dyn pl ss n) ≤ pl.length + 1 - n
  | 0, _ => by
    show olds _ ss ≤ _
    unfold olds
    have := List.countP_le_length (l := ss) (p := fun x => decide (x ≤ mxv ss))
    omega
  | n + 1, h => by
    have ih := olds_dyn hP hs hn hI n (by omega)
    show olds _ (day pl (dyn pl ss n) 0).2 ≤ _
    exact Nat.le_trans (olds_day (m := pl.length - n) (dyn_len hs hn n).1 (by rw [dyn_mxv hs hn]; omega) (inv_dyn hP hs hn hI n) (by omega)) (by omega)
/-- after n - 1 days a stock is ordered -/
theorem ord_end {pl ss : List Int} (hP : Plant pl) (hs : ss.length = pl.length + 1) (hn : ss.Nodup) : Ord pl (dyn pl ss pl.length) := by
  have hI : Waits (mxv ss < ·) pl ss := fun k a b c => by
    have := mxv_lt (ss := ss) (k := cu pl k) (by have := cu_lt pl a; omega)
    omega
  have ho := olds_dyn hP hs hn hI pl.length (Nat.le_refl _)
  have hI2 := inv_dyn hP hs hn hI pl.length
  obtain ⟨hl, hd⟩ := dyn_len hs hn pl.length
  intro k h0 h1
  have hc := cu_lt pl h0
  by_cases c : mxv ss < bx (dyn pl ss pl.length) (cu pl k)
  · exact hI2 k h0 h1 c
  · by_cases d : mxv ss < bx (dyn pl ss pl.length) k
    · omega
    · have := countP_two (p := fun x => decide (x ≤ mxv ss)) hc (bx_at (ss := dyn pl ss pl.length) (k := cu pl k) (by omega)) (bx_at (ss := dyn pl ss pl.length) (k := k) (by omega)) (decide_eq_true (by omega)) (decide_eq_true (by omega))
      unfold olds at ho
      omega
theorem dyn_bd {pl ss : List Int} (hs : ss.length = pl.length + 1) (hn : ss.Nodup) {l u : Int} (h : ∀ x ∈ ss, l ≤ x ∧ x ≤ u) : ∀ n : Nat, ∀ x ∈ dyn pl ss n, l ≤ x ∧ x ≤ u + n
  | 0 => fun x hx => by
    have := h x hx
    show l ≤ x ∧ x ≤ u + ((0 : Nat) : Int)
    omega
  | n + 1 => fun x hx => by
    obtain ⟨a, b⟩ := dyn_len hs hn n
    have ih := dyn_bd hs hn h n
    obtain ⟨_, _, c2, _, _⟩ := day_ok a b (Nat.zero_le _) (j := 0)
    have hne : dyn pl ss n ≠ [] := fun e => by
      rw [e] at a
      simp at a
    have m := ih _ (mxv_mem hne).1
    rcases c2 x hx with z | z
    · have := ih x z
      omega
    · omega
/-- the boxes sold on the first days -/
def sold (pl ss : List Int) (n : Nat) : List Int := (List.range n).map fun i => bx (dyn pl ss i) 0
theorem sold_step (pl ss : List Int) (n : Nat) : sold pl ss (n + 1) = sold pl ss n ++ [bx (dyn pl ss n) 0] := by
  unfold sold
  rw [List.range_succ, List.map_append]
  rfl
theorem sold_len (pl ss : List Int) (n : Nat) : (sold pl ss n).length = n := by
  unfold sold
  rw [List.length_map, List.length_range]
end PT

set_option maxHeartbeats 4000000
/-! kinds of values, plants in the heap: of no law's own text -/
namespace PT
open PySem PySem.Spec PyProof.Rows L2

/-! ### kinds of values -/
inductive Kd (H : Hp) : V → String → Prop
  | non : Kd H .non "NoneType"
  | bl (b : Bool) : Kd H (.bl b) "bool"
  | int (i : Int) : Kd H (.int i) "int"
  | str (x : Str) : Kd H (.str x) "str"
  | lst {a : Addr} {xs : List V} : H a = some (.lst xs) → Kd H (.ref a) "list"
  | tup {a : Addr} {xs : List V} : H a = some (.tup xs) → Kd H (.ref a) "tuple"
  | dic {a : Addr} {kvs : List (Key × V)} : H a = some (.dK kvs) → Kd H (.ref a) "dict"
theorem Kd.same {H H' : Hp} (e : Same H H') {v : V} {n : String} (h : Kd H v n) : Kd H' v n := by
  cases h with
  | non => exact .non
  | bl b => exact .bl b
  | int i => exact .int i
  | str x => exact .str x
  | lst q => exact .lst (e _ _ q)
  | tup q => exact .tup (e _ _ q)
  | dic q => exact .dic (e _ _ q)
theorem Kd.tyx {K : PySem.W.Frag} {H : Hp} {v : V} {n : String} (h : Kd H v n) : TyX K H v (.type n) := by
  cases h with
  | non => exact .base .non
  | bl b => exact .base (.bl b)
  | int i => exact .base (.int i)
  | str x => exact .base (.str x)
  | lst q => exact .base (.lst q)
  | tup q => exact .base (.tup q)
  | dic q => exact .base (.dK q)
def isI : V → Bool
  | .int _ => true
  | _ => false
def isB : V → Bool
  | .bl _ => true
  | _ => false
theorem kd_int {K : PySem.W.Frag} {H : Hp} {v : V} {n : String} (h : Kd H v n) : PySem.W.kitOne K (.type n) (.type "int") = some (isI v || isB v) := by
  cases h with
  | bl b => exact kit_ty (show kitB "bool" "int" = some true by decide +kernel)
  | int i => exact kit_ty (show kitB "int" "int" = some true by decide +kernel)
  | non => exact kit_ty (show kitB "NoneType" "int" = some false by decide +kernel)
  | str x => exact kit_ty (show kitB "str" "int" = some false by decide +kernel)
  | lst _ => exact kit_ty (show kitB "list" "int" = some false by decide +kernel)
  | tup _ => exact kit_ty (show kitB "tuple" "int" = some false by decide +kernel)
  | dic _ => exact kit_ty (show kitB "dict" "int" = some false by decide +kernel)
theorem kd_bool {K : PySem.W.Frag} {H : Hp} {v : V} {n : String} (h : Kd H v n) : PySem.W.kitOne K (.type n) (.type "bool") = some (isB v) := by
  cases h with
  | bl b => exact kit_ty (show kitB "bool" "bool" = some true by decide +kernel)
  | int i => exact kit_ty (show kitB "int" "bool" = some false by decide +kernel)
  | non => exact kit_ty (show kitB "NoneType" "bool" = some false by decide +kernel)
  | str x => exact kit_ty (show kitB "str" "bool" = some false by decide +kernel)
  | lst _ => exact kit_ty (show kitB "list" "bool" = some false by decide +kernel)
  | tup _ => exact kit_ty (show kitB "tuple" "bool" = some false by decide +kernel)
  | dic _ => exact kit_ty (show kitB "dict" "bool" = some false by decide +kernel)
theorem kd_tuple {K : PySem.W.Frag} {H : Hp} {v : V} {n : String} (h : Kd H v n) : PySem.W.kitOne K (.type n) (.type "tuple") = some (n == "tuple") := by
  cases h with
  | bl b => exact kit_ty (show kitB "bool" "tuple" = some false by decide +kernel)
  | int i => exact kit_ty (show kitB "int" "tuple" = some false by decide +kernel)
  | non => exact kit_ty (show kitB "NoneType" "tuple" = some false by decide +kernel)
  | str x => exact kit_ty (show kitB "str" "tuple" = some false by decide +kernel)
  | lst _ => exact kit_ty (show kitB "list" "tuple" = some false by decide +kernel)
  | tup _ => exact kit_ty (show kitB "tuple" "tuple" = some true by decide +kernel)
  | dic _ => exact kit_ty (show kitB "dict" "tuple" = some false by decide +kernel)
/-- an int between two bounds -/
def okV (lo hi : Int) : V → Bool
  | .int j => decide (lo ≤ j) && decide (j ≤ hi)
  | _ => false
/-- the tuple of a plant -/
def okVs (xs : List V) : List Bool := (List.range xs.length).map fun i => okV 0 (i : Nat) (xs.getD i .non)
def fitsV (xs : List V) : Bool := decide (xs.length < 40) && (okVs xs).all id

inductive FitsIs (H : Hp) : V → Bool → Prop
  | no {v : V} {n : String} : Kd H v n → n ≠ "tuple" → FitsIs H v false
  | tup {a : Addr} {xs : List V} : H a = some (.tup xs) → xs.length ≤ 300 → (∀ x ∈ xs, ∃ m, Kd H x m) → FitsIs H (.ref a) (fitsV xs)
theorem same_new {H : Hp} {p : Addr} {o : HO} (h : H p = none) : Same H (upd H p o) := fun b u z => by
  rw [upd_ne (ne_of_none z h)]
  exact z
theorem okVs_len (xs : List V) : (okVs xs).length = xs.length := by
  unfold okVs
  rw [List.length_map, List.length_range]
theorem okVs_at {xs : List V} {i : Nat} {x : V} (h : xs[i]? = some x) : (okVs xs)[i]? = some (okV 0 (i : Nat) x) := by
  have hi : i < xs.length := (List.getElem?_eq_some_iff.mp h).1
  unfold okVs
  rw [List.getElem?_map, List.getElem?_range hi, Option.map_some, List.getD_eq_getElem?_getD, h]
  rfl
theorem take_next {α : Type} {l : List α} {i : Nat} {x : α} (h : l[i]? = some x) : l.take (i + 1) = l.take i ++ [x] := by
  rw [List.take_add_one, h]
  rfl
/-- a comprehension's item without a test -/
theorem tyes_if {σ : List (Option V)} {H : Hp} {A B : Hp → Prop} (h : A H) : tYes σ H (fun b H3 => if b = true then A H3 else B H3) := by
  show (if true = true then A H else B H)
  rw [if_pos (rfl : true = true)]
  exact h
theorem small300 {n : Nat} (h : n ≤ 300) : n < sizeLine := small1000 (by omega)
/-! ### a plant that stands in the heap -/
structure PlantAt (H : Hp) (p : Addr) (pl : List Int) : Prop where
  at_ : H p = some (.tup (pl.map V.int))
  ok : Plant pl
theorem PlantAt.same {H H' : Hp} {p : Addr} {pl : List Int} (e : Same H H') (h : PlantAt H p pl) : PlantAt H' p pl := ⟨e _ _ h.at_, h.ok⟩
theorem PlantAt.seq {K : PySem.W.Frag} {H : Hp} {p : Addr} {pl : List Int} (h : PlantAt H p pl) : SqT K H p (pl.map V.int) := .inl (.inl h.at_)
theorem Plant.fits {pl : List Int} (h : Plant pl) : fitsV (pl.map V.int) = true := by
  unfold fitsV
  have hl := h.len
  rw [List.length_map, decide_eq_true (by omega), Bool.true_and, List.all_eq_true]
  intro b hb
  obtain ⟨i, hi, rfl⟩ := List.mem_map.mp hb
  have hi2 := List.mem_range.mp hi
  rw [List.length_map] at hi2
  have e : pl[i]? = some pl[i] := List.getElem?_eq_getElem hi2
  obtain ⟨h0, h1⟩ := h.ok i _ e
  rw [List.getD_eq_getElem?_getD, List.getElem?_map, e]
  show (decide (0 ≤ pl[i]) && decide (pl[i] ≤ (i : Int))) = true
  rw [decide_eq_true h0, decide_eq_true h1]
  rfl
theorem PlantAt.fits {H : Hp} {p : Addr} {pl : List Int} (h : PlantAt H p pl) : FitsIs H (.ref p) true := by
  have z := FitsIs.tup (H := H) h.at_ (by rw [List.length_map]; have := h.ok.len; omega) fun x hx => by
    obtain ⟨n, _, rfl⟩ := List.mem_map.mp hx
    exact ⟨_, .int n⟩
  rw [h.ok.fits] at z
  exact z
theorem upd_at {H : Hp} {a b : Addr} {o u : HO} (h : H b = some u) (n : H a = none) : upd H a o b = some u := by
  rw [upd_ne (ne_of_none h n)]
  exact h

theorem ixN_at {n j : Nat} (hj : j < n) : ixN n (j : Int) = some j := by
  unfold ixN
  rw [if_pos (by omega), if_pos (by omega), Int.toNat_natCast]
/-- all but b is as it was -/
def Bar (b : Addr) (H H' : Hp) : Prop := ∀ c o, c ≠ b → H c = some o → H' c = some o
theorem Bar.refl (b : Addr) (H : Hp) : Bar b H H := fun _ _ _ h => h
theorem Bar.trans {b : Addr} {H H1 H2 : Hp} (u : Bar b H H1) (v : Bar b H1 H2) : Bar b H H2 := fun c o n h => v c o n (u c o n h)
theorem Same.bar {b : Addr} {H H' : Hp} (e : Same H H') : Bar b H H' := fun c o _ h => e c o h
theorem bar_upd {b : Addr} {H : Hp} {o : HO} : Bar b H (upd H b o) := fun c u n h => by
  rw [upd_ne n]
  exact h
/-- a heap is forgotten but for what is said of it -/
theorem heap_cut {P R : Hp → Prop} {G : Hp} (h : P G) (k : ∀ G', P G' → R G') : R G := k G h
/-! ### stocks, rows in another order, items of short lists -/
theorem erase_map {α β : Type} (f : α → β) : ∀ (l : List α) (i : Nat), (l.map f).eraseIdx i = (l.eraseIdx i).map f
  | [], _ => rfl
  | x :: r, 0 => rfl
  | x :: r, i + 1 => by
    rw [List.map_cons, List.eraseIdx_cons_succ, List.eraseIdx_cons_succ, List.map_cons, erase_map f r i]
theorem perm_pick {α : Type} : ∀ {l : List α} {i : Nat} {x : α}, l[i]? = some x → (x :: l.eraseIdx i).Perm l
  | [], _, _, h => by simp at h
  | y :: r, 0, x, h => by
    have e : y = x := Option.some.inj h
    rw [e]
    exact .refl _
  | y :: r, i + 1, x, h => by
    have ih := perm_pick (l := r) (i := i) (x := x) (by simpa using h)
    exact (List.Perm.swap y x (r.eraseIdx i)).trans (ih.cons y)
structure StockOk (pl ss : List Int) : Prop where
  len : ss.length = pl.length + 1
  nd : ss.Nodup
  sm : ∀ n ∈ ss, -(10 ^ 36) ≤ n ∧ n ≤ 10 ^ 36
theorem four_at {u0 u1 u2 u3 : V} {r : Int} (h0 : 0 ≤ r) (h4 : r < 4) : ∃ v, atI [u0, u1, u2, u3] r = some v ∧ (v = u0 ∨ v = u1 ∨ v = u2 ∨ v = u3) := by
  have c : r = 0 ∨ r = 1 ∨ r = 2 ∨ r = 3 := by omega
  rcases c with rfl | rfl | rfl | rfl
  · exact ⟨u0, rfl, .inl rfl⟩
  · exact ⟨u1, rfl, .inr (.inl rfl)⟩
  · exact ⟨u2, rfl, .inr (.inr (.inl rfl))⟩
  · exact ⟨u3, rfl, .inr (.inr (.inr rfl))⟩
theorem nodup_lt {l : List Int} (h : l.Pairwise (· < ·)) : l.Nodup := h.imp fun a b => by omega
theorem StockOk.perm {pl ss ts : List Int} (h : StockOk pl ss) (p : ts.Perm ss) : StockOk pl ts := ⟨by rw [p.length_eq]; exact h.len, p.nodup_iff.mpr h.nd, fun n hn => h.sm n (p.mem_iff.mp hn)⟩
theorem three_at {u0 u1 u2 : V} {r : Int} (h0 : 0 ≤ r) (h3 : r < 3) : ∃ v, atI [u0, u1, u2] r = some v ∧ (v = u0 ∨ v = u1 ∨ v = u2) := by
  have c : r = 0 ∨ r = 1 ∨ r = 2 := by omega
  rcases c with rfl | rfl | rfl
  · exact ⟨u0, rfl, .inl rfl⟩
  · exact ⟨u1, rfl, .inr (.inl rfl)⟩
  · exact ⟨u2, rfl, .inr (.inr rfl)⟩
theorem Plant.snoc {pl : List Int} (hP : Plant pl) {u : Int} (hl : pl.length < 39) (u0 : 0 ≤ u) (u1 : u ≤ pl.length) : Plant (pl ++ [u]) := by
  refine ⟨by rw [List.length_append]; show pl.length + 1 ≤ 39; omega, fun k x e => ?_⟩
  by_cases hk : k < pl.length
  · rw [List.getElem?_append_left hk] at e
    exact hP.ok k x e
  · have hk2 : k = pl.length := by
      have z := (List.getElem?_eq_some_iff.mp e).1
      rw [List.length_append] at z
      have z2 : k < pl.length + 1 := z
      omega
    subst hk2
    rw [List.getElem?_append_right (Nat.le_refl _), Nat.sub_self] at e
    cases e
    exact ⟨u0, u1⟩
theorem five_at {u0 u1 u2 u3 u4 : V} {r : Int} (h0 : 0 ≤ r) (h5 : r < 5) : ∃ v, atI [u0, u1, u2, u3, u4] r = some v ∧ (v = u0 ∨ v = u1 ∨ v = u2 ∨ v = u3 ∨ v = u4) := by
  have c : r = 0 ∨ r = 1 ∨ r = 2 ∨ r = 3 ∨ r = 4 := by omega
  rcases c with rfl | rfl | rfl | rfl | rfl
  · exact ⟨u0, rfl, .inl rfl⟩
  · exact ⟨u1, rfl, .inr (.inl rfl)⟩
  · exact ⟨u2, rfl, .inr (.inr (.inl rfl))⟩
  · exact ⟨u3, rfl, .inr (.inr (.inr (.inl rfl)))⟩
  · exact ⟨u4, rfl, .inr (.inr (.inr (.inr rfl)))⟩
/-- a new list of new lists, the suppliers so far -/
structure ListsAt (H H' : Hp) (l : Addr) (as : List Addr) (pl : List Int) (i : Nat) : Prop where
  sm : Same H H'
  nl : H l = none
  hl : H' l = some (.lst (as.map V.ref))
  len : as.length = pl.length + 1
  new : ∀ a ∈ as, H a = none
  out : l ∉ as
  nd : as.Nodup
  at_ : ∀ (j : Nat) (a : Addr), as[j]? = some a → H' a = some (.lst ((sup pl i j).map V.int))
end PT


set_option maxHeartbeats 4000000
/-! the law's own draws: a bag of three ints, a number below another, a plant -/
namespace PT
open PySem PySem.Spec PyProof.Rows L2

/-- a bag: a list of three ints -/
def BagAt (H : Hp) (b : Addr) : Prop := ∃ x y z : Int, H b = some (.lst [.int x, .int y, .int z])
theorem Bar.free {b : Addr} {H H' : Hp} (e : Bar b H H') (hb : BagAt H b) (hb2 : BagAt H' b) {l : Addr} (n : H' l = none) : H l = none := by
  cases q : H l with
  | none => rfl
  | some o =>
    by_cases c : l = b
    · subst c
      obtain ⟨x, y, z, h⟩ := hb2
      rw [h] at n
      cases n
    · rw [e l o c q] at n
      cases n
theorem PlantAt.bar {H H' : Hp} {b p : Addr} {pl : List Int} (e : Bar b H H') (hb : BagAt H b) (h : PlantAt H p pl) : PlantAt H' p pl := by
  obtain ⟨x, y, z, q⟩ := hb
  exact ⟨e _ _ (ne_of h.at_ q (by intro w; cases w)) h.at_, h.ok⟩
theorem big_lt {m : Int} (h0 : 0 < m) (h1 : m < 10 ^ 40) : m.natAbs < 2 ^ 140 := by
  have z : m.natAbs < 10 ^ 40 := by omega
  exact Nat.lt_trans z (by decide)
theorem pos1 : (0 : Int) < 2147483629 := by decide
theorem pos2 : (0 : Int) < 2147483647 := by decide
theorem pos3 : (0 : Int) < 2147483587 := by decide
section
variable {P : Program} {w : World} {K : PySem.W.Frag} {mg : Str → Option Value} {base : Heap}
def spBag : Sp := fun vs H Q _ => ∃ c : Int, vs = [.int c] ∧ ∀ (b : Addr) (x : Int), H b = none → Q (.ref b) (upd H b (.lst [.int x, .int c, .int 0]))
theorem ok_bag (T : Tx K mg) : FnOk P w K mg base CX0 1 T.f__law_bag T.d__law_bag ["cell"] spBag := by
  refine T.F__law_bag.ok scLawBag (fun vs H Q E h => ?_) (fun cdv A outer s H vs Q E hr h => ?_)
  · obtain ⟨c, rfl, _⟩ := h
    rfl
  · obtain ⟨c, rfl, q⟩ := h
    refine ⟨_, pss_one (ps_ret (pe_lst (pa_cons (pe_callB (call_max2 rfl) (by rfl) T.n_max (by decide +kernel) (pa_cons pe_int (pa_cons (pe_op op_sub (pv 0) (pe_op op_pow pe_int pe_int)) pa_nil))) (pa_cons (pv 0) (pa_cons pe_int pa_nil))))), ?_⟩
    refine ⟨.int c, rfl, 10, 18, rfl, rfl, ⟨by decide, by decide, by decide⟩, _, _, rfl, rfl, _, _, rfl, .int c, rfl, ?_, fun b nb => q b _ nb⟩
    show 3 ≤ sizeLine
    decide
def spPick : Sp := fun vs H Q _ => ∃ (b : Addr) (m : Int), vs = [.ref b, .int m] ∧ 0 < m ∧ m < 10 ^ 40 ∧ BagAt H b ∧ ∀ r x y z : Int, 0 ≤ r → r < m → Q (.int r) (upd H b (.lst [.int x, .int y, .int z]))
theorem ok_pick (T : Tx K mg) : FnOk P w K mg base CX0 1 T.f__law_pick T.d__law_pick ["bag", "many"] spPick := by
  refine T.F__law_pick.ok scLawPick (fun vs H Q E h => ?_) (fun cdv A outer s H vs Q E hr h => ?_)
  · obtain ⟨b, m, rfl, _⟩ := h
    rfl
  · obtain ⟨b, m, rfl, h0, h1, ⟨x, y, z, hb⟩, q⟩ := h
    have nd := scLawPick.nd
    refine ⟨_, pss_cons (ps_asg (pe_op op_add (pe_ix ix_list (pv 0) pe_int (fun _ _ => rfl)) pe_int) (pg_sub (pv 0) pe_int set_list))
      (pss_cons (ps_if (pt_cmpR op_gt (pe_ix ix_list (pv 0) pe_int (fun _ _ => rfl)) pe_int (nomark _))
        (pss_cons (ps_set (i := 2) nd rfl (.inl rfl) (pe_op op_mod (pe_ix ix_list (pv 0) pe_int (fun _ _ => rfl)) (pv 1)))
        (pss_cons (ps_asg (pe_op op_fdivW (pe_ix ix_list (pv 0) pe_int (fun _ _ => rfl)) (pv 1)) (pg_sub (pv 0) pe_int set_list))
        (pss_one (ps_ret (pv 2))))) pss_nil)
      (pss_cons (ps_set (i := 3) nd rfl (.inl rfl) (pe_op op_mod (pe_op op_add (pe_op op_add (pe_op op_mul (pe_op op_mod (pe_ix ix_list (pv 0) pe_int (fun _ _ => rfl)) pe_int) pe_int) (pe_op op_mul (pe_ix ix_list (pv 0) pe_int (fun _ _ => rfl)) pe_int)) pe_int) pe_int))
      (pss_cons (ps_set (i := 4) nd rfl (.inl rfl) (pe_op op_mod (pe_op op_add (pe_op op_mul (pv 3) (pv 3)) (pe_op op_mul (pe_ix ix_list (pv 0) pe_int (fun _ _ => rfl)) pe_int)) pe_int))
      (pss_one (ps_ret (pe_op op_mod (pe_op op_fdiv (pe_op op_add (pe_op op_mul (pv 3) pe_int) (pv 4)) pe_int) (pv 1))))))), ?_⟩
    -- bag[2] = bag[2] + 1
    refine ⟨.ref b, rfl, b, _, 2, .int z, rfl, rfl, .inl (.inl hb), rfl, z, 1, rfl, rfl, .ref b, rfl, b, _, 2, 2, rfl, rfl, hb, rfl, ?_⟩
    have hb1 : (upd H b (.lst ([V.int x, .int y, .int z].set 2 (.int (z + 1))))) b = some (.lst [.int x, .int y, .int (z + 1)]) := upd_same
    have hs1 : SqL K (upd H b (.lst ([V.int x, .int y, .int z].set 2 (.int (z + 1))))) b [.int x, .int y, .int (z + 1)] := .inl (.inl hb1)
    refine ⟨.ref b, rfl, b, _, 0, .int x, rfl, rfl, hs1, rfl, x, 0, rfl, rfl, _, rfl, ite2 (fun e => ?_) fun e => ?_⟩
    · refine ⟨.ref b, rfl, b, _, 0, .int x, rfl, rfl, hs1, rfl, .int m, rfl, x, m, rfl, rfl, h0, ?_⟩
      refine ⟨.ref b, rfl, b, _, 0, .int x, rfl, rfl, hs1, rfl, .int m, rfl, x, m, rfl, rfl, wide_div h0 (b := 140) (big_lt h0 h1) (by decide) (by decide), .ref b, rfl, b, _, 0, 0, rfl, rfl, hb1, rfl, ?_⟩
      refine ⟨_, rfl, ?_⟩
      have z2 := q (x % m) (x / m) y (z + 1) (Int.emod_nonneg _ (by omega)) (Int.emod_lt_of_pos _ h0)
      rw [upd_upd]
      exact z2
    · refine ⟨.ref b, rfl, b, _, 1, .int y, rfl, rfl, hs1, rfl, y, 2147483629, rfl, rfl, pos1, _, _, rfl, rfl, .inr ⟨by decide, by decide⟩, ?_⟩
      refine ⟨.ref b, rfl, b, _, 2, .int (z + 1), rfl, rfl, hs1, rfl, z + 1, 69621, rfl, rfl, .inr ⟨by decide, by decide⟩, _, _, rfl, rfl, _, _, rfl, rfl, _, 2147483647, rfl, rfl, pos2, ?_⟩
      generalize (y % 2147483629 * 48271 + (z + 1) * 69621 + 12345) = t
      have t0 : 0 ≤ t % 2147483647 := Int.emod_nonneg _ (by decide)
      have t1 : t % 2147483647 < 2147483647 := Int.emod_lt_of_pos _ (by decide)
      refine ⟨_, rfl, _, rfl, _, _, rfl, rfl, .inl ⟨by show -(2 ^ 64) < t % 2147483647; omega, by show t % 2147483647 < 2 ^ 64; omega⟩, .ref b, rfl, b, _, 2, .int (z + 1), rfl, rfl, hs1, rfl, z + 1, 40692, rfl, rfl, .inr ⟨by decide, by decide⟩, _, _, rfl, rfl, _, 2147483587, rfl, rfl, pos3, ?_⟩
      refine ⟨_, rfl, _, 2147483587, rfl, rfl, .inr ⟨by decide, by decide⟩, _, rfl, _, _, rfl, rfl, _, 32, rfl, rfl, ⟨by decide, by decide⟩, .int m, rfl, _, m, rfl, rfl, h0, ?_⟩
      exact q _ x y (z + 1) (Int.emod_nonneg _ (by omega)) (Int.emod_lt_of_pos _ h0)

/-! ### a plant -/
theorem BagAt.same {H H' : Hp} {b : Addr} (e : Same H H') (h : BagAt H b) : BagAt H' b := let ⟨x, y, z, q⟩ := h; ⟨x, y, z, e _ _ q⟩
theorem bag_upd {H : Hp} {b : Addr} {x y z : Int} : BagAt (upd H b (.lst [.int x, .int y, .int z])) b := ⟨x, y, z, upd_same⟩
def spPlant : Sp := fun vs H Q _ => ∃ (b : Addr) (m : Int), vs = [.ref b, .int m] ∧ 1 ≤ m ∧ m ≤ 40 ∧ BagAt H b ∧ ∀ H' p pl, BagAt H' b → Bar b H H' → H p = none → PlantAt H' p pl → Q (.ref p) H'
theorem ok_plant (T : Tx K mg) : FnOk P w K mg base CX0 2 T.f__law_plant T.d__law_plant ["bag", "most"] spPlant := by
  refine T.F__law_plant.ok scLawPlant (fun vs H Q E h => ?_) (fun cdv A outer s H vs Q E hr h => ?_)
  · obtain ⟨b, m, rfl, _⟩ := h
    rfl
  · obtain ⟨b, m, rfl, hm1, hm2, hb, q⟩ := h
    have nd := scLawPlant.nd
    have hr1 := hr
    refine ⟨_, pss_cons (ps_set (i := 2) nd rfl (.inl rfl) (pe_op op_add pe_int (pe_call (ok_pick T) hr (by rfl) T.g__law_pick T.F__law_pick.kp T.b__law_pick .nil pass0 (pa_cons (pv 0) (pa_cons (pv 1) pa_nil)))))
      (pss_cons (ps_set (i := 3) nd rfl (.inl rfl) (pe_call (ok_pick T) hr (by rfl) T.g__law_pick T.F__law_pick.kp T.b__law_pick .nil pass0 (pa_cons (pv 0) (pa_cons pe_int pa_nil))))
      (pss_cons (ps_set (i := 4) nd rfl (.inl rfl) (pe_lst pa_nil))
      (pss_cons (ps_for PassesOwn.never rfl (pi_range1 rfl T.n_range (pa_cons (pe_op op_sub (pv 2) pe_int) pa_nil)) (pg_name (i := 5) nd rfl (.inl rfl))
        (pss_one (ps_expr (pe_bm PySem.F.plainAttrs_list PySem.F.slot_list_append PySem.F.type_list_append mt_append (pv 4) (pa_cons
          (pe_ix ix_list (pe_lst (pa_cons (pv 5) (pa_cons pe_int (pa_cons (pe_call (ok_pick T) hr (by rfl) T.g__law_pick T.F__law_pick.kp T.b__law_pick .nil pass0 (pa_cons (pv 0) (pa_cons (pe_op op_add (pv 5) pe_int) pa_nil)))
            (pa_cons (pe_callB (call_max2 rfl) (by rfl) T.n_max (by decide +kernel) (pa_cons pe_int (pa_cons (pe_op op_sub (pv 5) (pe_call (ok_pick T) hr (by rfl) T.g__law_pick T.F__law_pick.kp T.b__law_pick .nil pass0 (pa_cons (pv 0) (pa_cons pe_int pa_nil)))) pa_nil)))
            (pa_cons (pe_op op_fdiv (pv 5) pe_int) pa_nil)))))) (pv 3) (fun _ _ => rfl)) pa_nil)))))
      (pss_one (ps_ret (pe_callTy call_tuple_of (by rfl) T.n_tuple (by decide +kernel) (pa_cons (pv 4) pa_nil))))))), ?_⟩
    refine ⟨.ref b, rfl, .int m, rfl, b, m, rfl, by omega, by omega, hb, fun r x y z h0 h1 => ?_⟩
    refine ⟨_, _, rfl, rfl, .ref b, rfl, b, 5, rfl, by decide, by decide, bag_upd, fun r2 x2 y2 z2 g0 g1 => ?_⟩
    rw [upd_upd]
    have sB : Bar b H (upd H b (.lst [.int x2, .int y2, .int z2])) := bar_upd
    refine ⟨Nat.zero_le _, fun l nl => ?_⟩
    have hlb : l ≠ b := fun e => by
      rw [e, upd_same] at nl
      cases nl
    have nHl : H l = none := by
      rw [upd_ne hlb] at nl
      exact nl
    refine ⟨_, rfl, _, 1, rfl, rfl, 1 + r - 1, rfl, by omega, by omega, ?_⟩
    refine for_range (lo := 0) (n := (1 + r - 1).toNat) (fun i σ H' => ∃ y5 pl, σ = [some (.ref b), some (.int m), some (.int (1 + r)), some (.int r2), some (.ref l), y5] ∧ BagAt H' b ∧ Bar b H H' ∧ H' l = some (.lst (pl.map V.int)) ∧ pl.length = i ∧ Plant pl)
      ⟨none, [], rfl, bag_upd.same (same_new nl), sB.trans (Same.bar (same_new nl)), upd_same, rfl, ⟨Nat.zero_le _, fun i x e => by simp at e⟩⟩ (fun i σ H' hi p1 => ?_) (fun σ H' p1 => ?_)
    · obtain ⟨y5, pl, rfl, hB, sb, el, ln, hP⟩ := p1
      have hi2 : i ≤ 39 := by omega
      refine ⟨.ref l, rfl, .inl ⟨rfl, _, .inl (.inl el)⟩, ?_⟩
      refine ⟨.int (0 + (i : Nat)), rfl, .ref b, rfl, _, rfl, _, 1, rfl, rfl, b, _, rfl, by omega, by omega, hB, fun a3 x3 y3 z3 e0 e1 => ?_⟩
      refine ⟨_, rfl, .ref b, rfl, b, 3, rfl, by decide, by decide, bag_upd, fun a4 x4 y4 z4 c0 c1 => ?_⟩
      rw [upd_upd]
      refine ⟨_, _, rfl, rfl, _, _, rfl, _, rfl, _, 2, rfl, rfl, ⟨by decide, by decide⟩, (by show 5 ≤ sizeLine; decide), fun t nt => ?_⟩
      have hlb2 : (upd H' b (.lst [.int x4, .int y4, .int z4])) l = some (.lst (pl.map V.int)) := by
        rw [upd_ne hlb]
        exact el
      obtain ⟨v, ev, cv⟩ := five_at (u0 := .int (0 + (i : Nat))) (u1 := .int 0) (u2 := .int a3) (u3 := .int (if 0 + ((i : Nat) : Int) - a4 > 0 then 0 + ((i : Nat) : Int) - a4 else 0)) (u4 := .int ((0 + ((i : Nat) : Int)) / 2)) g0 g1
      obtain ⟨u, rfl, u0, u1⟩ : ∃ u : Int, v = .int u ∧ 0 ≤ u ∧ u ≤ i := by
        rcases cv with rfl | rfl | rfl | rfl | rfl
        · exact ⟨_, rfl, by omega, by omega⟩
        · exact ⟨_, rfl, by omega, by omega⟩
        · exact ⟨_, rfl, e0, by omega⟩
        · refine ⟨_, rfl, ?_, ?_⟩ <;> (split <;> omega)
        · exact ⟨_, rfl, by omega, by omega⟩
      refine ⟨_, rfl, t, _, r2, .int u, rfl, rfl, .inl (.inl upd_same), ev, l, _, _, rfl, rfl, upd_at hlb2 nt, ?_, ?_⟩
      · rw [List.length_map, ln]
        exact small300 (by omega)
      · refine ⟨_, pl ++ [u], rfl, ?_, ?_, ?_, ?_, ?_⟩
        · refine ⟨x4, y4, z4, ?_⟩
          rw [upd_ne (Ne.symm hlb)]
          exact upd_at upd_same nt
        · refine fun c o nc hc => ?_
          rw [upd_ne (ne_of_none hc nHl)]
          refine upd_at ?_ nt
          rw [upd_ne nc]
          exact sb c o nc hc
        · rw [upd_same, List.map_append]
          rfl
        · rw [List.length_append, ln]
          rfl
        · refine ⟨by rw [List.length_append, ln]; show i + 1 ≤ 39; omega, fun k x e => ?_⟩
          by_cases hk : k < pl.length
          · rw [List.getElem?_append_left hk] at e
            exact hP.ok k x e
          · have hk2 : k = pl.length := by
              have z := (List.getElem?_eq_some_iff.mp e).1
              rw [List.length_append] at z
              have z2 : k < pl.length + 1 := z
              omega
            subst hk2
            rw [List.getElem?_append_right (Nat.le_refl _), Nat.sub_self] at e
            cases e
            exact ⟨u0, by rw [ln]; exact u1⟩
    · obtain ⟨y5, pl, rfl, hB, sb, el, ln, hP⟩ := p1
      refine ⟨.ref l, rfl, l, _, rfl, .inl ⟨.inl (.inl el), fun p np => ?_⟩⟩
      exact q _ p pl (hB.same (same_new np)) (sb.trans (Same.bar (same_new np))) (sb.free hb hB np) ⟨upd_same, hP⟩
end
end PT

set_option maxHeartbeats 4000000
/-! rules that round 3's code asks for: is True of ints and bools, set(t), count of bools, enumerate from a start -/
namespace PT
open PySem PySem.Spec PyProof.Rows L2

section
variable {X : Cx}
/-! ### x is True, x an int or a bool -/
def isTV (b : Bool) : V → Bool
  | .bl a => decide (a = b)
  | _ => false
def rIsK : V → V → Hp → (V → Hp → Prop) → Prop := fun x y H Q => ∃ b, y = .bl b ∧ ((∃ a, x = .bl a) ∨ ∃ i, x = .int i) ∧ Q (.bl (isTV b x)) H
theorem op_isK : OpR X (compareOp .Is) rIsK := by
  intro pins st σ H x y v u Q I rx ry h
  obtain ⟨b, rfl, hx, q⟩ := h
  cases (show u = Value.bool b from ry)
  rcases hx with ⟨a, rfl⟩ | ⟨i, rfl⟩
  · cases (show v = Value.bool a from rx)
    by_cases c : a = b
    · subst c
      exact wpAny_is_self rfl ⟨.bl true, H, I, rfl, by simpa [isTV] using q⟩
    · exact wpAny_is_other rfl (fun z => c (Value.bool.inj z)) ⟨.bl false, H, I, rfl, by simpa [isTV, c] using q⟩
  · obtain ⟨t, rfl⟩ := rx
    exact wpAny_is_other rfl (fun z => nomatch z) ⟨.bl false, H, I, rfl, q⟩
/-! ### set(t), t a tuple of ints -/
def rSetT (K : PySem.W.Frag) (w : World) : List V → Hp → (V → Hp → Prop) → Prop := fun vs H Q => ∃ (l : Addr) (ns : List Int), vs = [.ref l] ∧ SqT K H l (ns.map V.int) ∧ ns.length ≤ 1000 ∧
  ∀ p n, H p = none → Q (.ref p) (upd H p (SetO w p (fun j => decide (j ∈ ns)) n))
theorem cr_setT (hc : X.calm = true) : CallR X (.type "set") (rSetT X.K X.w) := by
  intro pins st σ H vs us Q I r h
  obtain ⟨l, ns, rfl, hq, hl, q⟩ := h
  rw [Vals.ref1 r]
  obtain ⟨its, rv, pl, hz⟩ := I.tuple hq
  have hi : IntsAre its.toArray.toList ns := by simpa using ints_of_vals rv
  refine call_set_tupI ns (I.ok.hd hc) pl hi (by unfold scanBound; omega) fun h' tk c R hcn k => ?_
  exact ⟨.ref _, upd H st.heap.objs.size (SetO X.w st.heap.objs.size (fun j => decide (j ∈ ns)) c), I.laid (t' := tk) k (Nat.le_refl _) (setO_new R), rfl, q _ c (I.hok.fresh (Nat.le_refl _))⟩
/-! ### xs.count(True), xs of bools -/
theorem flat_bls (bs : List Bool) : (bs.map V.bl).all flatV = true := by
  rw [List.all_eq_true]
  intro x hx
  obtain ⟨b, _, rfl⟩ := List.mem_map.mp hx
  rfl
theorem count_bls {b : Bool} : ∀ {bs : List Bool} {us : List Value}, Vals (bs.map V.bl) us → us.countP (eqU (.bl b)) = bs.count b
  | [], _, .nil => rfl
  | a :: bs, _, .cons r t => by
    have ih := count_bls (b := b) t
    have e := eqU_of (x := .bl b) r rfl
    rw [List.countP_cons, List.count_cons, ih, e]
    cases a <;> cases b <;> rfl
def rCntB (K : PySem.W.Frag) : V → List V → Hp → (V → Hp → Prop) → Prop := fun x xs H Q => ∃ (p : Addr) (bs : List Bool) (b : Bool), x = .ref p ∧ xs = [.bl b] ∧ SqL K H p (bs.map V.bl) ∧ Q (.int ((bs.count b : Nat) : Int)) H
theorem mt_countB : MtR X "list.count" (rCntB X.K) := by
  intro pins st σ H x xs v us Q I rx rxs h
  obtain ⟨p, bs, b, rfl, rfl, hs, q⟩ := h
  cases rx
  obtain ⟨u, rfl, ru⟩ := rxs.one
  obtain ⟨its, rv, ⟨⟨cls, dd, data, sl⟩, n, ho, hc, hdn, hd⟩, hlen⟩ := I.list hs
  simp only at hc hd
  subst hc hd
  refine call_meets PySem.F.slot_list_count ⟨_, ho, rfl⟩ PySem.F.entry_list_count (PySem.F.args_list_count_2 _ _)
    (SeqAt.list_countAt p its.toArray n dd sl u (eqU (.bl b))) ⟨ho, fun y hy => mem_eqAt ru rfl rv (flat_bls bs) y (by simpa using hy), ?_⟩
  have ec : its.toArray.toList.countP (eqU (.bl b)) = bs.count b := count_bls rv
  refine ⟨.int ((bs.count b : Nat) : Int), H, I.tok _, ⟨st.toks, ?_⟩, q⟩
  show Value.int ((its.toArray.toList.countP (eqU (.bl b)) : Nat) : Int) st.toks = Value.int ((bs.count b : Nat) : Int) st.toks
  rw [ec]
end

/-! ### len(set(t)), t a tuple of different ints -/
section
variable {X : Cx}
theorem setR_len {w : World} {h : Heap} {a : Addr} {ns : List Int} {c : Nat} (R : SetR w h a (fun j => decide (j ∈ ns)) c) (nd : ns.Nodup) : c = ns.length := by
  obtain ⟨o, es, ep, t, ho, hx, hd, g, nk, hm, hb, hf, hn, _⟩ := R
  have p : (es.toList.map keyOf).Perm ns := (List.perm_ext_iff_of_nodup nk nd).mpr fun k => by
    rw [← hm k]
    exact decide_eq_true_iff
  have e := p.length_eq
  rw [List.length_map, Array.length_toList] at e
  omega
def tLenSetT (K : PySem.W.Frag) (ta : TE) : TE := fun σ H Q => ta σ H fun x H1 => ∃ (l : Addr) (ns : List Int), x = .ref l ∧ SqT K H1 l (ns.map V.int) ∧ ns.Nodup ∧ ns.length ≤ 1000 ∧ Q (.int (ns.length : Nat)) H1
theorem pe_lenSetT {a : Expr} {ta : TE} {p p2 q pos : Pos} (hg : Gl X "len") (hm : X.mg "len" = none) (hg2 : Gl X "set") (hm2 : X.mg "set" = none) (ha : PE X a ta) (hc : X.calm = true := by rfl)
    (na : starEach [a] X.env = (false, eval a X.env) :: starEach [] X.env := by rfl) : PE X (.Call (.Name "len" p) [.Call (.Name "set" p2) [a] [] q] [] pos) (tLenSetT X.K ta) := by
  constructor
  intro pins st σ H Q I h
  refine Call_ (ld_blt I hg hm boot_len (PyProof.Rows.callWith_builtin1 (PyProof.Rows.args_cons ?_ rfl) rfl rfl))
  refine Call_ (ld_blt I hg2 hm2 boot_set (PyProof.Rows.callWith_type1 (PyProof.Rows.args_cons (thn (ha.run pins st σ H _ I h) fun v s1 ⟨x, H1, I1, r1, q1⟩ => PyProof.Rows.args_nil ?_) na) na rfl))
  obtain ⟨l, ns, rfl, hq, nd, hl, q1⟩ := q1
  cases r1
  obtain ⟨its, r, pl, hz⟩ := I1.tuple hq
  have hi : IntsAre its.toArray.toList ns := by simpa using ints_of_vals r
  refine call_set_tupI ns (I1.ok.hd hc) pl hi (by unfold scanBound; omega) fun h' tk c R hcn hk => PyProof.Rows.args_nil ?_
  have ec := setR_len R nd
  obtain ⟨o, es, ep, t, ho, hx, hd, _, _, _, hb, hf, hn, _⟩ := R
  exact call_len_set ho hx hd hf (by omega) ⟨.int (ns.length : Nat), H1, (I1.kept hk).tok _, ⟨_, by rw [hn, ec]⟩, q1⟩
end
/-! ### enumerate(t, k): a tuple's items with their places, counted from k -/
def ItF (K : PySem.W.Frag) (a : Addr) (k : Int) : It :=
  ⟨fun i H => ∃ (xs : List V) (x : V), SqT K H a xs ∧ xs[i]? = some x,
   fun i H v H' => ∃ T x, v = .ref T ∧ H T = none ∧ H' = upd H T (.tup [.int (k + (i : Nat)), x]) ∧ ∀ xs, SqT K H a xs → xs[i]? = some x,
   fun i H => ∃ xs : List V, SqT K H a xs ∧ xs.length ≤ i⟩
theorem turn_F {P : Program} {w : World} {K : PySem.W.Frag} {elts : List Expr} {kk : Nat} {tpos : Pos} (a e it : Addr) (k : Int) :
    Turn P w K (.Tuple elts kk tpos) (ItF K a k) [e, it] e (fun i h => (∃ old, IsEnum h e it (k + ((i : Nat) : Int)) old) ∧ h.IsTupleIter it a i ∧ e ≠ it) where
  mem := by simp
  obj := fun i h st b hb => by
    obtain ⟨⟨old, he⟩, ⟨o, ho, hc, hd⟩, _⟩ := st
    rcases List.mem_cons.mp hb with z | z
    · rw [z]
      exact ⟨_, he, fun v q => nomatch q⟩
    · rw [List.mem_singleton.mp z]
      exact ⟨o, ho, fun v q => by rw [hd] at q; cases q⟩
  keep := fun i h h' st kp => ⟨let ⟨old, he⟩ := st.1; ⟨old, kp e (by simp) _ he⟩, st.2.1.at fun o q => kp it (by simp) o q, st.2.2⟩
  item := by
    intro X hP hw hK hc i pins st σ H E I hf tn hg
    subst hP hw hK
    obtain ⟨⟨old, he⟩, hit, hne⟩ := tn
    obtain ⟨xs, x, hq, hx⟩ := hg
    obtain ⟨its, rv, p, hz⟩ := I.tuple hq
    obtain ⟨u, hu, ru⟩ := rv.get hx
    have le : e < st.heap.objs.size := Heap.lt_size he
    have li : it < st.heap.objs.size := let ⟨_, q, _⟩ := hit; Heap.lt_size q
    have hta : a ≠ it := fun z => by
      obtain ⟨o1, q1, c1, _⟩ := hit
      obtain ⟨o2, q2, c2, _⟩ := p
      rw [z, q1] at q2
      cases q2
      rw [c1] at c2
      exact absurd (Value.type.inj c2) (by decide)
    have D := Draws.tuple (prog := X.prog) (w := X.w) (A := X.A.in1) (I.ok.hd hc) it a hta its.toArray
    have hi : i < its.length := by
      obtain ⟨h1, _⟩ := List.getElem?_eq_some_iff.mp hu
      exact h1
    refine wpAny_pyNext_enum_itemC D he ⟨hit, p⟩ (by simpa using hi) hne ?_ fun y h2 tk hy ho sn hT hsz hk => ?_
    · intro hm
      rcases List.mem_cons.mp hm with z | z
      · exact hne z
      · have z2 := List.mem_singleton.mp z
        obtain ⟨o2, q2, c2, _⟩ := p
        have q3 : st.heap.get? e = some _ := he
        rw [z2, q2] at q3
        cases q3
        exact absurd (Value.type.inj c2) (by decide)
    have ey : y = u := by
      have e1 : its.toArray[i]? = some u := by simpa using hu
      exact Option.some.inj (hy.symm.trans e1)
    subst ey
    refine ⟨_, rfl, wpAny_letOwnedTupleGo_enum (s := { st with heap := h2, toks := tk + 1 }) ho fun h3 he3 sb => ?_⟩
    have hT3 : h3.get? st.heap.objs.size = some { cls := .type "tuple", data := .seq #[.int (k + (i : Int)) tk, y] } := (sb.2 _ (Nat.ne_of_gt le)).trans hT
    have nw : ObjOk X.prog X.w (upd H st.heap.objs.size (.tup [.int (k + (i : Nat)), x])) h3 st.heap.objs.size (.tup [.int (k + (i : Nat)), x]) :=
      ⟨by show 2 ≤ sizeLine; decide, [.int (k + (i : Int)) tk, y], .cons ⟨_, rfl⟩ (.cons ru .nil), ⟨_, hT3, rfl, _, rfl⟩⟩
    have I1 : Inv X pins σ (upd H st.heap.objs.size (.tup [.int (k + (i : Nat)), x])) { st with heap := h3, toks := tk + 1 } :=
      I.turnedNew (ch := [e, it]) (fun b ob hb q => (sb.2 b (fun z => hb (by simp [z]))).trans (hk b ob (fun z => hb (by simp [z])) (fun z => hb (by simp [z])) q)) hf (Nat.le_refl _) nw
    refine ⟨.ref st.heap.objs.size, _, I1, rfl, ⟨_, x, rfl, I.hok.fresh (Nat.le_refl _), rfl, fun ys hy => by rw [I.tuple_inj hy hq]; exact hx⟩, ⟨⟨y, ?_⟩, sn.1.at fun o q => (sb.2 it (Ne.symm hne)).trans q, hne⟩, fun b hb => ?_⟩
    · have e1 : k + ((i + 1 : Nat) : Int) = k + (i : Int) + 1 := by omega
      exact e1 ▸ he3
    · have hb' : b < st.heap.objs.size := by
        rcases List.mem_cons.mp hb with z | z
        · exact z ▸ le
        · exact (List.mem_singleton.mp z) ▸ li
      rw [upd_ne (Nat.ne_of_lt hb')]
      exact (hf b hb).1
  done := by
    intro X hP hw hK hc i pins st σ H E I hf tn hg
    subst hP hw hK
    obtain ⟨⟨old, he⟩, hit, hne⟩ := tn
    obtain ⟨xs, hq, hx⟩ := hg
    obtain ⟨its, rv, p, hz⟩ := I.tuple hq
    obtain ⟨f0, f1, f2, f3, f4, f5⟩ := hf it (by simp)
    have hl := rv.length
    have hT : st.TypeIs (.ref e) "enumerate" := ⟨_, he, rfl⟩
    unfold pyNext
    refine wpAny_bind (wpAny_attempt (wpAny_callSpecial?_slot (name := Str.ofString "__next__") hT F.slot_enumerate_next (wpAny_call_entry F.slot_enumerate_next hT F.entry_enumerate_next ?_ (F.args_enumerate_next_1 _))))
    show wpAny _ _ (field (.ref e) 2 >>= _) _ _ _
    refine wpAny_bind (wpAny_field he rfl (x := .ref it) rfl ?_)
    refine wpAny_bind (wpAny_nextOf_tuple_end (I.ok.hd hc) hit p (by simp; omega) fun h2 x e1 hx2 => ?_)
    obtain ⟨o, ho, hcc⟩ := hx2
    refine wpAny_bind (wpAny_isInstance (T := "StopIteration") (b := true) ⟨o, ho, hcc⟩ isSubtype_stop ?_)
    exact wpAny_pure ⟨rfl, I.turned (t' := st.toks) (fun b o hb q => e1 b o hb q) f0 f1 f3 f4 f5⟩
  self := fun A i s Q E tn h => let ⟨⟨_, he⟩, _⟩ := tn; wpAny_pyIter_enum he h
def iF (K : PySem.W.Frag) (ta : TA) : TI := fun σ H R => ta σ H fun vs H1 => ∃ a k xs, vs = [.ref a, .int k] ∧ SqT K H1 a xs ∧ -(2 ^ 63) ≤ k ∧ k < 2 ^ 63 ∧ R (ItF K a k) H1
theorem pi_F {X : Cx} {e e2 : Expr} {ta : TA} {p pos tpos : Pos} {elts : List Expr} {kk : Nat} (hg : Gl X "enumerate") (hm : X.mg "enumerate" = none) (ha : PA X [e, e2] ta)
    (hs : starEach [e, e2] X.env = (false, eval e X.env) :: starEach [e2] X.env := by rfl) (hpl : (backTo pos (starEach [e2] X.env)).any (·.1) = false := by rfl) :
    PI X (.Tuple elts kk tpos) (.Call (.Name "enumerate" p) [e, e2] [] pos) (iF X.K ta) := by
  refine ⟨fun pins st σ H R I h => Call_ (ld_blt I hg hm boot_enumerate (PyProof.Rows.callWith_type1 (thn (ha.run pos pins st σ H _ I h) fun us s1 ⟨vs, H1, I1, r1, q1⟩ => ?_) hs hpl))⟩
  obtain ⟨a, k, xs, ex, hq, hk0, hk1, q⟩ := q1
  subst ex
  cases r1 with
  | cons r rr =>
    cases rr with
    | cons r2 rr =>
      cases rr
      cases r
      obtain ⟨tk, rfl⟩ := r2
      obtain ⟨its, rv, pp, hz⟩ := I1.tuple hq
      refine enum_begins (begins_tuple a its.toArray) pp hk0 hk1 fun h2 he hi hz2 hk => wpAny_pyIter_enum he ?_
      have I2 : Inv X pins σ H1 { s1 with heap := h2 } := I1.kept (t' := s1.toks) hk
      refine ⟨s1.heap.objs.size + 1, [s1.heap.objs.size + 1, s1.heap.objs.size], _, _, H1, rfl, I2, turn_F a (s1.heap.objs.size + 1) s1.heap.objs.size k, ⟨⟨.none, by simpa using he⟩, ⟨_, hi, rfl, rfl⟩, Nat.succ_ne_self _⟩, fun b hb => ?_, q⟩
      have hle : s1.heap.objs.size ≤ b := by
        rcases List.mem_cons.mp hb with z | z
        · rw [z]
          exact Nat.le_add_right _ _
        · rw [List.mem_singleton.mp z]
          exact Nat.le_refl _
      exact I1.fpOk hle (I1.hok.fresh hle)
theorem walk_F {K : PySem.W.Frag} {a : Addr} {k : Int} {xs : List V} : Walk (ItF K a k) xs.length (fun H => SqT K H a xs) (YPair (fun i => some (.int (k + (i : Nat)))) (fun i => xs[i]?)) := by
  refine ⟨fun i _ hi q => ⟨xs, xs[i], q, by simp [hi]⟩, fun _ q => ⟨xs, q, Nat.le_refl _⟩, fun i H v H' _ q y => ?_⟩
  obtain ⟨T, x, h1, h2, h3, h4⟩ := y
  exact ⟨T, .int (k + (i : Nat)), x, h1, h2, h3, rfl, h4 xs q⟩
/-! ### t + u, t[a:b], told by what comes out -/
section
variable {X : Cx}
theorem op_catG : OpR X (binaryOp .Add) (fun x y H Q => ∃ a b xs ys, x = .ref a ∧ y = .ref b ∧ H a = some (.tup xs) ∧ H b = some (.tup ys) ∧ xs.length + ys.length ≤ 1000 ∧ ∀ c H', Same H H' → H' c = some (.tup (xs ++ ys)) → Q (.ref c) H') := by
  intro pins st σ H x y v u Q I rx ry h
  obtain ⟨a, b, xs, ys, rfl, rfl, ea, eb, hl, q⟩ := h
  refine op_catA pins st σ H _ _ v u Q I rx ry ⟨a, b, xs, ys, rfl, rfl, .inl (.inl ea), .inl (.inl eb), Nat.le_of_lt (small1000 hl), fun e => ?_, fun _ e => ?_, fun _ _ p np => q p _ (same_new np) upd_same⟩
  · subst e
    exact q b H (Same.refl H) eb
  · subst e
    exact q a H (Same.refl H) (by rw [List.append_nil]; exact ea)
theorem sl_tupG : SlR X (fun x lo hi H Q => ∃ a xs, x = .ref a ∧ H a = some (.tup xs) ∧ ∀ c H', Same H H' → H' c = some (.tup (cutV xs lo hi)) → Q (.ref c) H') := by
  intro pins st σ H x v vl vu lo hi sl Q I rx hs pl pu h
  obtain ⟨a, xs, rfl, ea, q⟩ := h
  refine sl_tupA pins st σ H _ v vl vu lo hi sl Q I rx hs pl pu ⟨a, xs, rfl, .inl (.inl ea), fun e => ?_, fun _ p np => q p _ (same_new np) upd_same⟩
  refine q a H (Same.refl H) ?_
  unfold cutV
  rw [e.1, e.2, List.drop_zero, Nat.sub_zero, List.take_length]
  exact ea
end
theorem cut_to (ns : List Int) (i : Nat) : cutV (ns.map V.int) none (some (i : Int)) = (ns.take i).map V.int := by
  unfold cutV
  rw [HT.sIx_none, HT.sIx_nat, List.drop_zero, Nat.sub_zero, List.map_take]
  by_cases h : i ≤ (ns.map V.int).length
  · rw [Nat.min_eq_left h]
  · rw [Nat.min_eq_right (by omega), List.take_length, List.take_of_length_le (by omega)]
theorem cut_from (ns : List Int) (i : Nat) : cutV (ns.map V.int) (some (i : Int)) none = (ns.drop i).map V.int := by
  unfold cutV
  rw [HT.sIx_none, HT.sIx_nat, List.map_drop]
  by_cases h : i ≤ (ns.map V.int).length
  · rw [Nat.min_eq_left h, List.take_of_length_le (by rw [List.length_drop]; omega)]
  · rw [Nat.min_eq_right (by omega), List.drop_length, List.drop_of_length_le (by omega), List.take_nil]

theorem rep_bls (j : Nat) (b : Bool) : (List.replicate (j : Int).toNat [V.bl b]).flatten = (List.replicate j b).map V.bl := by
  rw [Int.toNat_natCast]
  induction j with
  | zero => rfl
  | succ j ih => rw [List.replicate_succ, List.flatten_cons, ih]; rfl
/-! ### math of the plants functions -/
theorem sup_low {pl : List Int} (hP : Plant pl) (j : Nat) : ∀ i, i ≤ j → i ≤ pl.length → sup pl i j = []
  | 0, _, _ => rfl
  | i + 1, h, hl => by
    have e : pl[i]? = some pl[i] := List.getElem?_eq_getElem (by omega)
    have z := hP.ok i _ e
    rw [sup_step j e, if_neg (by omega), sup_low hP j i (by omega) (by omega)]
/-- who stands at or below j, of the stations up to j + i -/
def und (pl : List Int) (j i : Nat) : List Bool := (List.range (j + 1 + i)).map fun k => decide (j ∈ path pl k)
theorem und_zero (pl : List Int) (j : Nat) : und pl j 0 = List.replicate j false ++ [true] := by
  unfold und
  rw [show j + 1 + 0 = j + 1 from rfl, List.range_succ, List.map_append]
  congr 1
  · refine List.ext_getElem? fun k => ?_
    by_cases h : k < j
    · rw [List.getElem?_map, List.getElem?_range h, List.getElem?_replicate, if_pos h]
      have z : j ∉ path pl k := fun m => by
        have := path_le pl k j m
        omega
      simp [z]
    · rw [List.getElem?_eq_none (by rw [List.length_map, List.length_range]; omega), List.getElem?_eq_none (by rw [List.length_replicate]; omega)]
  · have z : j ∈ path pl j := List.mem_of_getElem? (path_head pl j)
    simp [z]
theorem und_len (pl : List Int) (j i : Nat) : (und pl j i).length = j + 1 + i := by
  unfold und
  rw [List.length_map, List.length_range]
theorem und_at (pl : List Int) (j : Nat) {i k : Nat} (h : k < j + 1 + i) : (und pl j i)[k]? = some (decide (j ∈ path pl k)) := by
  unfold und
  rw [List.getElem?_map, List.getElem?_range h]
  rfl
theorem und_step (pl : List Int) (j i : Nat) : und pl j (i + 1) = und pl j i ++ [decide (j ∈ path pl (cu pl (j + i + 1)))] := by
  unfold und
  rw [show j + 1 + (i + 1) = j + 1 + i + 1 from rfl, List.range_succ, List.map_append]
  congr 1
  show [decide (j ∈ path pl (j + 1 + i))] = _
  rw [show j + 1 + i = j + i + 1 by omega]
  have e : j ∈ path pl (j + i + 1) ↔ j ∈ path pl (cu pl (j + i + 1)) := by
    rw [path_pos pl (by omega), List.mem_cons]
    constructor
    · rintro (h | h)
      · omega
      · exact h
    · exact .inr
  by_cases c : j ∈ path pl (cu pl (j + i + 1))
  · rw [decide_eq_true c, decide_eq_true (e.mpr c)]
  · rw [decide_eq_false c, decide_eq_false fun z => c (e.mp z)]
theorem und_count (pl : List Int) {j : Nat} (hj : j ≤ pl.length) : (und pl j (pl.length - j)).count true = sz pl j := by
  unfold und sz
  rw [show j + 1 + (pl.length - j) = pl.length + 1 by omega, List.count_eq_countP, List.countP_map]
  refine List.countP_congr fun k _ => ?_
  simp

/-! ### xs[i], xs a list or a tuple -/
theorem ix_lt {X : Cx} : IxR X (fun x y H Q => rIxL X.K x y H Q ∨ rIxT X.K x y H Q) := ix_list.or ix_tup
theorem item_lt {K : PySem.W.Frag} {H : Hp} {a : Addr} {xs : List V} {i : Int} {v : V} {Q : V → Hp → Prop} (h : SqL K H a xs ∨ SqT K H a xs) (e : atI xs i = some v) (q : Q v H) : rIxL K (.ref a) (.int i) H Q ∨ rIxT K (.ref a) (.int i) H Q := by
  rcases h with h | h
  · exact .inl ⟨a, xs, i, v, rfl, rfl, h, e, q⟩
  · exact .inr ⟨a, xs, i, v, rfl, rfl, h, e, q⟩
theorem lt_same {K : PySem.W.Frag} {H H' : Hp} {a : Addr} {xs : List V} (e : Same H H') (h : SqL K H a xs ∨ SqT K H a xs) : SqL K H' a xs ∨ SqT K H' a xs := h.imp (fun z => e.seq z) fun z => seqT e z
end PT


set_option maxHeartbeats 4000000
/-! the checks of the program -/
namespace PT
open PySem PySem.Spec PyProof.Rows L2

theorem FitsIs.kd {H : Hp} {v : V} {r : Bool} (h : FitsIs H v r) : ∃ n, Kd H v n := by
  cases h with
  | no k _ => exact ⟨_, k⟩
  | tup a _ _ => exact ⟨_, .tup a⟩
theorem fitsV_no {xs : List V} {i : Nat} {x : V} (h : xs[i]? = some x) (c : okV 0 (i : Nat) x = false) : fitsV xs = false := by
  unfold fitsV
  have e := okVs_at h
  rw [c] at e
  have z : (okVs xs).all id = false := by
    rw [List.all_eq_false]
    exact ⟨false, List.mem_of_getElem? e, by decide⟩
  rw [z, Bool.and_false]
theorem okVs_next {xs : List V} {i : Nat} {x : V} (h : xs[i]? = some x) (a : ((okVs xs).take i).all id = true) (c : okV 0 (i : Nat) x = true) : ((okVs xs).take (i + 1)).all id = true := by
  rw [take_next (okVs_at h), List.all_append, a, c]
  rfl
section
variable {P : Program} {w : World} {K : PySem.W.Frag} {mg : Str → Option Value} {base : Heap}
def spIsInteger : Sp := fun vs H Q _ => ∃ v n, vs = [v] ∧ Kd H v n ∧ Q (.bl (isI v)) H
theorem Tx.isInteger (T : Tx K mg) {k : Nat} : FnOk P w K mg base CX0 (k + 1) T.f_is_integer T.d_is_integer ["value"] spIsInteger := by
  refine T.F_is_integer.ok scIsInteger (fun vs H Q E h => ?_) (fun cdv A outer s H vs Q E hr h => ?_)
  · obtain ⟨v, n, rfl, _⟩ := h
    rfl
  · obtain ⟨v, n, rfl, hk, q⟩ := h
    refine ⟨_, pss_one (ps_ret (pe_and (pe_callB call_isi (by rfl) T.n_isinstance (by decide +kernel) (pa_cons (pv 0) (pa_cons (pe_bltn (v := .ty "int") (by rfl) T.n_int (by decide +kernel) rfl) pa_nil)))
      (pe_one (pe_not (pe_callB call_isi (by rfl) T.n_isinstance (by decide +kernel) (pa_cons (pv 0) (pa_cons (pe_bltn (v := .ty "bool") (by rfl) T.n_bool (by decide +kernel) rfl) pa_nil))))))), ?_⟩
    refine ⟨v, rfl, v, .ty "int", _, _, _, rfl, .ty _, hk.tyx, kd_int hk, _, rfl, ?_⟩
    refine ite2 (fun e => ⟨v, rfl, v, .ty "bool", _, _, _, rfl, .ty _, hk.tyx, kd_bool hk, _, rfl, ?_⟩) fun e => ?_
    · cases v <;> first | exact q | (simp [isI, isB] at e)
    · cases v <;> first | exact q | (simp [isI, isB] at e)
def spIsWithin : Sp := fun vs H Q _ => ∃ v n lo hi, vs = [v, .int lo, .int hi] ∧ Kd H v n ∧ Q (.bl (okV lo hi v)) H
/-! ### fits_plant -/
def spFits : Sp := fun vs H Q _ => ∃ v r, vs = [v] ∧ FitsIs H v r ∧ ∀ H', Same H H' → Q (.bl r) H'
theorem Tx.fits (T : Tx K mg) {k : Nat} : FnOk P w K mg base CX0 (k + 1) T.f_fits_plant T.d_fits_plant ["value"] spFits := by
  refine T.F_fits_plant.ok scFitsPlant (fun vs H Q E h => ?_) (fun cdv A outer s H vs Q E hr h => ?_)
  · obtain ⟨v, r, rfl, _⟩ := h
    rfl
  · obtain ⟨v, r, rfl, hf, q⟩ := h
    have nd := scFitsPlant.nd
    refine ⟨_, pss_cons (ps_if (PW.pt (pw_or (pt_not (pt_val (pe_callB call_isi (by rfl) T.n_isinstance (by decide +kernel) (pa_cons (pv 0) (pa_cons (pe_bltn (v := .ty "tuple") (by rfl) T.n_tuple (by decide +kernel) rfl) pa_nil)))))
        (pw_or1 (pt_cmpR op_ge (pe_callB call_len_seq (by rfl) T.n_len PySem.boot_len (pa_cons (pv 0) pa_nil)) (pe_glob (v := .int 40) rfl T.g_MOST_STATIONS ⟨_, rfl⟩) (nomark _)))))
        (pss_one (ps_ret pe_bl)) pss_nil)
      (pss_cons (ps_set (i := 1) nd rfl (.inl rfl) pe_int)
      (pss_cons (ps_for PassesOwn.never rfl (pi_tup (pv 0)) (pg_name (i := 2) nd rfl (.inl rfl))
        (pss_cons (ps_if (PW.pt (pw_or (pt_not (pt_val (pe_callB call_isi (by rfl) T.n_isinstance (by decide +kernel) (pa_cons (pv 2) (pa_cons (pe_bltn (v := .ty "int") (by rfl) T.n_int (by decide +kernel) rfl) pa_nil)))))
            (pw_or (pt_cmpR op_isK (pv 2) pe_bl (nomark _)) (pw_or (pt_cmpR op_isK (pv 2) pe_bl (nomark _)) (pw_or (pt_cmpR op_lt (pv 2) pe_int (nomark _)) (pw_or1 (pt_cmpR op_gt (pv 2) (pv 1) (nomark _))))))))
          (pss_one (ps_ret pe_bl)) pss_nil)
        (pss_one (ps_aug (i := 1) nd rfl (.inl rfl) pe_int ip_add))))
      (pss_one (ps_ret pe_bl)))), ?_⟩
    cases hf with
    | no hk hn =>
      refine ⟨_, rfl, _, .ty "tuple", _, _, _, rfl, .ty _, hk.tyx, kd_tuple hk, _, rfl, ?_⟩
      rw [show (_ == "tuple") = false from beq_eq_false_iff_ne.mpr hn]
      exact iteT (iteT (q _ (Same.refl H)))
    | @tup a xs ha hl hx =>
      refine ⟨_, rfl, _, .ty "tuple", _, _, _, rfl, .ty _, (Kd.tup ha).tyx, kd_tuple (.tup ha), _, rfl, ?_⟩
      have hT : SqT K H a xs := .inl (.inl ha)
      refine iteF ⟨_, rfl, a, xs, rfl, .inr hT, (xs.length : Int), 40, rfl, rfl, _, rfl, ite2 (fun e => ?_) fun e => ?_⟩
      · have z : fitsV xs = false := by
          unfold fitsV
          rw [decide_eq_false (by have := of_decide_eq_true e; omega), Bool.false_and]
        rw [z] at q
        exact q _ (Same.refl H)
      · have lt : xs.length < 40 := by
          have := of_decide_eq_false (eq_false_of_ne_true e)
          omega
        have z : fitsV xs = (okVs xs).all id := by
          unfold fitsV
          rw [decide_eq_true lt, Bool.true_and]
        refine ⟨_, rfl, a, rfl, ⟨_, hT⟩, ?_⟩
        refine for_tup (xs := xs) (fun i σ H' => H' = H ∧ ((okVs xs).take i).all id = true ∧ ∃ o, σ = [some (.ref a), some (.int (i : Nat)), o]) ⟨rfl, rfl, none, rfl⟩ (fun i σ H' _ p => by rw [p.1]; exact hT) (fun i x σ H' ex p => ?_) (fun σ H' p => ?_)
        · obtain ⟨rfl, al, o, rfl⟩ := p
          obtain ⟨m, km⟩ := hx x (List.mem_of_getElem? ex)
          have bad : okV 0 (i : Nat) x = false → Q (.bl false) H' := fun c => by
            have y := q H' (Same.refl H')
            rw [fitsV_no ex c] at y
            exact y
          refine ⟨x, rfl, x, .ty "int", _, _, _, rfl, .ty _, km.tyx, kd_int km, _, rfl, ?_⟩
          by_cases c1 : (isI x || isB x) = true
          · rw [c1]
            have kb : (∃ a, x = V.bl a) ∨ ∃ i, x = V.int i := by
              cases x <;> first | exact .inl ⟨_, rfl⟩ | exact .inr ⟨_, rfl⟩ | exact nomatch (show false = true from c1)
            refine iteF ⟨x, rfl, true, rfl, kb, _, rfl, ?_⟩
            rcases kb with ⟨b, rfl⟩ | ⟨j, rfl⟩
            · cases b with
              | true => exact iteT (iteT (bad rfl))
              | false => exact iteF ⟨_, rfl, false, rfl, .inl ⟨_, rfl⟩, _, rfl, iteT (iteT (bad rfl))⟩
            · refine iteF ⟨_, rfl, false, rfl, .inr ⟨_, rfl⟩, _, rfl, iteF ⟨_, rfl, j, 0, rfl, rfl, _, rfl, ite2 (fun e1 => iteT ?ca) fun e1 => ⟨_, rfl, _, rfl, j, (i : Nat), rfl, rfl, _, rfl, ite2 (fun e2 => ?cb) fun e2 => ?cc⟩⟩⟩
              case ca =>
                refine bad ?_
                show (decide (0 ≤ j) && decide (j ≤ ((i : Nat) : Int))) = false
                rw [decide_eq_false (by have := of_decide_eq_true e1; omega), Bool.false_and]
              case cb =>
                refine bad ?_
                show (decide (0 ≤ j) && decide (j ≤ ((i : Nat) : Int))) = false
                rw [decide_eq_false (show ¬ j ≤ ((i : Nat) : Int) by have := of_decide_eq_true e2; omega), Bool.and_false]
              case cc =>
                have g1 := of_decide_eq_false (eq_false_of_ne_true e1)
                have g2 := of_decide_eq_false (eq_false_of_ne_true e2)
                have ok1 : okV 0 (i : Nat) (.int j) = true := by
                  show (decide (0 ≤ j) && decide (j ≤ ((i : Nat) : Int))) = true
                  rw [decide_eq_true (by omega), decide_eq_true (by omega)]
                  rfl
                refine ⟨_, rfl, _, _, rfl, rfl, rfl, okVs_next ex al ok1, _, rfl⟩
          · have c2 := eq_false_of_ne_true c1
            rw [c2]
            refine iteT (iteT (bad ?_))
            cases x <;> first | rfl | exact nomatch (show true = false from c2)
        · obtain ⟨rfl, al, o, rfl⟩ := p
          rw [List.take_of_length_le (by rw [okVs_len]; omega)] at al
          rw [z, al] at q
          exact q _ (Same.refl _)
/-! ### check_plant, check_station, is_plant -/
def spIsPlant : Sp := spFits
theorem Tx.isPlant (T : Tx K mg) {k : Nat} : FnOk P w K mg base CX0 (k + 2) T.f_is_plant T.d_is_plant ["value"] spFits := by
  refine T.F_is_plant.ok scIsPlant (fun vs H Q E h => ?_) (fun cdv A outer s H vs Q E hr h => ?_)
  · obtain ⟨v, r, rfl, _⟩ := h
    rfl
  · obtain ⟨v, r, rfl, hf, q⟩ := h
    exact ⟨_, pss_one (ps_ret (pe_call T.fits hr (by rfl) T.g_fits_plant T.F_fits_plant.kp T.b_fits_plant .nil pass0 (pa_cons (pv 0) pa_nil))), v, rfl, v, r, rfl, hf, q⟩
def spCheckPlant : Sp := fun vs H Q _ => ∃ v, vs = [v] ∧ FitsIs H v true ∧ ∀ H', Same H H' → Q .non H'
theorem Tx.checkPlant (T : Tx K mg) {k : Nat} : FnOk P w K mg base CX0 (k + 2) T.f_check_plant T.d_check_plant ["plant"] spCheckPlant := by
  refine T.F_check_plant.ok scCheckPlant (fun vs H Q E h => ?_) (fun cdv A outer s H vs Q E hr h => ?_)
  · obtain ⟨v, rfl, _⟩ := h
    rfl
  · obtain ⟨v, rfl, hf, q⟩ := h
    refine ⟨_, pss_one (ps_if (pt_not (pt_val (pe_call T.fits hr (by rfl) T.g_fits_plant T.F_fits_plant.kp T.b_fits_plant .nil pass0 (pa_cons (pv 0) pa_nil)))) (pss_one ps_never) pss_nil), ?_⟩
    exact ⟨v, rfl, v, true, rfl, hf, fun H' sm => ⟨true, rfl, iteF (q H' sm)⟩⟩
def spFitsStation : Sp := fun vs H Q _ => ∃ (p : Addr) (xs : List V) (v : V) (n : String), vs = [.ref p, v] ∧ SqT K H p xs ∧ Kd H v n ∧ Q (.bl (okV 0 (xs.length : Nat) v)) H
theorem Tx.fitsStation (T : Tx K mg) {k : Nat} : FnOk P w K mg base CX0 (k + 2) T.f_fits_station T.d_fits_station ["plant", "value"] (spFitsStation (K := K)) := by
  refine T.F_fits_station.ok scFitsStation (fun vs H Q E h => ?_) (fun cdv A outer s H vs Q E hr h => ?_)
  · obtain ⟨p, xs, v, n, rfl, _⟩ := h
    rfl
  · obtain ⟨p, xs, v, n, rfl, hT, hk, q⟩ := h
    refine ⟨_, pss_one (ps_ret (pe_and (pe_call T.isInteger hr (by rfl) T.g_is_integer T.F_is_integer.kp T.b_is_integer .nil pass0 (pa_cons (pv 1) pa_nil)) (pe_one (pe_chain op_le op_le pe_int (pv 1) (pe_callB call_len_seq (by rfl) T.n_len PySem.boot_len (pa_cons (pv 0) pa_nil)))))), ?_⟩
    refine ⟨v, rfl, v, n, rfl, hk, _, rfl, ?_⟩
    refine ite2 (fun e => ?_) fun e => ?_
    · cases v with
      | int j =>
        refine ⟨_, rfl, 0, j, rfl, rfl, _, rfl, ite2 (fun e1 => ⟨_, rfl, p, xs, rfl, .inr hT, j, (xs.length : Nat), rfl, rfl, ?_⟩) fun e1 => ?_⟩
        · show Q (.bl (decide (j ≤ ((xs.length : Nat) : Int)))) H
          have e2 : okV 0 (xs.length : Nat) (.int j) = decide (j ≤ ((xs.length : Nat) : Int)) := by
            show (decide (0 ≤ j) && decide (j ≤ ((xs.length : Nat) : Int))) = _
            rw [e1, Bool.true_and]
          rw [← e2]
          exact q
        · show Q (.bl false) H
          have e2 : okV 0 (xs.length : Nat) (.int j) = false := by
            show (decide (0 ≤ j) && decide (j ≤ ((xs.length : Nat) : Int))) = _
            rw [eq_false_of_ne_true e1, Bool.false_and]
          rw [← e2]
          exact q
      | _ => simp [isI] at e
    · cases v with
      | int j => exact absurd rfl e
      | _ => exact q
def spCheckStation : Sp := fun vs H Q _ => ∃ (p : Addr) (xs : List V) (j : Int), vs = [.ref p, .int j] ∧ SqT K H p xs ∧ 0 ≤ j ∧ j ≤ xs.length ∧ Q .non H
theorem Tx.checkStation (T : Tx K mg) {k : Nat} : FnOk P w K mg base CX0 (k + 3) T.f_check_station T.d_check_station ["plant", "station"] (spCheckStation (K := K)) := by
  refine T.F_check_station.ok scCheckStation (fun vs H Q E h => ?_) (fun cdv A outer s H vs Q E hr h => ?_)
  · obtain ⟨p, xs, j, rfl, _⟩ := h
    rfl
  · obtain ⟨p, xs, j, rfl, hT, h0, h1, q⟩ := h
    refine ⟨_, pss_one (ps_if (pt_not (pt_val (pe_call T.fitsStation hr (by rfl) T.g_fits_station T.F_fits_station.kp T.b_fits_station .nil pass0 (pa_cons (pv 0) (pa_cons (pv 1) pa_nil))))) (pss_one ps_never) pss_nil), ?_⟩
    refine ⟨.ref p, rfl, .int j, rfl, p, xs, .int j, "int", rfl, hT, .int j, true, ?_, iteF q⟩
    show V.bl (decide (0 ≤ j) && decide (j ≤ ((xs.length : Nat) : Int))) = _
    rw [decide_eq_true h0, decide_eq_true h1]
    rfl
/-! ### fits_stock, check_stock, check_supplier, check_days -/
def spFitsStock : Sp := fun vs H Q _ => ∃ (p q : Addr) (xs : List V) (ss : List Int), vs = [.ref p, .ref q] ∧ SqT K H p xs ∧ H q = some (.tup (ss.map V.int)) ∧ ss.length = xs.length + 1 ∧ ss.length ≤ 100 ∧ ss.Nodup ∧ ∀ H', Same H H' → Q (.bl true) H'
def spCheckStock : Sp := spFitsStock (K := K)
def spCheckSupplier : Sp := fun vs H Q _ => ∃ (p : Addr) (pl : List Int) (v u : Nat), vs = [.ref p, .int (v : Int), .int (u : Int)] ∧ PlantAt H p pl ∧ 0 < u ∧ u ≤ pl.length ∧ cu pl u = v ∧ Q .non H
def spCheckDays : Sp := fun vs H Q _ => ∃ d lo hi : Int, vs = [.int d, .int lo, .int hi] ∧ lo ≤ d ∧ d ≤ hi ∧ Q .non H
end
end PT


set_option maxHeartbeats 4000000
/-! the lists of suppliers, the sizes -/
namespace PT
open PySem PySem.Spec PyProof.Rows L2

section
variable {P : Program} {w : World} {K : PySem.W.Frag} {mg : Str → Option Value} {base : Heap}
def spLists : Sp := fun vs H Q _ => ∃ p pl, vs = [.ref p] ∧ PlantAt H p pl ∧ ∀ H' l as, ListsAt H H' l as pl pl.length → Q (.ref l) H'
/-! ### the sizes -/
def spSizes : Sp := fun vs H Q _ => ∃ p pl, vs = [.ref p] ∧ PlantAt H p pl ∧ ∀ H' l, Same H H' → H l = none → H' l = some (.lst ((szs pl 0).map V.int)) → Q (.ref l) H'
end
end PT


set_option maxHeartbeats 4000000
/-! what the program tells of one station -/
namespace PT
open PySem PySem.Spec PyProof.Rows L2
section
variable {P : Program} {w : World} {K : PySem.W.Frag} {mg : Str → Option Value} {base : Heap}
/-! ### customer -/
def custV (pl : List Int) (j : Nat) : V := if j = 0 then .non else .int ((cu pl j : Nat) : Int)
def spCustomer : Sp := fun vs H Q _ => ∃ p pl j, vs = [.ref p, .int ((j : Nat) : Int)] ∧ PlantAt H p pl ∧ j ≤ pl.length ∧ ∀ H', Same H H' → Q (custV pl j) H'
theorem ok_customer (T : Tx K mg) : FnOk P w K mg base CX0 5 T.f_customer T.d_customer ["plant", "station"] spCustomer := by
  refine T.F_customer.ok scCustomer (fun vs H Q E h => ?_) (fun cdv A outer s H vs Q E hr h => ?_)
  · obtain ⟨p, pl, j, rfl, _⟩ := h
    rfl
  · obtain ⟨p, pl, j, rfl, hP, hj, q⟩ := h
    refine ⟨_, pss_cons (ps_expr (pe_call T.checkPlant hr (by rfl) T.g_check_plant T.F_check_plant.kp T.b_check_plant .nil pass0 (pa_cons (pv 0) pa_nil)))
      (pss_cons (ps_expr (pe_call T.checkStation hr (by rfl) T.g_check_station T.F_check_station.kp T.b_check_station .nil pass0 (pa_cons (pv 0) (pa_cons (pv 1) pa_nil))))
      (pss_cons (ps_if (pt_cmpR op_eq (pv 1) pe_int (nomark _)) (pss_one (ps_ret pe_non)) pss_nil)
      (pss_one (ps_ret (pe_ix ix_tup (pv 0) (pe_op op_sub (pv 1) pe_int) (fun _ _ => rfl)))))), ?_⟩
    refine ⟨.ref p, rfl, .ref p, rfl, hP.fits, fun H1 sm => ⟨.ref p, rfl, .int (j : Int), rfl, p, pl.map V.int, (j : Int), rfl, seqT sm hP.seq, by omega, by rw [List.length_map]; omega, ?_⟩⟩
    refine ⟨.int (j : Int), rfl, rfl, _, rfl, ite2 (fun e => ?_) fun e => ?_⟩
    · have e1 : (j : Int) = 0 := V.int.inj (of_decide_eq_true e)
      have z : custV pl j = .non := by
        unfold custV
        rw [if_pos (by omega)]
      have q2 := q H1 sm
      rw [z] at q2
      exact q2
    · have e1 : j ≠ 0 := fun z => by
        subst z
        exact e rfl
      have z : custV pl j = .int ((cu pl j : Nat) : Int) := by
        unfold custV
        rw [if_neg e1]
      have q2 := q H1 sm
      rw [z] at q2
      obtain ⟨m, rfl⟩ : ∃ m, j = m + 1 := ⟨j - 1, by omega⟩
      refine ⟨.ref p, rfl, .int ((m + 1 : Nat) : Int), rfl, _, 1, rfl, rfl, p, pl.map V.int, (m : Int), _, rfl, ?_, seqT sm hP.seq, atI_nat (by rw [List.getElem?_map, hP.ok.at (by omega)]; rfl), q2⟩
      exact congrArg V.int (by omega)
/-! ### suppliers -/
def spSuppliers : Sp := fun vs H Q _ => ∃ p pl j, vs = [.ref p, .int ((j : Nat) : Int)] ∧ PlantAt H p pl ∧ j ≤ pl.length ∧ ∀ H' a, Same H H' → H a = none → H' a = some (.lst ((sup pl pl.length j).map V.int)) → Q (.ref a) H'
theorem ok_suppliers (T : Tx K mg) : FnOk P w K mg base CX0 5 T.f_suppliers T.d_suppliers ["plant", "station"] spSuppliers := by
  refine T.F_suppliers.ok scSuppliers (fun vs H Q E h => ?_) (fun cdv A outer s H vs Q E hr h => ?_)
  · obtain ⟨p, pl, j, rfl, _⟩ := h
    rfl
  · obtain ⟨p, pl, j, rfl, hP, hj, q⟩ := h
    have nd := scSuppliers.nd
    have hlen := hP.ok.len
    refine ⟨_, pss_cons (ps_expr (pe_call T.checkPlant hr (by rfl) T.g_check_plant T.F_check_plant.kp T.b_check_plant .nil pass0 (pa_cons (pv 0) pa_nil)))
      (pss_cons (ps_expr (pe_call T.checkStation hr (by rfl) T.g_check_station T.F_check_station.kp T.b_check_station .nil pass0 (pa_cons (pv 0) (pa_cons (pv 1) pa_nil))))
      (pss_one (ps_ret (pe_lc (own := [("at", 2), ("above", 3)]) (g := gTup K 2 (gCons (gName 2) (gCons (gName 3) gNil))) (tt := tTest (tOp rEq (tVar 3) (tVar 1))) rfl nd
        (pi_F (by rfl) T.n_enumerate (pa_cons (pe_slice sl_tupG (pv 0) (po_some (pv 1)) po_none) (pa_cons (pe_op op_add (pv 1) pe_int) pa_nil)))
        (blkOk_by (N := ["plant", "station", "at", "above"]) (sc := defScope sSuppliers) (by decide +kernel)) (fun _ _ _ _ _ => pg_tup rfl (pgs_cons (pg_name (i := 2) nd rfl (.inl rfl)) (pgs_cons (pg_name (i := 3) nd rfl (.inl rfl)) pgs_nil)))
        (fun _ _ _ _ _ => pts_one (pt_cmpR op_eq (pv 3) (pv 1) (nomark _))) (fun _ _ _ _ _ => pv 2))))), ?_⟩
    refine ⟨.ref p, rfl, .ref p, rfl, hP.fits, fun H1 sm => ⟨.ref p, rfl, .int (j : Int), rfl, p, pl.map V.int, (j : Int), rfl, seqT sm hP.seq, by omega, by rw [List.length_map]; omega, ?_⟩⟩
    refine ⟨.ref p, rfl, .int (j : Int), rfl, (j : Int), rfl, p, pl.map V.int, rfl, (hP.same sm).at_, fun c H2 sm2 ec => ?_⟩
    rw [cut_from] at ec
    refine ⟨.int (j : Int), rfl, _, 1, rfl, rfl, c, (j : Int) + 1, (pl.drop j).map V.int, rfl, .inl (.inl ec), by omega, by omega, fun D nD => ?_⟩
    have s12 := sm.trans sm2
    have nHD : H D = none := s12.free nD
    refine lc_it (walk_F (xs := (pl.drop j).map V.int)) (fun i H' => Same H2 H' ∧ H' D = some (.lst ((sup pl (j + i) j).map V.int))) ⟨same_new nD, ?_⟩ (fun i H' _ p1 => .inl (.inl (p1.1 _ _ ec))) (fun i x G G' hi p1 y => ?_) (fun G p1 => ?_)
    · rw [upd_same, sup_low hP.ok j (j + 0) (Nat.le_refl _) hj]
      rfl
    · obtain ⟨sm3, eD⟩ := p1
      obtain ⟨T2, x1, x2, rfl, n2, rfl, f1, f2⟩ := y
      cases f1
      rw [List.length_map, List.length_drop] at hi
      obtain ⟨u, eu, rfl⟩ : ∃ u, pl[j + i]? = some u ∧ V.int u = x2 := by
        have z : ((pl.drop j).map V.int)[i]? = some x2 := f2
        rw [List.getElem?_map, List.getElem?_drop] at z
        cases q2 : pl[j + i]? with
        | none => rw [q2] at z; cases z
        | some u => rw [q2] at z; cases z; exact ⟨u, rfl, rfl⟩
      have sT : Same G (upd G T2 (.tup [.int ((j : Int) + 1 + (i : Nat)), .int u])) := same_new n2
      have eD2 := sT _ _ eD
      refine ⟨T2, [.int ((j : Int) + 1 + (i : Nat)), .int u], rfl, .inl (.inl upd_same), rfl, _, _, rfl, _, _, rfl, rfl, rfl, ?_⟩
      refine ⟨.int u, rfl, .int (j : Nat), rfl, rfl, _, rfl, ite2 (fun e => ?_) fun e => ?_⟩
      · have c : u = (j : Int) := V.int.inj (of_decide_eq_true e)
        refine ⟨_, rfl, _, eD2, ?_, fun b2 o hb => ?_, ?_⟩
        · rw [List.length_map]
          exact small300 (Nat.le_trans (sup_len pl (j + i) j) (by omega))
        · rw [upd_ne (ne_of_none hb nD)]
          exact sT _ _ (sm3 _ _ hb)
        · rw [upd_same, ← Nat.add_assoc, sup_step j eu, if_pos c, List.map_append, show (j : Int) + 1 + ((i : Nat) : Int) = ((j + i : Nat) : Int) + 1 by omega]
          rfl
      · have c : ¬ u = (j : Int) := fun z => e (decide_eq_true (congrArg V.int z))
        refine ⟨sm3.trans sT, ?_⟩
        rw [← Nat.add_assoc, sup_step j eu, if_neg c]
        exact eD2
    · obtain ⟨sm3, eD⟩ := p1
      rw [List.length_map, List.length_drop, show j + (pl.length - j) = pl.length by omega] at eD
      exact q G D (s12.trans sm3) nHD eD
/-! ### makers -/
def spMakers : Sp := fun vs H Q _ => ∃ p pl, vs = [.ref p] ∧ PlantAt H p pl ∧ ∀ H' a, Same H H' → H a = none → H' a = some (.lst ((mks pl (pl.length + 1)).map V.int)) → Q (.ref a) H'
theorem ok_makers (T : Tx K mg) : FnOk P w K mg base CX0 5 T.f_makers T.d_makers ["plant"] spMakers := by
  refine T.F_makers.ok scMakers (fun vs H Q E h => ?_) (fun cdv A outer s H vs Q E hr h => ?_)
  · obtain ⟨p, pl, rfl, _⟩ := h
    rfl
  · obtain ⟨p, pl, rfl, hP, q⟩ := h
    have nd := scMakers.nd
    have hlen := hP.ok.len
    refine ⟨_, pss_cons (ps_expr (pe_call T.checkPlant hr (by rfl) T.g_check_plant T.F_check_plant.kp T.b_check_plant .nil pass0 (pa_cons (pv 0) pa_nil)))
      (pss_cons (ps_set (i := 1) nd rfl (.inr rfl) (pe_callTy (cr_setT rfl) (by rfl) T.n_set (by decide +kernel) (pa_cons (pv 0) pa_nil)))
      (pss_one (ps_ret (pe_lc (own := [("station", 2)]) (g := gName 2) (tt := tTest (tOp (rSNotIn w) (tVar 2) (tVar 1))) rfl nd
        (pi_range1 rfl T.n_range (pa_cons (pe_op op_add (pe_callB call_len_seq (by rfl) T.n_len PySem.boot_len (pa_cons (pv 0) pa_nil)) pe_int) pa_nil))
        (blkOk_by (N := ["plant", "customers", "station"]) (sc := defScope sMakers) (by decide +kernel)) (fun _ _ _ _ _ => pg_name (i := 2) nd rfl (.inl rfl))
        (fun _ _ _ _ _ => pts_one (pt_cmpR or_snotin (pv 2) (pv 1) (by rfl))) (fun _ _ _ _ _ => pv 2))))), ?_⟩
    refine ⟨.ref p, rfl, .ref p, rfl, hP.fits, fun H1 sm => ⟨.ref p, rfl, p, pl, rfl, seqT sm hP.seq, by omega, fun c n nc => ?_⟩⟩
    refine ⟨.ref p, rfl, p, pl.map V.int, rfl, .inr (seqT (sm.trans (same_new nc)) hP.seq), _, 1, rfl, rfl, ((pl.length + 1 : Nat) : Int), ?_, by omega, by omega, ?_⟩
    · rw [List.length_map]
      rfl
    rw [Int.toNat_natCast]
    intro D nD
    have s2 : Same H1 (upd H1 c (SetO w c (fun j => decide (j ∈ pl)) n)) := same_new nc
    have nHD : H D = none := sm.free (s2.free nD)
    refine lc_range (lo := 0) (n := pl.length + 1) (fun i H' => Same (upd H1 c (SetO w c (fun j => decide (j ∈ pl)) n)) H' ∧ H' D = some (.lst ((mks pl i).map V.int))) ⟨same_new nD, upd_same⟩ (fun i H' hi p1 => ?_) (fun H' p1 => ?_)
    · obtain ⟨sm3, eD⟩ := p1
      have ec := sm3 _ _ (show upd H1 c (SetO w c (fun j => decide (j ∈ pl)) n) c = _ from upd_same)
      refine ⟨rfl, .int (0 + (i : Nat)), rfl, .ref c, rfl, 0 + (i : Nat), c, _, n, rfl, rfl, ec, _, rfl, ?_⟩
      rw [Int.zero_add]
      refine ite2 (fun e => ?_) fun e => ?_
      · have cc : ¬ ((i : Nat) : Int) ∈ pl := fun z => by
          rw [decide_eq_true z] at e
          exact absurd e (by decide)
        refine ⟨_, rfl, _, eD, ?_, fun b o hb => ?_, ?_⟩
        · rw [List.length_map]
          exact small300 (Nat.le_trans (mks_len pl i) (by omega))
        · rw [upd_ne (ne_of_none hb nD)]
          exact sm3 _ _ hb
        · rw [upd_same, mks_step, if_neg cc, List.map_append]
          rfl
      · have cc : ((i : Nat) : Int) ∈ pl := Decidable.of_not_not fun z => e (by rw [decide_eq_false z]; rfl)
        refine ⟨sm3, ?_⟩
        rw [mks_step, if_pos cc]
        exact eD
    · obtain ⟨sm3, eD⟩ := p1
      exact q H' D (sm.trans (s2.trans sm3)) nHD eD
/-! ### size -/
def spSize : Sp := fun vs H Q _ => ∃ p pl j, vs = [.ref p, .int ((j : Nat) : Int)] ∧ PlantAt H p pl ∧ j ≤ pl.length ∧ ∀ H', Same H H' → Q (.int ((sz pl j : Nat) : Int)) H'
theorem ok_size (T : Tx K mg) : FnOk P w K mg base CX0 5 T.f_size T.d_size ["plant", "station"] spSize := by
  refine T.F_size.ok scSize (fun vs H Q E h => ?_) (fun cdv A outer s H vs Q E hr h => ?_)
  · obtain ⟨p, pl, j, rfl, _⟩ := h
    rfl
  · obtain ⟨p, pl, j, rfl, hP, hj, q⟩ := h
    have nd := scSize.nd
    have hlen := hP.ok.len
    refine ⟨_, pss_cons (ps_expr (pe_call T.checkPlant hr (by rfl) T.g_check_plant T.F_check_plant.kp T.b_check_plant .nil pass0 (pa_cons (pv 0) pa_nil)))
      (pss_cons (ps_expr (pe_call T.checkStation hr (by rfl) T.g_check_station T.F_check_station.kp T.b_check_station .nil pass0 (pa_cons (pv 0) (pa_cons (pv 1) pa_nil))))
      (pss_cons (ps_set (i := 2) nd rfl (.inl rfl) (pe_op op_cat (pe_op op_rep (pe_lst (pa_cons pe_bl pa_nil)) (pv 1)) (pe_lst (pa_cons pe_bl pa_nil))))
      (pss_cons (ps_for PassesOwn.never rfl (pi_tup (pe_slice sl_tupG (pv 0) (po_some (pv 1)) po_none)) (pg_name (i := 3) nd rfl (.inl rfl))
        (pss_one (ps_expr (pe_bm PySem.F.plainAttrs_list PySem.F.slot_list_append PySem.F.type_list_append mt_append (pv 2) (pa_cons (pe_ix ix_list (pv 2) (pv 3) (fun _ _ => rfl)) pa_nil)))))
      (pss_one (ps_ret (pe_bm PySem.F.plainAttrs_list PySem.F.slot_list_count PySem.F.type_list_count mt_countB (pv 2) (pa_cons pe_bl pa_nil))))))), ?_⟩
    refine ⟨.ref p, rfl, .ref p, rfl, hP.fits, fun H1 sm => ⟨.ref p, rfl, .int (j : Int), rfl, p, pl.map V.int, (j : Int), rfl, seqT sm hP.seq, by omega, by rw [List.length_map]; omega, ?_⟩⟩
    refine ⟨(by show 1 ≤ sizeLine; decide), fun l1 n1 => ⟨.int (j : Int), rfl, l1, (j : Int), _, rfl, rfl, upd_same, by omega, by omega, ?_, fun l2 n2 => ⟨(by show 1 ≤ sizeLine; decide), fun l3 n3 => ?_⟩⟩⟩
    · rw [Int.toNat_natCast]
      exact Nat.le_of_lt (small300 (by show 1 * j ≤ 300; omega))
    have sa : Same H1 (upd H1 l1 (.lst [.bl false])) := same_new n1
    have sb := same_new (o := .lst (List.replicate (j : Int).toNat [V.bl false]).flatten) n2
    have sc := same_new (o := .lst [.bl true]) n3
    refine ⟨l2, l3, _, _, rfl, rfl, sc _ _ upd_same, upd_same, ?_, fun l n4 => ?_⟩
    · rw [rep_bls, List.length_map, List.length_replicate]
      exact Nat.le_of_lt (small300 (by show j + 1 ≤ 300; omega))
    have sd := same_new (o := .lst ((List.replicate (j : Int).toNat [V.bl false]).flatten ++ [.bl true])) n4
    have s5 : Same H1 _ := sa.trans (sb.trans (sc.trans sd))
    have nl : H1 l = none := sa.free (sb.free (sc.free n4))
    refine heap_cut (P := fun G => Same H1 G ∧ G l = some (.lst ((und pl j 0).map V.bl))) ⟨s5, ?_⟩ fun G pg => ?_
    · rw [upd_same, rep_bls, und_zero, List.map_append]
      rfl
    obtain ⟨sg, el⟩ := pg
    refine ⟨.ref p, rfl, .int (j : Int), rfl, (j : Int), rfl, p, pl.map V.int, rfl, sg _ _ (hP.same sm).at_, fun c H2 sm2 ec => ?_⟩
    rw [cut_from] at ec
    refine ⟨c, rfl, ⟨_, .inl (.inl ec)⟩, ?_⟩
    have ncl : c ≠ l := fun z => by
      have y := sm2 _ _ el
      rw [← z, ec] at y
      cases y
    refine for_tup (xs := (pl.drop j).map V.int) (fun i σ H' => ∃ o, σ = [some (.ref p), some (.int (j : Nat)), some (.ref l), o] ∧ Same H1 H' ∧ H' l = some (.lst ((und pl j i).map V.bl)) ∧ H' c = some (.tup ((pl.drop j).map V.int))) ⟨none, rfl, sg.trans sm2, sm2 _ _ el, ec⟩
      (fun i σ H' _ p1 => let ⟨_, _, _, _, e⟩ := p1; .inl (.inl e)) (fun i x σ H' ex p1 => ?_) (fun σ H' p1 => ?_)
    · obtain ⟨o, rfl, sh, eh, ech⟩ := p1
      have hi : i < pl.length - j := by
        have z := (List.getElem?_eq_some_iff.mp ex).1
        rw [List.length_map, List.length_drop] at z
        exact z
      have eu : x = .int ((cu pl (j + i + 1) : Nat) : Int) := by
        rw [List.getElem?_map, List.getElem?_drop, hP.ok.at (show j + i < pl.length by omega)] at ex
        exact (Option.some.inj ex).symm
      subst eu
      have hc := cu_lt pl (k := j + i + 1) (by omega)
      refine ⟨.ref l, rfl, .inl ⟨rfl, _, .inl (.inl eh)⟩, .ref l, rfl, .int ((cu pl (j + i + 1) : Nat) : Int), rfl, l, _, _, _, rfl, rfl, .inl (.inl eh), atI_nat (by rw [List.getElem?_map, und_at pl j (show cu pl (j + i + 1) < j + 1 + i by omega)]; rfl), l, _, _, rfl, rfl, eh, ?_, ?_⟩
      · rw [List.length_map, und_len]
        exact small300 (by omega)
      · refine ⟨_, rfl, fun b o2 hb => ?_, ?_, ?_⟩
        · rw [upd_ne (ne_of_none hb nl)]
          exact sh _ _ hb
        · rw [upd_same, und_step, List.map_append]
          rfl
        · rw [upd_ne ncl]
          exact ech
    · obtain ⟨o, rfl, sh, eh, ech⟩ := p1
      rw [List.length_map, List.length_drop] at eh
      refine ⟨.ref l, rfl, .inl ⟨rfl, _, .inl (.inl eh)⟩, l, _, true, rfl, rfl, .inl (.inl eh), ?_⟩
      rw [und_count pl hj]
      exact q H' (sm.trans sh)
/-! ### the way to the shop: the loop of path_to_shop and of the law's own walk -/
theorem path_turn {D : Ends} {H0 H : Hp} {p l : Addr} {pl : List Int} {j : Nat} {t1 t2 : TE} (hP : PlantAt H0 p pl) (hj : j ≤ pl.length) (nl : H0 l = none) (sm : Same H0 H) (el : H l = some (.lst [.int (j : Int)]))
    (fin : ∀ H', Same H0 H' → H' l = some (.lst ((path pl j).map fun k : Nat => V.int (k : Int))) → D.nx [some (.ref p), some (.int (j : Int)), some (.ref l)] H') :
    tWhile (tTest (tOp rNe (tOp (rIxL K) (tVar 2) (tUn (rU fun i => .int (-i)) (tC (.int 1)))) (tC (.int 0))))
      (tDrop (tBM K "list" rAppend (tVar 2) (tCons (tOp (rIxT K) (tVar 0) (tOp (rI0 fun i j => .int (i - j)) (tOp (rIxL K) (tVar 2) (tUn (rU fun i => .int (-i)) (tC (.int 1)))) (tC (.int 1)))) tNil))) D [some (.ref p), some (.int (j : Int)), some (.ref l)] H := by
  refine ⟨fun m σ H' => ∃ pre : List Nat, σ = [some (.ref p), some (.int (j : Int)), some (.ref l)] ∧ Same H0 H' ∧ H' l = some (.lst ((pre ++ [m]).map fun k : Nat => V.int (k : Int))) ∧ pre ++ path pl m = path pl j ∧ m ≤ pl.length ∧ pre.length + m ≤ j, ⟨j, [], rfl, sm, el, rfl, hj, Nat.le_of_eq (Nat.zero_add j)⟩, ?_⟩
  rintro m σ H' ⟨pre, rfl, sm1, e1, e2, hm, hb⟩
  have eg : atI ((pre ++ [m]).map fun k : Nat => V.int (k : Int)) (-1) = some (.int (m : Int)) := by
    rw [List.map_append]
    exact atI_last _ _
  refine ⟨.ref l, rfl, 1, rfl, l, _, -1, .int (m : Int), rfl, rfl, .inl (.inl e1), eg, rfl, _, rfl, ite2 (fun e => ?_) fun e => ?_⟩
  · have m0 : m ≠ 0 := fun z => by
      subst z
      exact absurd e (by decide)
    obtain ⟨k, rfl⟩ : ∃ k, m = k + 1 := ⟨m - 1, by omega⟩
    have c := cu_lt pl (k := k + 1) (by omega)
    refine ⟨fun σ' H2 => ∃ pre : List Nat, σ' = [some (.ref p), some (.int (j : Int)), some (.ref l)] ∧ Same H0 H2 ∧ H2 l = some (.lst ((pre ++ [cu pl (k + 1)]).map fun k : Nat => V.int (k : Int))) ∧ pre ++ path pl (cu pl (k + 1)) = path pl j ∧ cu pl (k + 1) ≤ pl.length ∧ pre.length + cu pl (k + 1) ≤ j, fun σ' H2 z => ⟨cu pl (k + 1), c, z⟩, ?_⟩
    refine ⟨.ref l, rfl, .inl ⟨rfl, _, .inl (.inl e1)⟩, .ref p, rfl, .ref l, rfl, 1, rfl, l, _, -1, .int ((k + 1 : Nat) : Int), rfl, rfl, .inl (.inl e1), eg, _, 1, rfl, rfl, p, pl.map V.int, (k : Int), .int ((cu pl (k + 1) : Nat) : Int), rfl, congrArg V.int (by omega), seqT sm1 hP.seq, atI_nat (by rw [List.getElem?_map, hP.ok.at (by omega)]; rfl), l, _, _, rfl, rfl, e1, ?_, ?_⟩
    · rw [List.length_map, List.length_append]
      have := hP.ok.len
      exact small300 (by show pre.length + 1 ≤ 300; omega)
    · refine ⟨pre ++ [k + 1], rfl, fun b o hb2 => ?_, ?_, ?_, by omega, ?_⟩
      · rw [upd_ne (ne_of_none hb2 nl)]
        exact sm1 _ _ hb2
      · rw [upd_same]
        exact congrArg (fun z => some (HO.lst z)) (by simp)
      · rw [List.append_assoc, ← e2, path_pos pl (k := k + 1) (by omega)]
        rfl
      · rw [List.length_append]
        show pre.length + 1 + cu pl (k + 1) ≤ j
        omega
  · have m0 : m = 0 := by
      by_cases z : m = 0
      · exact z
      · refine absurd ?_ e
        show (!decide (V.int (m : Int) = V.int 0)) = true
        rw [decide_eq_false (fun y => z (by have := V.int.inj y; omega))]
        rfl
    subst m0
    rw [path_zero] at e2
    rw [e2] at e1
    exact fin H' sm1 e1
def spPath : Sp := fun vs H Q _ => ∃ p pl j, vs = [.ref p, .int ((j : Nat) : Int)] ∧ PlantAt H p pl ∧ j ≤ pl.length ∧ ∀ H' a, Same H H' → H a = none → H' a = some (.lst ((path pl j).map fun k : Nat => V.int (k : Int))) → Q (.ref a) H'
/-- the station that the loop of path_up stands at: none behind the shop -/
def stV : Option Nat → V
  | none => .non
  | some k => .int ((k : Nat) : Int)
def restP (pl : List Int) : Option Nat → List Nat
  | none => []
  | some k => path pl k
def nextP (pl : List Int) (k : Nat) : Option Nat := if k = 0 then none else some (cu pl k)
theorem rest_next (pl : List Int) (k : Nat) : path pl k = k :: restP pl (nextP pl k) := by
  unfold nextP
  by_cases h : k = 0
  · subst h
    rw [if_pos rfl, path_zero]
    rfl
  · rw [if_neg h, path_pos pl (by omega)]
    rfl
theorem ok_pathUp (T : Tx K mg) {k : Nat} : FnOk P w K mg base CX0 (k + 1) T.f_path_up T.d_path_up ["plant", "station"] spPath := by
  refine T.F_path_up.ok scPathUp (fun vs H Q E h => ?_) (fun cdv A outer s H vs Q E hr h => ?_)
  · obtain ⟨p, pl, j, rfl, _⟩ := h
    rfl
  · obtain ⟨p, pl, j, rfl, hP, hj, q⟩ := h
    have nd := scPathUp.nd
    have hlen := hP.ok.len
    refine ⟨_, pss_cons (ps_set (i := 2) nd rfl (.inl rfl) (pe_op op_catG (pe_tup (pa_cons pe_non pa_nil)) (pv 0)))
      (pss_cons (ps_set (i := 3) nd rfl (.inl rfl) (pe_lst pa_nil))
      (pss_cons (ps_while PassesOwn.never (pt_cmpR op_notN (pv 1) pe_non (nomark _))
        (pss_cons (ps_expr (pe_bm PySem.F.plainAttrs_list PySem.F.slot_list_append PySem.F.type_list_append mt_append (pv 3) (pa_cons (pv 1) pa_nil)))
        (pss_one (ps_set (i := 1) nd rfl (.inl rfl) (pe_ix ix_tup (pv 2) (pv 1) (fun _ _ => rfl))))))
      (pss_one (ps_ret (pv 3))))), ?_⟩
    refine ⟨(by show 1 ≤ sizeLine; decide), fun t0 nt0 => ⟨.ref p, rfl, t0, p, [.non], pl.map V.int, rfl, rfl, upd_same, upd_at hP.at_ nt0, ?_, fun c H1 sm1 ec => ?_⟩⟩
    · rw [List.length_map]
      show 1 + pl.length ≤ 1000
      omega
    have s1 : Same H H1 := (same_new nt0).trans sm1
    refine ⟨Nat.zero_le _, fun l nl => ?_⟩
    have s2 : Same H1 (upd H1 l (.lst [])) := same_new nl
    have nHl : H l = none := s1.free nl
    refine ⟨fun m σ H' => ∃ (st : Option Nat) (pre : List Nat), σ = [some (.ref p), some (stV st), some (.ref c), some (.ref l)] ∧ Same H H' ∧ H' l = some (.lst (pre.map fun k : Nat => V.int (k : Int))) ∧ H' c = some (.tup (.non :: pl.map V.int)) ∧ pre ++ restP pl st = path pl j ∧ (∀ k, st = some k → k ≤ pl.length ∧ pre.length + k ≤ j) ∧ m = (match st with | none => 0 | some k => k + 1),
      ⟨j + 1, some j, [], rfl, s1.trans s2, upd_same, s2 _ _ ec, rfl, fun k e => by cases e; exact ⟨hj, by show 0 + j ≤ j; omega⟩, rfl⟩, ?_⟩
    rintro m σ H' ⟨st, pre, rfl, sm, el, ech, ep, hk, rfl⟩
    cases st with
    | none =>
      refine ⟨.non, rfl, rfl, _, rfl, iteF ?_⟩
      have ep2 : pre = path pl j := by
        rw [← ep]
        exact (List.append_nil _).symm
      rw [ep2] at el
      exact ⟨.ref l, rfl, q H' l sm nHl el⟩
    | some k =>
      obtain ⟨hk1, hk2⟩ := hk k rfl
      refine ⟨.int (k : Nat), rfl, rfl, _, rfl, iteT ?_⟩
      have hlp : l ≠ c := fun z => by
        rw [z, ech] at el
        cases el
      refine ⟨fun σ' H2 => ∃ (pre2 : List Nat), σ' = [some (.ref p), some (stV (nextP pl k)), some (.ref c), some (.ref l)] ∧ Same H H2 ∧ H2 l = some (.lst (pre2.map fun k : Nat => V.int (k : Int))) ∧ H2 c = some (.tup (.non :: pl.map V.int)) ∧ pre2 ++ restP pl (nextP pl k) = path pl j ∧ pre2.length = pre.length + 1, fun σ' H2 z => ?_, ?_⟩
      · obtain ⟨pre2, e1, e2, e3, e4, e5, e6⟩ := z
        refine ⟨_, ?_, nextP pl k, pre2, e1, e2, e3, e4, e5, fun k2 ek => ?_, rfl⟩
        · unfold nextP
          by_cases h : k = 0
          · rw [if_pos h]
            show 0 < k + 1
            omega
          · rw [if_neg h]
            have := cu_lt pl (k := k) (by omega)
            show cu pl k + 1 < k + 1
            omega
        · unfold nextP at ek
          by_cases h : k = 0
          · rw [if_pos h] at ek
            cases ek
          · rw [if_neg h] at ek
            cases ek
            have := cu_lt pl (k := k) (by omega)
            exact ⟨by omega, by omega⟩
      · refine ⟨.ref l, rfl, .inl ⟨rfl, _, .inl (.inl el)⟩, .int (k : Nat), rfl, l, _, _, rfl, rfl, el, ?_, ?_⟩
        · rw [List.length_map]
          exact small300 (by omega)
        have sm2 : Same H (upd H' l (.lst ((pre.map fun k : Nat => V.int (k : Int)) ++ [.int (k : Nat)]))) := fun b o hb => by
          rw [upd_ne (ne_of_none hb nHl)]
          exact sm _ _ hb
        have ec2 : (upd H' l (.lst ((pre.map fun k : Nat => V.int (k : Int)) ++ [.int (k : Nat)]))) c = some (.tup (.non :: pl.map V.int)) := by
          rw [upd_ne (Ne.symm hlp)]
          exact ech
        have ev : (V.non :: pl.map V.int)[k]? = some (stV (nextP pl k)) := by
          unfold nextP
          cases k with
          | zero => rfl
          | succ k =>
            rw [if_neg (by omega), List.getElem?_cons_succ, List.getElem?_map, hP.ok.at (show k < pl.length by omega)]
            rfl
        refine ⟨.ref c, rfl, .int (k : Nat), rfl, c, _, (k : Nat), _, rfl, rfl, .inl (.inl ec2), atI_nat ev, pre ++ [k], rfl, sm2, ?_, ec2, ?_, ?_⟩
        · rw [upd_same, List.map_append]
          rfl
        · rw [List.append_assoc, ← ep]
          show pre ++ (k :: restP pl (nextP pl k)) = pre ++ restP pl (some k)
          rw [← rest_next]
          rfl
        · rw [List.length_append]
          rfl
theorem ok_path (T : Tx K mg) : FnOk P w K mg base CX0 5 T.f_path_to_shop T.d_path_to_shop ["plant", "station"] spPath := by
  refine T.F_path_to_shop.ok scPathToShop (fun vs H Q E h => ?_) (fun cdv A outer s H vs Q E hr h => ?_)
  · obtain ⟨p, pl, j, rfl, _⟩ := h
    rfl
  · obtain ⟨p, pl, j, rfl, hP, hj, q⟩ := h
    refine ⟨_, pss_cons (ps_expr (pe_call T.checkPlant hr (by rfl) T.g_check_plant T.F_check_plant.kp T.b_check_plant .nil pass0 (pa_cons (pv 0) pa_nil)))
      (pss_cons (ps_expr (pe_call T.checkStation hr (by rfl) T.g_check_station T.F_check_station.kp T.b_check_station .nil pass0 (pa_cons (pv 0) (pa_cons (pv 1) pa_nil))))
      (pss_one (ps_ret (pe_call (ok_pathUp T) hr (by rfl) T.g_path_up T.F_path_up.kp T.b_path_up .nil pass0 (pa_cons (pv 0) (pa_cons (pv 1) pa_nil)))))), ?_⟩
    refine ⟨.ref p, rfl, .ref p, rfl, hP.fits, fun H1 sm => ⟨.ref p, rfl, .int (j : Int), rfl, p, pl.map V.int, (j : Int), rfl, seqT sm hP.seq, by omega, by rw [List.length_map]; omega, ?_⟩⟩
    exact ⟨.ref p, rfl, .int (j : Int), rfl, p, pl, j, rfl, hP.same sm, hj, fun H2 a sm2 na ea => q H2 a (sm.trans sm2) (sm.free na) ea⟩
theorem ok_lawPath (T : Tx K mg) : FnOk P w K mg base CX0 1 T.f__law_path T.d__law_path ["plant", "station"] spPath := by
  refine T.F__law_path.ok scLawPath (fun vs H Q E h => ?_) (fun cdv A outer s H vs Q E hr h => ?_)
  · obtain ⟨p, pl, j, rfl, _⟩ := h
    rfl
  · obtain ⟨p, pl, j, rfl, hP, hj, q⟩ := h
    refine ⟨_, pss_cons (ps_set (i := 2) scLawPath.nd rfl (.inl rfl) (pe_lst (pa_cons (pv 1) pa_nil)))
      (pss_cons (ps_while PassesOwn.never (pt_cmpR op_ne (pe_ix ix_list (pv 2) (pe_un un_neg pe_int) (fun _ _ => rfl)) pe_int (nomark _))
        (pss_one (ps_expr (pe_bm PySem.F.plainAttrs_list PySem.F.slot_list_append PySem.F.type_list_append mt_append (pv 2) (pa_cons (pe_ix ix_tup (pv 0) (pe_op op_sub (pe_ix ix_list (pv 2) (pe_un un_neg pe_int) (fun _ _ => rfl)) pe_int) (fun _ _ => rfl)) pa_nil)))))
      (pss_one (ps_ret (pv 2)))), ?_⟩
    refine ⟨.int (j : Int), rfl, (by show 1 ≤ sizeLine; decide), fun l nl => ?_⟩
    exact path_turn (K := K) (t1 := tC .non) (t2 := tC .non) hP hj nl (same_new nl) upd_same fun H' sm2 e => ⟨.ref l, rfl, q H' l sm2 nl e⟩
end
end PT


set_option maxHeartbeats 4000000
/-! the law's own check of a plant (law 1) -/
namespace PT
open PySem PySem.Spec PyProof.Rows L2
section
variable {P : Program} {w : World} {K : PySem.W.Frag} {mg : Str → Option Value} {base : Heap}
/-! ### the law's own check of a plant -/
theorem okVs_all {xs : List V} : (okVs xs).all id = true ↔ ∀ (i : Nat) (x : V), xs[i]? = some x → okV 0 (i : Nat) x = true := by
  rw [List.all_eq_true]
  constructor
  · intro h i x e
    exact h _ (List.mem_of_getElem? (okVs_at e))
  · intro h b hb
    obtain ⟨i, hi⟩ := List.getElem?_of_mem hb
    have hl : i < xs.length := by
      have := (List.getElem?_eq_some_iff.mp hi).1
      rw [okVs_len] at this
      exact this
    have e : xs[i]? = some xs[i] := List.getElem?_eq_getElem hl
    rw [okVs_at e] at hi
    cases hi
    exact h i _ e
theorem ok_due (T : Tx K mg) : FnOk P w K mg base CX0 1 T.f__law_due T.d__law_due ["value"] spFits := by
  refine T.F__law_due.ok scLawDue (fun vs H Q E h => ?_) (fun cdv A outer s H vs Q E hr h => ?_)
  · obtain ⟨v, r, rfl, _⟩ := h
    rfl
  · obtain ⟨v, r, rfl, hf, q⟩ := h
    have nd := scLawDue.nd
    refine ⟨_, pss_cons (ps_if (PW.pt (pw_or (pt_not (pt_val (pe_callB call_isi (by rfl) T.n_isinstance (by decide +kernel) (pa_cons (pv 0) (pa_cons (pe_bltn (v := .ty "tuple") (by rfl) T.n_tuple (by decide +kernel) rfl) pa_nil)))))
        (pw_or1 (pt_cmpR op_gt (pe_callB call_len_seq (by rfl) T.n_len PySem.boot_len (pa_cons (pv 0) pa_nil)) pe_int (nomark _)))))
        (pss_one (ps_ret pe_bl)) pss_nil)
      (pss_cons (ps_for PassesOwn.never rfl (pi_E (by rfl) T.n_enumerate (pa_cons (pv 0) pa_nil))
        (pg_tup rfl (pgs_cons (pg_name (i := 1) nd rfl (.inl rfl)) (pgs_cons (pg_name (i := 2) nd rfl (.inl rfl)) pgs_nil)))
        (pss_one (ps_if (PW.pt (pw_or (pt_not (pt_val (pe_callB call_isi (by rfl) T.n_isinstance (by decide +kernel) (pa_cons (pv 2) (pa_cons (pe_bltn (v := .ty "int") (by rfl) T.n_int (by decide +kernel) rfl) pa_nil)))))
          (pw_or (pt_val (pe_callB call_isi (by rfl) T.n_isinstance (by decide +kernel) (pa_cons (pv 2) (pa_cons (pe_bltn (v := .ty "bool") (by rfl) T.n_bool (by decide +kernel) rfl) pa_nil))))
          (pw_or1 (pt_not (pt_chain op_le op_le pe_int (pv 2) (pv 1)))))))
          (pss_one (ps_ret pe_bl)) pss_nil)))
      (pss_one (ps_ret pe_bl))), ?_⟩
    cases hf with
    | no hk hn =>
      refine ⟨_, rfl, _, .ty "tuple", _, _, _, rfl, .ty _, hk.tyx, kd_tuple hk, _, rfl, ?_⟩
      rw [show (_ == "tuple") = false from beq_eq_false_iff_ne.mpr hn]
      exact iteT (iteT (q _ (Same.refl H)))
    | @tup a xs ha hl hx =>
      refine ⟨_, rfl, _, .ty "tuple", _, _, _, rfl, .ty _, (Kd.tup ha).tyx, kd_tuple (.tup ha), _, rfl, ?_⟩
      have hT : SqT K H a xs := .inl (.inl ha)
      refine iteF ⟨_, rfl, a, xs, rfl, .inr hT, (xs.length : Int), 39, rfl, rfl, _, rfl, ite2 (fun e => ?_) fun e => ?_⟩
      · have z : fitsV xs = false := by
          unfold fitsV
          rw [decide_eq_false (by have := of_decide_eq_true e; omega), Bool.false_and]
        rw [z] at q
        exact q _ (Same.refl H)
      · have lt : xs.length < 40 := by
          have := of_decide_eq_false (eq_false_of_ne_true e)
          omega
        have z : fitsV xs = (okVs xs).all id := by
          unfold fitsV
          rw [decide_eq_true lt, Bool.true_and]
        refine ⟨.ref a, rfl, a, xs, rfl, hT, ?_⟩
        refine for_it (walk_E (xs := xs)) (fun i σ H' => ∃ y1 y2, σ = [some (.ref a), y1, y2] ∧ Same H H' ∧ ∀ (k : Nat) (x : V), k < i → xs[k]? = some x → okV 0 (k : Nat) x = true) ⟨none, none, rfl, Same.refl H, fun _ _ h => absurd h (by omega)⟩ (fun i σ H' _ p1 => ?_) (fun i x σ H1 H2 hi p1 y => ?_) (fun σ H' p1 => ?_)
        · obtain ⟨y1, y2, _, sm, _⟩ := p1
          exact seqT sm hT
        · obtain ⟨y1, y2, rfl, sm, pre⟩ := p1
          obtain ⟨Tt, x1, x2, rfl, nT, rfl, e1, e2⟩ := y
          cases e1
          have sT : Same H1 (upd H1 Tt (.tup [.int (i : Nat), x2])) := same_new nT
          obtain ⟨n, km⟩ := hx x2 (List.mem_of_getElem? e2)
          have km2 := km.same (sm.trans sT)
          have no : okV 0 (i : Nat) x2 ≠ true → Q (.bl false) (upd H1 Tt (.tup [.int (i : Nat), x2])) := fun c => by
            have zz : fitsV xs = false := by
              rw [z]
              exact eq_false_of_ne_true fun y => c (okVs_all.mp y i x2 e2)
            rw [zz] at q
            exact q _ (sm.trans sT)
          refine ⟨Tt, [.int (i : Nat), x2], rfl, .inl (.inl upd_same), rfl, _, _, rfl, _, _, rfl, rfl, ?_⟩
          refine ⟨x2, rfl, x2, .ty "int", _, _, _, rfl, .ty _, km2.tyx, kd_int km2, _, rfl, ?_⟩
          refine ite2 (fun c1 => ?_) fun c1 => ?_
          · refine iteT (no ?_)
            cases x2 <;> simp_all [okV, isI, isB]
          · refine ⟨x2, rfl, x2, .ty "bool", _, _, _, rfl, .ty _, km2.tyx, kd_bool km2, _, rfl, ?_⟩
            refine ite2 (fun c2 => ?_) fun c2 => ?_
            · refine iteT (no ?_)
              cases x2 <;> simp_all [okV, isI, isB]
            · have ci : isI x2 = true := by
                cases x2 <;> simp_all [isI, isB]
              cases x2 with
              | int j =>
                refine ⟨_, rfl, 0, j, rfl, rfl, _, rfl, ite2 (fun c3 => ?_) fun c3 => ?_⟩
                · refine ⟨_, rfl, j, (i : Nat), rfl, rfl, _, rfl, ?_⟩
                  refine ite2 (fun c4 => no ?_) fun c4 => ?_
                  · show ¬ (decide (0 ≤ j) && decide (j ≤ ((i : Nat) : Int))) = true
                    simp_all
                  · refine ⟨_, _, rfl, sm.trans sT, fun k x hk e3 => ?_⟩
                    by_cases c5 : k < i
                    · exact pre k x c5 e3
                    · have : k = i := by omega
                      subst this
                      have e4 : some x = some (V.int j) := e3.symm.trans e2
                      cases e4
                      show (decide (0 ≤ j) && decide (j ≤ ((k : Nat) : Int))) = true
                      simp_all
                · refine ⟨_, rfl, iteT (no ?_)⟩
                  intro y
                  have y2 : (decide (0 ≤ j) && decide (j ≤ ((i : Nat) : Int))) = true := y
                  rw [Bool.and_eq_true] at y2
                  exact c3 y2.1
              | _ => simp [isI] at ci
        · obtain ⟨y1, y2, rfl, sm, pre⟩ := p1
          have zz : fitsV xs = true := by
            rw [z]
            exact okVs_all.mpr fun k x e => pre k x (List.getElem?_eq_some_iff.mp e).1 e
          rw [zz] at q
          exact q _ sm
end
end PT




set_option maxHeartbeats 4000000
/-! values of other kinds, as the law makes them of a plant -/
namespace PT
open PySem PySem.Spec PyProof.Rows L2

/-! ### what is known of such a value -/
structure Good (K : PySem.W.Frag) (H : Hp) (v : V) : Prop where
  fi : ∃ r, FitsIs H v r
  sh : ∃ d W, Rp K H v d ∧ Nice W 50 d ∧ W ≤ 270000
theorem FitsIs.same {H H' : Hp} (e : Same H H') {v : V} {r : Bool} (h : FitsIs H v r) : FitsIs H' v r := by
  cases h with
  | no a b => exact .no (a.same e) b
  | tup a b c => exact .tup (e _ _ a) b fun x hx => let ⟨m, q⟩ := c x hx; ⟨m, q.same e⟩
theorem Good.same {K : PySem.W.Frag} {H H' : Hp} (e : Same H H') {v : V} (h : Good K H v) : Good K H' v :=
  ⟨let ⟨r, q⟩ := h.fi; ⟨r, q.same e⟩, let ⟨d, W, q, n, z⟩ := h.sh; ⟨d, W, rp_same e q, n, z⟩⟩
/-- a value that may stand in a tuple among ints -/
structure Odd (K : PySem.W.Frag) (H : Hp) (v : V) (d : PyData) : Prop where
  kd : ∃ n, Kd H v n
  da : Dp K H v d ∨ Si H v d
  nc : Nice 170 1 d
theorem Odd.same {K : PySem.W.Frag} {H H' : Hp} (e : Same H H') {v : V} {d : PyData} (h : Odd K H v d) : Odd K H' v d :=
  ⟨let ⟨n, q⟩ := h.kd; ⟨n, q.same e⟩, h.da.imp (dp_same e d v) (si_same e), h.nc⟩
def Small (ns : List Int) : Prop := ∀ n ∈ ns, n.natAbs < 10 ^ 50
theorem small_of {ns : List Int} (h : ∀ n ∈ ns, 0 ≤ n ∧ n ≤ 300) : Small ns := fun n hn => by
  have := h n hn
  have z : n.natAbs ≤ 300 := by omega
  exact Nat.lt_of_le_of_lt z (by decide)
theorem dps_append {K : PySem.W.Frag} {H : Hp} : ∀ {xs ys : List V} {ds es : List PyData}, DpAll K H xs ds → DpAll K H ys es → DpAll K H (xs ++ ys) (ds ++ es)
  | _, _, _, _, .nil, h => h
  | _, _, _, _, .cons a b, h => .cons a (dps_append b h)
theorem sis_ints {H : Hp} : ∀ ns : List Int, Paired (Si H) (ns.map V.int) (ns.map PyData.int)
  | [] => .nil
  | n :: ns => .cons (.int n) (sis_ints ns)
theorem sis_append {H : Hp} : ∀ {xs ys : List V} {ds es : List PyData}, Paired (Si H) xs ds → Paired (Si H) ys es → Paired (Si H) (xs ++ ys) (ds ++ es)
  | _, _, _, _, .nil, h => h
  | _, _, _, _, .cons a b, h => .cons a (sis_append b h)
theorem kd_ints {H : Hp} {ns : List Int} : ∀ x ∈ ns.map V.int, ∃ m, Kd H x m := fun x hx => by
  obtain ⟨n, _, rfl⟩ := List.mem_map.mp hx
  exact ⟨_, .int n⟩
theorem good_odd {K : PySem.W.Frag} {H : Hp} {v : V} {d : PyData} (h : Odd K H v d) (nt : ∀ n, Kd H v n → n = "tuple" → ∃ a, v = .ref a ∧ H a = some (.tup [])) : Good K H v := by
  obtain ⟨n, k⟩ := h.kd
  refine ⟨?_, d, 170, ?_, h.nc.mono, by decide⟩
  · by_cases c : n = "tuple"
    · obtain ⟨a, rfl, e⟩ := nt n k c
      exact ⟨_, .tup e (Nat.zero_le _) fun x hx => absurd hx (by simp)⟩
    · exact ⟨_, .no k c⟩
  · rcases h.da with q | q
    · exact .dp q
    · cases q with
      | dic e => exact .dic e
      | non => exact .dp .non
      | bl b => exact .dp (.bl b)
      | int i => exact .dp (.int i)
      | str x => exact .dp (.str x)
/-- a tuple of ints with one odd value in it -/
theorem good_mid {K : PySem.W.Frag} {H : Hp} {a : Addr} {n1 n2 : List Int} {v : V} {d : PyData} (e : H a = some (.tup (n1.map V.int ++ v :: n2.map V.int))) (ho : Odd K H v d) (s1 : Small n1) (s2 : Small n2) (hl : n1.length + n2.length ≤ 100) : Good K H (.ref a) := by
  refine ⟨⟨_, .tup e (by rw [List.length_append, List.length_cons, List.length_map, List.length_map]; omega) fun x hx => ?_⟩, .tuple (n1.map PyData.int ++ d :: n2.map PyData.int), 300 * (170 + 1), ?_, ?_, by decide⟩
  · rcases List.mem_append.mp hx with z | z
    · exact kd_ints x z
    · rcases List.mem_cons.mp z with z | z
      · rw [z]
        exact ho.kd
      · exact kd_ints x z
  · rcases ho.da with q | q
    · exact .dp (.tup (.inl (.inl e)) (dps_append (dp_ints n1) (.cons q (dp_ints n2))))
    · exact .tup (.inl (.inl e)) (sis_append (sis_ints n1) (.cons q (sis_ints n2)))
  · refine (nice_tup (L := 300) (W := 170) (k := 1) (fun x hx => ?_) ?_).mono (by decide) (by decide)
    · rcases List.mem_append.mp hx with z | z
      · exact (nice_ints s1 x z).mono (by decide) (by decide)
      · rcases List.mem_cons.mp z with z | z
        · rw [z]
          exact ho.nc
        · exact (nice_ints s2 x z).mono (by decide) (by decide)
    · rw [List.length_append, List.length_cons, List.length_map, List.length_map]
      omega
theorem good_ints {K : PySem.W.Frag} {H : Hp} {a : Addr} {ns : List Int} (e : H a = some (.tup (ns.map V.int))) (s : Small ns) (hl : ns.length ≤ 300) : Good K H (.ref a) :=
  ⟨⟨_, .tup e (by rw [List.length_map]; exact hl) kd_ints⟩, .tuple (ns.map PyData.int), 300 * (170 + 1), .dp (.tup (.inl (.inl e)) (dp_ints ns)), (nice_tup (L := 300) (nice_ints s) (by rw [List.length_map]; exact hl)).mono (by decide) (by decide), by decide⟩
theorem good_list {K : PySem.W.Frag} {H : Hp} {a : Addr} {ns : List Int} (e : H a = some (.lst (ns.map V.int))) (s : Small ns) (hl : ns.length ≤ 300) : Good K H (.ref a) :=
  ⟨⟨_, .no (.lst e) (by decide)⟩, .list (ns.map PyData.int), 300 * (170 + 1), .dp (.lst (.inl (.inl e)) (dp_ints ns)), (nice_lst (L := 300) (nice_ints s) (by rw [List.length_map]; exact hl)).mono (by decide) (by decide), by decide⟩
theorem good_in {K : PySem.W.Frag} {H : Hp} {a p : Addr} {ns : List Int} (e : H a = some (.tup [.ref p])) (ep : H p = some (.tup (ns.map V.int))) (s : Small ns) (hl : ns.length ≤ 40) : Good K H (.ref a) := by
  refine ⟨⟨_, .tup e (by show 1 ≤ 300; decide) fun x hx => ⟨"tuple", by rw [List.mem_singleton.mp hx]; exact .tup ep⟩⟩, .tuple [.tuple (ns.map PyData.int)], 1 * (40 * (170 + 1) + 1), .dp (.tup (.inl (.inl e)) (.cons (.tup (.inl (.inl ep)) (dp_ints ns)) .nil)), ?_, by decide⟩
  refine (nice_tup (L := 1) (W := 40 * (170 + 1)) (k := 1) (fun x hx => ?_) (Nat.le_refl _)).mono (by decide) (by decide)
  rw [List.mem_singleton.mp hx]
  exact nice_tup (nice_ints s) (by rw [List.length_map]; exact hl)
theorem good_none {K : PySem.W.Frag} {H : Hp} : Good K H .non := ⟨⟨_, .no .non (by decide)⟩, _, 0, .dp .non, nice_none.mono (by decide) (by decide), by decide⟩
theorem good_dict {K : PySem.W.Frag} {H : Hp} {a : Addr} (e : H a = some (.dK [])) : Good K H (.ref a) := ⟨⟨_, .no (.dic e) (by decide)⟩, .dict [], 0, .dic e, ⟨rfl, by decide, rfl, by decide⟩, by decide⟩
theorem good_str {K : PySem.W.Frag} {H : Hp} {x : Str} (h : x.cps.size ≤ 170) (hc : ∀ c ∈ x.cps.toList, c < 16 ^ 8) : Good K H (.str x) := ⟨⟨_, .no (.str x) (by decide)⟩, _, 170, .dp (.str x), (nice_str h hc).mono (by decide) (by decide), by decide⟩

/-! ### the twelve odd values -/
theorem nice_leaf {d : PyData} (h1 : d.showable = true) (h2 : d.depth ≤ 1) (h3 : d.leavesShort 60 = true) (h4 : d.weight ≤ 170) : Nice 170 1 d := ⟨h1, h2, h3, h4⟩
theorem odd_int {K : PySem.W.Frag} {H : Hp} {i : Int} (h : i.natAbs < 10 ^ 50) : Odd K H (.int i) (.int i) := ⟨⟨_, .int i⟩, .inl (.int i), (nice_int h).mono (by decide) (by decide)⟩
theorem odd_non {K : PySem.W.Frag} {H : Hp} : Odd K H .non .none := ⟨⟨_, .non⟩, .inl .non, nice_none.mono (by decide) (by decide)⟩
theorem odd_bl {K : PySem.W.Frag} {H : Hp} {b : Bool} : Odd K H (.bl b) (.bool b) := ⟨⟨_, .bl b⟩, .inl (.bl b), (nice_bl b).mono (by decide) (by decide)⟩
theorem odd_str {K : PySem.W.Frag} {H : Hp} {x : Str} (h : x.cps.size ≤ 170) (hc : ∀ c ∈ x.cps.toList, c < 16 ^ 8) : Odd K H (.str x) (.str x) := ⟨⟨_, .str x⟩, .inl (.str x), (nice_str h hc).mono (by decide) (by decide)⟩
theorem odd_tup {K : PySem.W.Frag} {H : Hp} {a : Addr} (e : H a = some (.tup [])) : Odd K H (.ref a) (.tuple []) := ⟨⟨_, .tup e⟩, .inl (.tup (.inl (.inl e)) .nil), ⟨rfl, by decide, rfl, by decide⟩⟩
theorem odd_lst {K : PySem.W.Frag} {H : Hp} {a : Addr} (e : H a = some (.lst [])) : Odd K H (.ref a) (.list []) := ⟨⟨_, .lst e⟩, .inl (.lst (.inl (.inl e)) .nil), ⟨rfl, by decide, rfl, by decide⟩⟩
theorem odd_dic {K : PySem.W.Frag} {H : Hp} {a : Addr} (e : H a = some (.dK [])) : Odd K H (.ref a) (.dict []) := ⟨⟨_, .dic e⟩, .inr (.dic e), ⟨rfl, by decide, rfl, by decide⟩⟩

end PT


set_option maxHeartbeats 4000000
/-! the law's other values -/
namespace PT
open PySem PySem.Spec PyProof.Rows L2
def zeroT : Str := "0"
inductive Od (H : Hp) : V → Prop
  | non : Od H .non
  | bl (b : Bool) : Od H (.bl b)
  | int {i : Int} : i.natAbs < 10 ^ 50 → Od H (.int i)
  | str : Od H (.str zeroT)
  | tup {a : Addr} : H a = some (.tup []) → Od H (.ref a)
  | lst {a : Addr} : H a = some (.lst []) → Od H (.ref a)
  | dic {a : Addr} : H a = some (.dK []) → Od H (.ref a)
theorem Od.same {H H' : Hp} (e : Same H H') {v : V} (h : Od H v) : Od H' v := by
  cases h with
  | non => exact .non
  | bl b => exact .bl b
  | int i => exact .int i
  | str => exact .str
  | tup q => exact .tup (e _ _ q)
  | lst q => exact .lst (e _ _ q)
  | dic q => exact .dic (e _ _ q)
theorem zero_ok : zeroT.cps.size ≤ 170 ∧ ∀ c ∈ zeroT.cps.toList, c < 16 ^ 8 := ⟨by decide, by decide⟩
theorem Od.odd {K : PySem.W.Frag} {H : Hp} {v : V} (h : Od H v) : ∃ d, Odd K H v d := by
  cases h with
  | non => exact ⟨_, odd_non⟩
  | bl b => exact ⟨_, odd_bl⟩
  | int i => exact ⟨_, odd_int i⟩
  | str => exact ⟨_, odd_str zero_ok.1 zero_ok.2⟩
  | tup q => exact ⟨_, odd_tup q⟩
  | lst q => exact ⟨_, odd_lst q⟩
  | dic q => exact ⟨_, odd_dic q⟩
theorem Od.good {K : PySem.W.Frag} {H : Hp} {v : V} (h : Od H v) : Good K H v := by
  cases h with
  | non => exact good_none
  | bl b => exact ⟨⟨_, .no (.bl b) (by decide)⟩, _, 0, .dp (.bl b), (nice_bl b).mono (by decide) (by decide), by decide⟩
  | int i => exact ⟨⟨_, .no (.int _) (by decide)⟩, _, 170, .dp (.int _), (nice_int i).mono (by decide) (by decide), by decide⟩
  | str => exact good_str zero_ok.1 zero_ok.2
  | tup q => exact good_ints (ns := []) q (fun _ z => absurd z (by simp)) (Nat.zero_le _)
  | lst q => exact good_list (ns := []) q (fun _ z => absurd z (by simp)) (Nat.zero_le _)
  | dic q => exact good_dict q
def Goods (K : PySem.W.Frag) (H : Hp) (vs : List V) : Prop := ∀ v ∈ vs, Good K H v
theorem Goods.same {K : PySem.W.Frag} {H H' : Hp} (e : Same H H') {vs : List V} (h : Goods K H vs) : Goods K H' vs := fun v hv => (h v hv).same e
theorem goods_nil {K : PySem.W.Frag} {H : Hp} : Goods K H [] := fun _ h => absurd h (by simp)
theorem Goods.add {K : PySem.W.Frag} {H : Hp} {vs : List V} {v : V} (h : Goods K H vs) (g : Good K H v) : Goods K H (vs ++ [v]) := fun u hu => by
  rcases List.mem_append.mp hu with z | z
  · exact h u z
  · rw [List.mem_singleton.mp z]
    exact g
theorem Goods.app {K : PySem.W.Frag} {H : Hp} {vs ws : List V} (h : Goods K H vs) (g : Goods K H ws) : Goods K H (vs ++ ws) := fun u hu => (List.mem_append.mp hu).elim (h u) (g u)
theorem twelve_at {u0 u1 u2 u3 u4 u5 u6 u7 u8 u9 u10 u11 : V} {H : Hp} {r : Int} (h0 : 0 ≤ r) (h5 : r < 12) (g : ∀ v ∈ [u0, u1, u2, u3, u4, u5, u6, u7, u8, u9, u10, u11], Od H v) : ∃ v, atI [u0, u1, u2, u3, u4, u5, u6, u7, u8, u9, u10, u11] r = some v ∧ Od H v := by
  obtain ⟨n, rfl⟩ : ∃ n : Nat, r = (n : Int) := ⟨r.toNat, by omega⟩
  have hn : n < [u0, u1, u2, u3, u4, u5, u6, u7, u8, u9, u10, u11].length := by
    show n < 12
    omega
  exact ⟨_, atI_nat (List.getElem?_eq_getElem hn), g _ (List.getElem_mem hn)⟩
theorem Od.bar {H H' : Hp} {b : Addr} (e : Bar b H H') (hb : BagAt H b) {v : V} (h : Od H v) : Od H' v := by
  obtain ⟨x, y, z, q⟩ := hb
  cases h with
  | non => exact .non
  | bl b => exact .bl b
  | int i => exact .int i
  | str => exact .str
  | tup r => exact .tup (e _ _ (ne_of r q (by intro w; cases w)) r)
  | lst r => exact .lst (e _ _ (ne_of r q (by intro w; cases w)) r)
  | dic r => exact .dic (e _ _ (ne_of r q (by intro w; cases w)) r)
theorem joins_ok : ∀ n : Fin 41, (Txt.join ("" : Str) (List.replicate n.val zeroT)).cps.size ≤ 170 ∧ ((Txt.join ("" : Str) (List.replicate n.val zeroT)).cps.toList.all fun c => decide (c < 16 ^ 8)) = true := by decide +kernel
theorem good_join {K : PySem.W.Frag} {H : Hp} {n : Nat} (h : n ≤ 40) : Good K H (.str (Txt.join ("" : Str) (List.replicate n zeroT))) := by
  obtain ⟨a, b⟩ := joins_ok ⟨n, by omega⟩
  exact good_str a fun c hc => of_decide_eq_true (List.all_eq_true.mp b c hc)
theorem rep_flat : ∀ n : Nat, (List.replicate n [V.int 0]).flatten = (List.replicate n (0 : Int)).map V.int
  | 0 => rfl
  | n + 1 => by
    rw [List.replicate_succ, List.replicate_succ, List.flatten_cons, rep_flat n]
    rfl
theorem rg_ints (n : Nat) : rgV 0 (n : Int) = ((List.range n).map fun i : Nat => (i : Int)).map V.int := by
  unfold rgV
  rw [List.map_map]
  have e : ((n : Int) - 0).toNat = n := by omega
  rw [e]
  exact List.map_congr_left fun i _ => congrArg V.int (Int.zero_add _)
theorem small_rg (n : Nat) (h : n ≤ 300) : Small ((List.range n).map fun i : Nat => (i : Int)) := small_of fun k hk => by
  obtain ⟨i, hi, rfl⟩ := List.mem_map.mp hk
  have := List.mem_range.mp hi
  omega
theorem small_rep (n : Nat) : Small (List.replicate n 0) := fun k hk => by
  rw [List.eq_of_mem_replicate hk]
  decide
theorem Plant.small {pl : List Int} (h : Plant pl) : Small pl := small_of fun k hk => by
  obtain ⟨i, hi⟩ := List.getElem?_of_mem hk
  have a := h.ok i k hi
  have b := (List.getElem?_eq_some_iff.mp hi).1
  have c := h.len
  omega
theorem Small.take {ns : List Int} (h : Small ns) (i : Nat) : Small (ns.take i) := fun n hn => h n (List.mem_of_mem_take hn)
theorem Small.drop {ns : List Int} (h : Small ns) (i : Nat) : Small (ns.drop i) := fun n hn => h n (List.mem_of_mem_drop hn)
theorem Small.rev {ns : List Int} (h : Small ns) : Small ns.reverse := fun n hn => h n (List.mem_reverse.mp hn)
theorem Small.app {ns ms : List Int} (h : Small ns) (g : Small ms) : Small (ns ++ ms) := fun n hn => (List.mem_append.mp hn).elim (h n) (g n)
theorem goods_one {K : PySem.W.Frag} {H : Hp} {v : V} (g : Good K H v) : Goods K H [v] := fun u hu => by
  rw [List.mem_singleton.mp hu]
  exact g
theorem rep_good {K : PySem.W.Frag} {H : Hp} {a : Addr} (n : Nat) (h : n ≤ 300) (e : H a = some (.tup (List.replicate (Int.toNat (n : Int)) [V.int 0]).flatten)) : Good K H (.ref a) := by
  rw [Int.toNat_natCast, rep_flat] at e
  exact good_ints e (small_rep n) (by rw [List.length_replicate]; exact h)
theorem rg_good {K : PySem.W.Frag} {H : Hp} {a : Addr} (n : Nat) (h : n ≤ 300) (e : H a = some (.tup (rgV 0 (n : Int)))) : Good K H (.ref a) := by
  rw [rg_ints] at e
  exact good_ints e (small_rg n h) (by rw [List.length_map, List.length_range]; exact h)
section
variable {P : Program} {w : World} {K : PySem.W.Frag} {mg : Str → Option Value} {base : Heap}
def spOthers (K : PySem.W.Frag) : Sp := fun vs H Q _ => ∃ b p pl, vs = [.ref b, .ref p] ∧ BagAt H b ∧ PlantAt H p pl ∧ ∀ H' l us, BagAt H' b → Bar b H H' → H l = none → H' l = some (.lst us) → us.length ≤ 100 → Goods K H' us → Q (.ref l) H'
theorem ok_others (T : Tx K mg) : FnOk P w K mg base CX0 2 T.f__law_others T.d__law_others ["bag", "plant"] (spOthers K) := by
  refine T.F__law_others.ok scLawOthers (fun vs H Q E h => ?_) (fun cdv A outer s H vs Q E hr h => ?_)
  · obtain ⟨b, p, pl, rfl, _⟩ := h
    rfl
  · obtain ⟨b, p, pl, rfl, hb, hP, q⟩ := h
    have nd := scLawOthers.nd
    have hlen := hP.ok.len
    have hpb : p ≠ b := fun e => by
      obtain ⟨x, y, z, e2⟩ := hb
      have e1 := hP.at_
      rw [e, e2] at e1
      cases e1
    refine ⟨_, (pss_cons (ps_set (i := 2) nd rfl (.inl rfl) (pe_call (ok_pick T) hr (by rfl) T.g__law_pick T.F__law_pick.kp T.b__law_pick .nil pass0 (pa_cons (pv 0) (pa_cons (pe_op op_add (pe_callB call_len_seq (by rfl) T.n_len PySem.boot_len (pa_cons (pv 1) pa_nil)) pe_int) pa_nil)))) (pss_cons (ps_set (i := 3) nd rfl (.inl rfl) (pe_ix ix_list (pe_lst (pa_cons pe_non (pa_cons pe_bl (pa_cons pe_bl (pa_cons (pe_un un_neg pe_int) (pa_cons (pe_callB call_len_seq (by rfl) T.n_len PySem.boot_len (pa_cons (pv 1) pa_nil)) (pa_cons (pe_op op_add (pe_callB call_len_seq (by rfl) T.n_len PySem.boot_len (pa_cons (pv 1) pa_nil)) pe_int) (pa_cons pe_str (pa_cons (pe_tup pa_nil) (pa_cons (pe_lst pa_nil) (pa_cons pe_dnewK (pa_cons (pe_op op_pow pe_int pe_int) (pa_cons pe_int pa_nil))))))))))))) (pe_call (ok_pick T) hr (by rfl) T.g__law_pick T.F__law_pick.kp T.b__law_pick .nil pass0 (pa_cons (pv 0) (pa_cons pe_int pa_nil))) (fun _ _ => rfl))) (pss_cons (ps_set (i := 4) nd rfl (.inl rfl) (pe_lst (pa_cons (pe_op op_catG (pe_op op_catG (pe_slice sl_tupG (pv 1) po_none (po_some (pv 2))) (pe_tup (pa_cons (pv 3) pa_nil))) (pe_slice sl_tupG (pv 1) (po_some (pv 2)) po_none)) (pa_cons (pe_op op_catG (pe_op op_catG (pe_slice sl_tupG (pv 1) po_none (po_some (pv 2))) (pe_tup (pa_cons (pv 3) pa_nil))) (pe_slice sl_tupG (pv 1) (po_some (pe_op op_add (pv 2) pe_int)) po_none)) (pa_cons (pe_callTy call_list_of (by rfl) T.n_list (by decide +kernel) (pa_cons (pv 1) pa_nil)) (pa_cons (pe_revT (pv 1)) (pa_cons (pv 3) pa_nil))))))) (pss_cons (ps_set (i := 4) nd rfl (.inl rfl) (pe_op op_cat (pv 4) (pe_lst (pa_cons (pe_op op_catG (pe_slice sl_tupG (pv 1) po_none (po_some (pv 2))) (pe_slice sl_tupG (pv 1) (po_some (pe_op op_add (pv 2) pe_int)) po_none)) (pa_cons (pe_tup (pa_cons (pv 1) pa_nil)) (pa_cons pe_dnewK (pa_cons pe_non (pa_cons (pe_join pe_str (pe_lc (own := [("one", 5)]) (g := gName 5) (tt := tYes) rfl nd (pi_tup (pv 1)) (blkOk_by (N := ["bag", "plant", "at", "odd", "some", "one"]) (sc := defScope sLawOthers) (by decide +kernel)) (fun _ _ _ _ _ => pg_name (i := 5) nd rfl (Or.inl rfl)) (fun _ _ _ _ _ => pts_nil) (fun _ _ _ _ _ => pe_str))) pa_nil)))))))) (pss_one (ps_ret (pe_op op_cat (pv 4) (pe_lst (pa_cons (pe_op op_repT (pe_tup (pa_cons pe_int pa_nil)) pe_int) (pa_cons (pe_op op_repT (pe_tup (pa_cons pe_int pa_nil)) pe_int) (pa_cons (pe_tupRg rfl (by rfl) T.n_tuple (prg_1 (by rfl) T.n_range pe_int)) (pa_cons (pe_tupRg rfl (by rfl) T.n_tuple (prg_1 (by rfl) T.n_range pe_int)) (pa_cons (pe_tup (pa_cons pe_int pa_nil)) (pa_cons (pe_tup (pa_cons pe_int (pa_cons pe_int pa_nil))) (pa_cons (pe_tup (pa_cons pe_int (pa_cons pe_bl pa_nil))) (pa_cons (pe_op op_repT (pe_tup (pa_cons pe_int pa_nil)) pe_int) pa_nil)))))))))))))))), ?_⟩
    have hT : SqT K H p (pl.map V.int) := hP.seq
    have el : ((pl.map V.int).length : Int) + 1 = (pl.length : Int) + 1 := by rw [List.length_map]
    -- at
    refine ⟨.ref b, rfl, .ref p, rfl, p, _, rfl, .inr hT, _, 1, rfl, rfl, b, (pl.length : Int) + 1, congrArg (fun z => [V.ref b, V.int z]) el, by omega, by omega, hb, fun r x y z h0 h1 => ?_⟩
    have B1 : Bar b H (upd H b (.lst [.int x, .int y, .int z])) := bar_upd
    have K1 : BagAt (upd H b (.lst [.int x, .int y, .int z])) b := bag_upd
    have P1 : PlantAt (upd H b (.lst [.int x, .int y, .int z])) p pl := hP.bar B1 hb
    revert B1 K1 P1
    generalize upd H b (.lst [.int x, .int y, .int z]) = H1
    intro B1 K1 P1
    obtain ⟨at_, rfl⟩ : ∃ n : Nat, r = (n : Int) := ⟨r.toNat, by omega⟩
    -- odd
    refine ⟨1, rfl, .ref p, rfl, p, _, rfl, .inr P1.seq, .ref p, rfl, p, _, rfl, .inr P1.seq, _, 1, rfl, rfl, Nat.zero_le _, fun a1 n1 => ⟨Nat.zero_le _, fun a2 n2 => fun a3 n3 => ⟨10, 20, rfl, rfl, ⟨by decide, by decide, by decide⟩, (by show 12 ≤ sizeLine; decide), fun t nt => ?_⟩⟩⟩
    have S1 : Same H1 (upd H1 a1 (.tup [])) := same_new n1
    have S2 : Same (upd H1 a1 (.tup [])) (upd (upd H1 a1 (.tup [])) a2 (.lst [])) := same_new n2
    have S3 : Same (upd (upd H1 a1 (.tup [])) a2 (.lst [])) (upd (upd (upd H1 a1 (.tup [])) a2 (.lst [])) a3 (.dK [])) := same_new n3
    have e1 : (upd (upd (upd H1 a1 (.tup [])) a2 (.lst [])) a3 (.dK [])) a1 = some (.tup []) := S3 _ _ (S2 _ _ upd_same)
    have e2 : (upd (upd (upd H1 a1 (.tup [])) a2 (.lst [])) a3 (.dK [])) a2 = some (.lst []) := S3 _ _ upd_same
    have e3 : (upd (upd (upd H1 a1 (.tup [])) a2 (.lst [])) a3 (.dK [])) a3 = some (.dK []) := upd_same
    have S4 := (S1.trans S2).trans S3
    revert S4 e1 e2 e3 nt
    generalize upd (upd (upd H1 a1 (.tup [])) a2 (.lst [])) a3 (.dK []) = H2
    intro nt e1 e2 e3 S4
    have odds : ∀ v ∈ [V.non, V.bl true, V.bl false, V.int (-1), V.int ((pl.map V.int).length : Int), V.int (((pl.map V.int).length : Int) + 1), V.str zeroT, V.ref a1, V.ref a2, V.ref a3, V.int (10 ^ 20), V.int 40], Od H2 v := by
      have hl2 : (pl.map V.int).length ≤ 39 := by rw [List.length_map]; exact hlen
      intro v hv
      simp only [List.mem_cons, List.not_mem_nil, or_false] at hv
      rcases hv with rfl | rfl | rfl | rfl | rfl | rfl | rfl | rfl | rfl | rfl | rfl | rfl
      · exact .non
      · exact .bl _
      · exact .bl _
      · exact .int (by decide)
      · exact .int (Nat.lt_of_le_of_lt (show _ ≤ 40 by omega) (by decide))
      · exact .int (Nat.lt_of_le_of_lt (show _ ≤ 40 by omega) (by decide))
      · exact .str
      · exact .tup e1
      · exact .lst e2
      · exact .dic e3
      · exact .int (by decide)
      · exact .int (by decide)
    have K2 : BagAt H2 b := K1.same S4
    refine ⟨.ref b, rfl, b, 12, rfl, by decide, by decide, K2.same (same_new nt), fun r2 x2 y2 z2 g0 g1 => ?_⟩
    obtain ⟨v, ev, ov⟩ := twelve_at g0 g1 odds
    have htb : t ≠ b := fun e => by
      obtain ⟨x5, y5, z5, q5⟩ := K2
      rw [e, q5] at nt
      cases nt
    refine ⟨t, _, r2, v, rfl, rfl, .inl (.inl (by rw [upd_ne htb]; exact upd_same)), ev, ?_⟩
    refine heap_cut (P := fun G => Bar b H G ∧ BagAt G b ∧ PlantAt G p pl ∧ Od G v) ?_ ?_
    · have B4 : ∀ us, Bar b H2 (upd (upd H2 t (.lst us)) b (.lst [.int x2, .int y2, .int z2])) := fun us => Bar.trans (Same.bar (same_new nt)) bar_upd
      exact ⟨B1.trans ((Same.bar S4).trans (B4 _)), bag_upd, hP.bar (B1.trans ((Same.bar S4).trans (B4 _))) hb, ov.bar (B4 _) K2⟩
    rintro G0 ⟨B5, K5, P5, O5⟩
    have pS := hP.ok.small
    have hat : at_ ≤ pl.length := by omega
    have len3 : ∀ (us ws : List Int) (u : List V), us.length ≤ 100 → ws.length ≤ 100 → u.length ≤ 100 → (us.map V.int ++ u).length + (ws.map V.int).length ≤ 1000 := fun us ws u h1 h2 h3 => by
      rw [List.length_append, List.length_map, List.length_map]
      omega
    have lt : (pl.take at_).length ≤ 100 := by rw [List.length_take]; omega
    have ld : ∀ i, (pl.drop i).length ≤ 100 := fun i => by rw [List.length_drop]; omega
    obtain ⟨od, hod⟩ := O5.odd (K := K)
    -- some = [..]: plant[:at] + (odd,) + plant[at:]
    refine ⟨.ref p, rfl, .int (at_ : Int), rfl, (at_ : Int), rfl, p, _, rfl, P5.at_, fun c1 G1 s1 e1 => ⟨v, rfl, (by show 1 ≤ sizeLine; decide), fun t2 n2 => ⟨c1, t2, _, _, rfl, rfl, upd_at e1 n2, upd_same, ?_, fun c2 G2 s2 e2 => ⟨.ref p, rfl, .int (at_ : Int), rfl, (at_ : Int), rfl, p, _, rfl, s2 _ _ (upd_at (s1 _ _ P5.at_) n2), fun c3 G3 s3 e3 => ⟨c2, c3, _, _, rfl, rfl, s3 _ _ e2, e3, ?_, fun c4 G4 s4 e4 => ?_⟩⟩⟩⟩⟩
    · rw [cut_to, List.length_map]
      show _ + 1 ≤ 1000
      omega
    · rw [cut_to, cut_from]
      exact len3 _ _ _ lt (ld _) (by show 1 ≤ 100; decide)
    rw [cut_to, cut_from, List.append_assoc] at e4
    have sA : Same G0 G4 := s1.trans ((same_new n2).trans (s2.trans (s3.trans s4)))
    have gA : Goods K G4 [.ref c4] := Goods.add (vs := []) goods_nil (good_mid e4 (hod.same sA) (pS.take _) (pS.drop _) (by rw [List.length_take, List.length_drop]; omega))
    clear e1 e2 e3 s1 s2 s3 s4 n2 c1 c2 c3 t2 G1 G2 G3
    -- plant[:at] + (odd,) + plant[at + 1:]
    have ea1 : (at_ : Int) + 1 = ((at_ + 1 : Nat) : Int) := by omega
    have P6 := P5.same sA
    refine ⟨.ref p, rfl, .int (at_ : Int), rfl, (at_ : Int), rfl, p, _, rfl, P6.at_, fun c1 G1 s1 e1 => ⟨v, rfl, (by show 1 ≤ sizeLine; decide), fun t2 n2 => ⟨c1, t2, _, _, rfl, rfl, upd_at e1 n2, upd_same, ?_, fun c2 G2 s2 e2 => ⟨.ref p, rfl, .int (at_ : Int), rfl, _, 1, rfl, rfl, (at_ : Int) + 1, rfl, p, _, rfl, s2 _ _ (upd_at (s1 _ _ P6.at_) n2), fun c3 G3 s3 e3 => ⟨c2, c3, _, _, rfl, rfl, s3 _ _ e2, e3, ?_, fun c5 G5 s5 e5 => ?_⟩⟩⟩⟩⟩
    · rw [cut_to, List.length_map]
      show _ + 1 ≤ 1000
      omega
    · rw [cut_to, ea1, cut_from]
      exact len3 _ _ _ lt (ld _) (by show 1 ≤ 100; decide)
    rw [cut_to, ea1, cut_from, List.append_assoc] at e5
    have sB : Same G4 G5 := s1.trans ((same_new n2).trans (s2.trans (s3.trans s5)))
    have gB : Goods K G5 [.ref c4, .ref c5] := (gA.same sB).add (good_mid e5 ((hod.same sA).same sB) (pS.take _) (pS.drop _) (by rw [List.length_take, List.length_drop]; omega))
    clear e1 e2 e3 s1 s2 s3 s5 n2 c1 c2 c3 t2 G1 G2 G3
    -- list(plant), plant[::-1], odd
    have P7 := P6.same sB
    refine ⟨.ref p, rfl, p, _, rfl, .inr P7.seq, fun c6 n6 => ⟨.ref p, rfl, p, _, rfl, seqT (same_new n6) P7.seq, fun c7 n7 => ⟨v, rfl, (by show 5 ≤ sizeLine; decide), fun L nL => ?_⟩⟩⟩
    have sC : Same G5 (upd G5 c6 (.lst (pl.map V.int))) := same_new n6
    have gC := (gB.same sC).add (good_list (K := K) upd_same pS (by omega))
    have sD : Same (upd G5 c6 (.lst (pl.map V.int))) (upd (upd G5 c6 (.lst (pl.map V.int))) c7 (.tup (pl.map V.int).reverse)) := same_new n7
    have gD := (gC.same sD).add (good_ints (K := K) (ns := pl.reverse) (by rw [upd_same, List.map_reverse]) pS.rev (by rw [List.length_reverse]; omega))
    have s0 : Same G0 (upd (upd G5 c6 (.lst (pl.map V.int))) c7 (.tup (pl.map V.int).reverse)) := sA.trans (sB.trans (sC.trans sD))
    have gE := gD.add ((O5.same s0).good (K := K))
    clear gA gB gC gD
    refine heap_cut (P := fun G => Bar b H G ∧ BagAt G b ∧ PlantAt G p pl ∧ ∃ us, G L = some (.lst us) ∧ us.length = 5 ∧ Goods K G us) ?_ ?_
    · have sL : Same G0 _ := s0.trans (same_new (o := .lst [.ref c4, .ref c5, .ref c6, .ref c7, v]) nL)
      exact ⟨B5.trans (Same.bar sL), K5.same sL, P5.same sL, _, upd_same, rfl, gE.same (same_new nL)⟩
    clear gE s0 nL sC sD n6 n7 sA sB e4 e5 P6 P7 O5 hod P5 K5 B5
    rintro H4 ⟨B6, K6, P6, us, eL, lu, gU⟩
    -- some + [plant[:at] + plant[at + 1:], (plant,), {}, None, join]
    refine ⟨.ref L, rfl, .ref p, rfl, .int (at_ : Int), rfl, (at_ : Int), rfl, p, _, rfl, P6.at_, fun c1 G1 s1 e1 => ⟨.ref p, rfl, .int (at_ : Int), rfl, _, 1, rfl, rfl, (at_ : Int) + 1, rfl, p, _, rfl, s1 _ _ P6.at_, fun c3 G3 s3 e3 => ⟨c1, c3, _, _, rfl, rfl, s3 _ _ e1, e3, ?_, fun c8 G8 s8 e8 => ?_⟩⟩⟩
    · rw [cut_to, ea1, cut_from, List.length_map, List.length_map]
      have := ld (at_ + 1)
      omega
    rw [cut_to, ea1, cut_from, ← List.map_append] at e8
    have sA : Same H4 G8 := s1.trans (s3.trans s8)
    have gA : Goods K G8 [.ref c8] := Goods.add (vs := []) goods_nil (good_ints e8 ((pS.take _).app (pS.drop _)) (by have := ld (at_ + 1); rw [List.length_append]; omega))
    clear e1 e3 s1 s3 s8 c1 c3 G1 G3
    have P7 := P6.same sA
    refine ⟨.ref p, rfl, (by show 1 ≤ sizeLine; decide), fun c9 n9 => fun c10 n10 => ⟨⟨_, rfl⟩, .ref p, rfl, p, rfl, ⟨_, (P7.same ((same_new n9).trans (same_new n10))).seq⟩, fun D nD => ?_⟩⟩
    have gB : Goods K (upd G8 c9 (.tup [.ref p])) [.ref c8, .ref c9] := (gA.same (same_new n9)).add (good_in upd_same ((P7.same (same_new n9)).at_) pS (by omega))
    have gC : Goods K (upd (upd G8 c9 (.tup [.ref p])) c10 (.dK [])) [.ref c8, .ref c9, .ref c10] := (gB.same (same_new n10)).add (good_dict upd_same)
    have gD : Goods K (upd (upd G8 c9 (.tup [.ref p])) c10 (.dK [])) [.ref c8, .ref c9, .ref c10, .non] := gC.add good_none
    have s9 : Same H4 (upd (upd G8 c9 (.tup [.ref p])) c10 (.dK [])) := sA.trans ((same_new n9).trans (same_new n10))
    refine lc_it (walk_tup (xs := pl.map V.int)) (fun i H' => Same (upd (upd G8 c9 (.tup [.ref p])) c10 (.dK [])) H' ∧ H' D = some (.lst ((List.replicate i zeroT).map V.str))) ⟨same_new nD, upd_same⟩ (fun i H' _ p1 => seqT (s9.trans p1.1) P6.seq) (fun i x H5 H6 hi p1 y => ?_) (fun H' p1 => ?_)
    · obtain ⟨sm, eD⟩ := p1
      obtain ⟨rfl, _⟩ := y
      rw [List.length_map] at hi
      refine ⟨rfl, tyes_if ⟨_, eD, ?_, fun c o hc => ?_, ?_⟩⟩
      · rw [List.length_map, List.length_replicate]
        exact small300 (by omega)
      · rw [upd_ne (ne_of_none hc nD)]
        exact sm _ _ hc
      · rw [upd_same, List.replicate_succ', List.map_append]
        rfl
    obtain ⟨sm, eD⟩ := p1
    rw [List.length_map] at eD
    refine ⟨_, D, List.replicate pl.length zeroT, rfl, rfl, .inl (.inl (.inl eD)), ?_, (by show 5 ≤ sizeLine; decide), fun L5 n5 => ⟨L, L5, us, _, rfl, rfl, upd_at ((s9.trans sm) _ _ eL) n5, upd_same, ?_, fun L6 n6 => ?_⟩⟩
    · have z1 : (zeroT.length : Nat) = 1 := rfl
      have z2 : ("" : Str).length = 0 := rfl
      rw [List.map_replicate, List.sum_replicate_nat, z1, z2]
      omega
    · rw [lu]
      exact Nat.le_of_lt (small300 (by show 5 + 5 ≤ 300; decide))
    have gE := (gD.same sm).add (good_join (K := K) (show pl.length ≤ 40 by omega))
    have sE : Same H4 _ := (s9.trans sm).trans (same_new (o := .lst [.ref c8, .ref c9, .ref c10, .non, .str (Txt.join ("" : Str) (List.replicate pl.length zeroT))]) n5)
    have gF := ((gU.same (s9.trans sm)).app gE).same (same_new (o := .lst [.ref c8, .ref c9, .ref c10, .non, .str (Txt.join ("" : Str) (List.replicate pl.length zeroT))]) n5)
    refine heap_cut (P := fun G => Bar b H G ∧ BagAt G b ∧ ∃ ws, G L6 = some (.lst ws) ∧ ws.length = 10 ∧ Goods K G ws) ?_ ?_
    · exact ⟨B6.trans (Same.bar (sE.trans (same_new n6))), K6.same (sE.trans (same_new n6)), _, upd_same, by rw [List.length_append, lu]; rfl, gF.same (same_new n6)⟩
    clear gF sE gE eD sm gD gC gB gA s9 nD n9 n10 P7 sA e8 n5 n6 gU eL P6 K6 B6
    rintro H5 ⟨B7, K7, ws, eW, lw, gW⟩
    -- some + [(0,) * 39, ..]
    refine ⟨.ref L6, rfl, (by show 1 ≤ sizeLine; decide), fun q1 m1 => ⟨q1, 39, _, rfl, rfl, .inl (.inl upd_same), (by simp), by decide, by decide, (by show 1 ≤ 1000; decide), fun p1 k1 => ⟨(by show 1 ≤ sizeLine; decide), fun q2 m2 => ⟨q2, 40, _, rfl, rfl, .inl (.inl upd_same), (by simp), by decide, by decide, (by show 1 ≤ 1000; decide), fun p2 k2 => ?_⟩⟩⟩⟩
    have a1 := goods_one (K := K) (rep_good 39 (by decide) (upd_same (H := upd H5 q1 (.tup [.int 0])) (a := p1)))
    have a2 := (a1.same ((same_new m2).trans (same_new (o := .tup (List.replicate (Int.toNat 40) [V.int 0]).flatten) k2))).add (rep_good 40 (by decide) upd_same)
    have s2 : Same H5 _ := (same_new (o := .tup [.int 0]) m1).trans ((same_new (o := .tup (List.replicate (Int.toNat 39) [V.int 0]).flatten) k1).trans ((same_new (o := .tup [.int 0]) m2).trans (same_new (o := .tup (List.replicate (Int.toNat 40) [V.int 0]).flatten) k2)))
    clear a1
    refine ⟨39, rfl, RgOk.of_le (by decide) (by decide) (by decide) (by decide), fun q3 m3 => ⟨40, rfl, RgOk.of_le (by decide) (by decide) (by decide) (by decide), fun q4 m4 => ?_⟩⟩
    have a3 := (a2.same (same_new (o := .tup (rgV 0 39)) m3)).add (rg_good 39 (by decide) upd_same)
    have a4 := (a3.same (same_new (o := .tup (rgV 0 40)) m4)).add (rg_good 40 (by decide) upd_same)
    have s4 := s2.trans ((same_new (o := .tup (rgV 0 39)) m3).trans (same_new (o := .tup (rgV 0 40)) m4))
    clear a2 a3 s2
    refine ⟨(by show 1 ≤ sizeLine; decide), fun q5 m5 => ⟨(by show 2 ≤ sizeLine; decide), fun q6 m6 => ⟨(by show 2 ≤ sizeLine; decide), fun q7 m7 => ?_⟩⟩⟩
    have a5 := (a4.same (same_new (o := .tup [.int 1]) m5)).add (good_ints (K := K) (ns := [1]) upd_same (small_of (by simp)) (by decide))
    have a6 := (a5.same (same_new (o := .tup [.int 0, .int 2]) m6)).add (good_ints (K := K) (ns := [0, 2]) upd_same (small_of (by simp)) (by decide))
    have a7 := (a6.same (same_new (o := .tup [.int 0, .bl true]) m7)).add (good_mid (K := K) (n1 := [0]) (n2 := []) (v := .bl true) upd_same odd_bl (small_of (by simp)) (small_of (by simp)) (by decide))
    have s7 := s4.trans ((same_new (o := .tup [.int 1]) m5).trans ((same_new (o := .tup [.int 0, .int 2]) m6).trans (same_new (o := .tup [.int 0, .bl true]) m7)))
    clear a4 a5 a6 s4
    refine ⟨(by show 1 ≤ sizeLine; decide), fun q8 m8 => ⟨q8, 200, _, rfl, rfl, .inl (.inl upd_same), (by simp), by decide, by decide, (by show 1 ≤ 1000; decide), fun p8 k8 => ⟨(by show 8 ≤ sizeLine; decide), fun L7 n7 => ?_⟩⟩⟩
    have a8 := (a7.same ((same_new (o := .tup [.int 0]) m8).trans (same_new (o := .tup (List.replicate (Int.toNat 200) [V.int 0]).flatten) k8))).add (rep_good 200 (by decide) upd_same)
    have s8 := s7.trans ((same_new (o := .tup [.int 0]) m8).trans (same_new (o := .tup (List.replicate (Int.toNat 200) [V.int 0]).flatten) k8))
    clear a7 s7
    refine ⟨L6, L7, ws, _, rfl, rfl, upd_at (s8 _ _ eW) n7, upd_same, (by rw [lw]; exact Nat.le_of_lt (small300 (by show 10 + 8 ≤ 300; decide))), fun L8 n8 => ?_⟩
    exact q _ L8 _ (K7.same (s8.trans ((same_new n7).trans (same_new n8)))) (B7.trans (Same.bar (s8.trans ((same_new n7).trans (same_new n8))))) ((B7.trans (Same.bar (s8.trans (same_new n7)))).free hb (K7.same (s8.trans (same_new n7))) n8) upd_same (by rw [List.length_append, lw]; show 10 + 8 ≤ 100; decide) ((((gW.same s8).app a8).same (same_new n7)).same (same_new n8))
end
end PT


set_option maxHeartbeats 8000000
/-! the law's body -/
namespace PT
open PySem PySem.Spec PyProof.Rows L2
section
variable {P : Program} {w : World} {K : PySem.W.Frag} {mg : Str → Option Value} {base : Heap}
theorem inV_ints (j : Int) : ∀ ns : List Int, inV (.int j) (ns.map V.int) = decide (j ∈ ns)
  | [] => by simp [inV]
  | n :: ns => by
    have ih := inV_ints j ns
    unfold inV at ih ⊢
    rw [List.map_cons, List.any_cons, ih]
    show ((n == j) || decide (j ∈ ns)) = decide (j ∈ n :: ns)
    by_cases e : n = j
    · subst e
      simp
    · have e2 : ¬ j = n := fun z => e z.symm
      simp [e, e2]
theorem flat_ints (ns : List Int) : (ns.map V.int).all flatV = true := by
  rw [List.all_eq_true]
  intro x hx
  obtain ⟨n, _, rfl⟩ := List.mem_map.mp hx
  rfl
/-- the ways of all stations -/
def pathI (pl : List Int) (j : Nat) : List Int := (path pl j).map fun k : Nat => (k : Int)
theorem pathI_map (pl : List Int) (j : Nat) : ((path pl j).map fun k : Nat => V.int (k : Int)) = (pathI pl j).map V.int := by
  unfold pathI
  rw [List.map_map]
  rfl
theorem pathI_mem (pl : List Int) (j k : Nat) : (j : Int) ∈ pathI pl k ↔ j ∈ path pl k := by
  unfold pathI
  rw [List.mem_map]
  constructor
  · rintro ⟨m, hm, e⟩
    have : m = j := by omega
    exact this ▸ hm
  · intro h
    exact ⟨j, h, rfl⟩
theorem pathI_small (pl : List Int) {j : Nat} (h : j ≤ 39) : Small (pathI pl j) := small_of fun n hn => by
  unfold pathI at hn
  obtain ⟨m, hm, rfl⟩ := List.mem_map.mp hn
  have := path_le pl j m hm
  omega
theorem pathI_len (pl : List Int) {j : Nat} (h : j ≤ 39) : (pathI pl j).length ≤ 300 := by
  unfold pathI
  rw [List.length_map]
  have := path_len pl j
  omega
structure Ways (H0 H : Hp) (q : Addr) (as : List Addr) (pl : List Int) (i : Nat) : Prop where
  sm : Same H0 H
  hl : H q = some (.lst (as.map V.ref))
  len : as.length = i
  out : q ∉ as
  at_ : ∀ (j : Nat) (a : Addr), as[j]? = some a → H a = some (.lst ((pathI pl j).map V.int))
/-- what may be shown -/
structure Sh (K : PySem.W.Frag) (H : Hp) (v : V) (d : PyData) : Prop where
  ex : ∃ W, Rp K H v d ∧ Nice W 50 d ∧ W ≤ 270000
theorem sh_list {K : PySem.W.Frag} {H : Hp} {a : Addr} {ns : List Int} (e : H a = some (.lst (ns.map V.int))) (s : Small ns) (hl : ns.length ≤ 300) : Sh K H (.ref a) (.list (ns.map PyData.int)) :=
  ⟨⟨300 * (170 + 1), .dp (.lst (.inl (.inl e)) (dp_ints ns)), (nice_lst (L := 300) (nice_ints s) (by rw [List.length_map]; exact hl)).mono (by decide) (by decide), by decide⟩⟩
theorem sh_int {K : PySem.W.Frag} {H : Hp} {i : Int} (h : 0 ≤ i) (h2 : i ≤ 300) : Sh K H (.int i) (.int i) :=
  ⟨⟨170, .dp (.int i), (nice_int (Nat.lt_of_le_of_lt (show i.natAbs ≤ 300 by omega) (by decide))).mono (by decide) (by decide), by decide⟩⟩
theorem sh_none {K : PySem.W.Frag} {H : Hp} : Sh K H .non .none := ⟨⟨0, .dp .non, nice_none.mono (by decide) (by decide), by decide⟩⟩
theorem sh_bl {K : PySem.W.Frag} {H : Hp} {b : Bool} : Sh K H (.bl b) (.bool b) := ⟨⟨0, .dp (.bl b), (nice_bl b).mono (by decide) (by decide), by decide⟩⟩
theorem shown_read {K : PySem.W.Frag} {H : Hp} {v : V} {d : PyData} (s : Sh K H v d) {Q : VK} (q : Q (.str d.shown) H) : ∃ v' d' W, [v] = [v'] ∧ Rp K H v' d' ∧ Nice W 50 d' ∧ W ≤ 270000 ∧ Q (.str d'.shown) H := by
  obtain ⟨W, a, b, c⟩ := s.ex
  exact ⟨v, d, W, rfl, a, b, c, q⟩
/-- two equal texts do not differ -/
theorem ne_same {x : Str} {H : Hp} {R : Bool → Hp → Prop} (h : R false H) : rNe (.str x) (.str x) H fun z H1 => ∃ k, z = .bl k ∧ R k H1 := by
  refine ⟨rfl, _, rfl, ?_⟩
  rw [decide_eq_true rfl]
  exact h
def custD (pl : List Int) (j : Nat) : PyData := if j = 0 then .none else .int ((cu pl j : Nat) : Int)
theorem sh_cust {K : PySem.W.Frag} {H : Hp} {pl : List Int} {j : Nat} (h : j ≤ 39) : Sh K H (custV pl j) (custD pl j) := by
  unfold custV custD
  by_cases e : j = 0
  · rw [if_pos e, if_pos e]
    exact sh_none
  · rw [if_neg e, if_neg e]
    have := cu_lt pl (k := j) (by omega)
    exact sh_int (by omega) (by omega)
theorem ifexp_read {K : PySem.W.Frag} {σ : List (Option V)} {H : Hp} {aj : Addr} {pl : List Int} {j : Nat} {Q : VK} (h6 : σ[6]? = some (some (.int (j : Nat)))) (h9 : σ[9]? = some (some (.ref aj))) (ea : H aj = some (.lst ((pathI pl j).map V.int))) (q : Q (custV pl j) H) :
    tIf (tTest (tOp (rI0 fun i j => V.bl (decide (j < i))) (tVar 6) (tC (.int 0)))) (tOp (rIxL K) (tVar 9) (tC (.int 1))) (tC .non) σ H Q := by
  refine ⟨.int j, h6, j, 0, rfl, rfl, _, rfl, ite2 (fun e => ?_) fun e => ?_⟩
  · have h0 : 0 < j := by
      have := of_decide_eq_true e
      omega
    have e2 : custV pl j = .int ((cu pl j : Nat) : Int) := by
      unfold custV
      rw [if_neg (by omega)]
    rw [e2] at q
    refine ⟨.ref aj, h9, aj, _, 1, _, rfl, rfl, .inl (.inl ea), atI_nat (j := 1) ?_, q⟩
    unfold pathI
    rw [path_pos pl h0, List.map_cons, List.map_cons, List.getElem?_cons_succ, List.getElem?_map, List.getElem?_map, path_head]
    rfl
  · have h0 : j = 0 := by
      by_cases c : j = 0
      · exact c
      · exact absurd (decide_eq_true (show (0 : Int) < (j : Int) by omega)) e
    subst h0
    exact q
theorem law_body (T : Tx K mg) {f a : Addr} {cdv : Value} {st : Shared} {H : Hp} {ns : List Int} (hl : ns.length ≤ 63) (hS : SqL K H a (ns.map V.int)) (hr : Room 5 (callerA.deeper (envOfC "law" (defScope sLaw) st.heap.objs.size f cdv))) :
    ∃ t, PSs (cxOf CX0 P w K mg base ["script", "cell", "bag", "plant", "value", "kept", "station", "paths", "leaves", "path", "under", "many", "again", "told", "led", "ends", "k", "other"] "law" (defScope sLaw) f cdv callerA [] st H fun _ _ _ => False).nox (defBody sLaw) t ∧ t { nx := fun _ _ => V.non = .bl true, rt := fun v _ => v = .bl true } (start ["script", "cell", "bag", "plant", "value", "kept", "station", "paths", "leaves", "path", "under", "many", "again", "told", "led", "ends", "k", "other"] [.ref a]) H := by
  have nd := scLaw.nd
  refine ⟨_, (pss_cons (ps_for PassesOwn.never rfl (pi_list (pe_op op_cat (pe_slice sl_list (pv 0) po_none (po_some pe_int)) (pe_lst (pa_cons pe_int pa_nil)))) (pg_name (i := 1) nd rfl (.inl rfl)) (pss_cons (ps_set (i := 2) nd rfl (.inl rfl) (pe_call (ok_bag T) (hr.mono (by decide)) (by rfl) T.g__law_bag T.F__law_bag.kp T.b__law_bag .nil pass0 (pa_cons (pv 1) pa_nil))) (pss_cons (ps_set (i := 3) nd rfl (.inr rfl) (pe_call (ok_plant T) (hr.mono (by decide)) (by rfl) T.g__law_plant T.F__law_plant.kp T.b__law_plant .nil pass0 (pa_cons (pv 2) (pa_cons pe_int pa_nil)))) (pss_cons (ps_for PassesOwn.never rfl (pi_list (pe_op op_cat (pe_lst (pa_cons (pv 3) pa_nil)) (pe_call (ok_others T) (hr.mono (by decide)) (by rfl) T.g__law_others T.F__law_others.kp T.b__law_others .nil pass0 (pa_cons (pv 2) (pa_cons (pv 3) pa_nil))))) (pg_name (i := 4) nd rfl (.inl rfl)) (pss_cons (ps_set (i := 5) nd rfl (.inl rfl) (pe_callB (call_reprD rfl hr.units) (by rfl) T.n_repr (by decide +kernel) (pa_cons (pv 4) pa_nil))) (pss_one (ps_if (PW.pt (pw_or (pt_cmpR op_ne (pe_callB (call_reprD rfl hr.units) (by rfl) T.n_repr (by decide +kernel) (pa_cons (pe_call T.isPlant hr (by rfl) T.g_is_plant T.F_is_plant.kp T.b_is_plant .nil pass0 (pa_cons (pv 4) pa_nil)) pa_nil)) (pe_callB (call_reprD rfl hr.units) (by rfl) T.n_repr (by decide +kernel) (pa_cons (pe_call (ok_due T) (hr.mono (by decide)) (by rfl) T.g__law_due T.F__law_due.kp T.b__law_due .nil pass0 (pa_cons (pv 4) pa_nil)) pa_nil)) (nomark _)) (pw_or1 (pt_cmpR op_ne (pe_callB (call_reprD rfl hr.units) (by rfl) T.n_repr (by decide +kernel) (pa_cons (pv 4) pa_nil)) (pv 5) (nomark _))))) (pss_one (ps_ret pe_bl)) pss_nil)))) (pss_cons (ps_setLc (i := 7) (own := [("station", 6)]) (g := gName 6) (tt := tYes) (by rfl) nd rfl rfl (sw_true rfl rfl rfl (by decide +kernel)) (pi_range1 rfl T.n_range (pa_cons (pe_op op_add (pe_callB call_len_seq (by rfl) T.n_len PySem.boot_len (pa_cons (pv 3) pa_nil)) pe_int) pa_nil)) (blkOk_by (N := ["script", "cell", "bag", "plant", "value", "kept", "station", "paths", "leaves", "path", "under", "many", "again", "told", "led", "ends", "k", "other"]) (sc := defScope sLaw) (by decide +kernel)) (fun _ _ _ _ _ => pg_name (i := 6) nd rfl (Or.inl rfl)) (fun _ _ _ _ _ => pts_nil) (fun _ _ _ _ _ => (pe_call (ok_lawPath T) (hr.mono (by decide)) (by rfl) T.g__law_path T.F__law_path.kp T.b__law_path .nil pass0 (pa_cons (pv 3) (pa_cons (pv 6) pa_nil))))) (pss_cons (ps_setLc (i := 8) (own := [("station", 6)]) (g := gName 6) (tt := tTest (tOp (rIn K true) (tVar 6) (tVar 3))) (by rfl) nd rfl rfl (sw_true rfl rfl rfl (by decide +kernel)) (pi_range1 rfl T.n_range (pa_cons (pe_op op_add (pe_callB call_len_seq (by rfl) T.n_len PySem.boot_len (pa_cons (pv 3) pa_nil)) pe_int) pa_nil)) (blkOk_by (N := ["script", "cell", "bag", "plant", "value", "kept", "station", "paths", "leaves", "path", "under", "many", "again", "told", "led", "ends", "k", "other"]) (sc := defScope sLaw) (by decide +kernel)) (fun _ _ _ _ _ => pg_name (i := 6) nd rfl (Or.inl rfl)) (fun _ _ _ _ _ => pts_one (pt_cmpR op_notIn_seq (pv 6) (pv 3) (by rfl))) (fun _ _ _ _ _ => pv 6)) (pss_one (ps_for PassesOwn.never rfl (pi_enum (by rfl) T.n_enumerate (pa_cons (pv 7) pa_nil)) (pg_tup rfl (pgs_cons (pg_name (i := 6) nd rfl (.inr rfl)) (pgs_cons (pg_name (i := 9) nd rfl (.inl rfl)) pgs_nil))) (pss_cons (ps_setLc (i := 10) (own := [("k", 16), ("other", 17)]) (g := gTup K 2 (gCons (gName 16) (gCons (gName 17) gNil))) (tt := tTest (tOp rEq (tVar 17) (tVar 6))) (by rfl) nd rfl rfl (sw_true rfl rfl rfl (by decide +kernel)) (pi_E (by rfl) T.n_enumerate (pa_cons (pv 3) pa_nil)) (blkOk_by (N := ["script", "cell", "bag", "plant", "value", "kept", "station", "paths", "leaves", "path", "under", "many", "again", "told", "led", "ends", "k", "other"]) (sc := defScope sLaw) (by decide +kernel)) (fun _ _ _ _ _ => pg_tup rfl (pgs_cons (pg_name (i := 16) nd rfl (.inl rfl)) (pgs_cons (pg_name (i := 17) nd rfl (.inl rfl)) pgs_nil))) (fun _ _ _ _ _ => pts_one (pt_cmpR op_eq (pv 17) (pv 6) (nomark _))) (fun _ _ _ _ _ => pe_op op_add (pv 16) pe_int)) (pss_cons (ps_set (i := 11) nd rfl (.inl rfl) (pe_callB call_len_seq (by rfl) T.n_len PySem.boot_len (pa_cons (pe_lc (own := [("other", 17)]) (g := gName 17) (tt := tTest (tOp (rIn K false) (tVar 6) (tVar 17))) rfl nd (pi_list (pv 7)) (blkOk_by (N := ["script", "cell", "bag", "plant", "value", "kept", "station", "paths", "leaves", "path", "under", "many", "again", "told", "led", "ends", "k", "other"]) (sc := defScope sLaw) (by decide +kernel)) (fun _ _ _ _ _ => pg_name (i := 17) nd rfl (Or.inl rfl)) (fun _ _ _ _ _ => pts_one (pt_cmpR op_in_seq (pv 6) (pv 17) (by rfl))) (fun _ _ _ _ _ => pe_int)) pa_nil))) (pss_cons (ps_if (pt_cmpR op_ne (pe_callB (call_reprD rfl hr.units) (by rfl) T.n_repr (by decide +kernel) (pa_cons (pe_call (ok_customer T) (hr.mono (by decide)) (by rfl) T.g_customer T.F_customer.kp T.b_customer .nil pass0 (pa_cons (pv 3) (pa_cons (pv 6) pa_nil))) pa_nil)) (pe_callB (call_reprD rfl hr.units) (by rfl) T.n_repr (by decide +kernel) (pa_cons (pe_ifExp (pt_cmpR op_gt (pv 6) pe_int (nomark _)) (pe_ix ix_list (pv 9) pe_int (fun _ _ => rfl)) pe_non) pa_nil)) (nomark _)) (pss_one (ps_ret pe_bl)) pss_nil) (pss_cons (ps_if (pt_cmpR op_ne (pe_callB (call_reprD rfl hr.units) (by rfl) T.n_repr (by decide +kernel) (pa_cons (pe_call (ok_size T) (hr.mono (by decide)) (by rfl) T.g_size T.F_size.kp T.b_size .nil pass0 (pa_cons (pv 3) (pa_cons (pv 6) pa_nil))) pa_nil)) (pe_callB (call_reprD rfl hr.units) (by rfl) T.n_repr (by decide +kernel) (pa_cons (pv 11) pa_nil)) (nomark _)) (pss_one (ps_ret pe_bl)) pss_nil) (pss_one (ps_for PassesOwn.never rfl (pi_range1 rfl T.n_range (pa_cons pe_int pa_nil)) (pg_name (i := 12) nd rfl (.inl rfl)) (pss_cons (ps_par3 (i := 13) (j := 14) (l := 15) rfl nd rfl rfl rfl (by decide) (by decide) (by decide) rfl rfl rfl (pa_cons (pe_call (ok_suppliers T) (hr.mono (by decide)) (by rfl) T.g_suppliers T.F_suppliers.kp T.b_suppliers .nil pass0 (pa_cons (pv 3) (pa_cons (pv 6) pa_nil))) (pa_cons (pe_call (ok_path T) (hr.mono (by decide)) (by rfl) T.g_path_to_shop T.F_path_to_shop.kp T.b_path_to_shop .nil pass0 (pa_cons (pv 3) (pa_cons (pv 6) pa_nil))) (pa_cons (pe_call (ok_makers T) (hr.mono (by decide)) (by rfl) T.g_makers T.F_makers.kp T.b_makers .nil pass0 (pa_cons (pv 3) pa_nil)) pa_nil))) (by rfl)) (pss_cons (ps_if (PW.pt (pw_or (pt_cmpR op_ne (pe_callB (call_reprD rfl hr.units) (by rfl) T.n_repr (by decide +kernel) (pa_cons (pv 13) pa_nil)) (pe_callB (call_reprD rfl hr.units) (by rfl) T.n_repr (by decide +kernel) (pa_cons (pv 10) pa_nil)) (nomark _)) (pw_or (pt_cmpR op_ne (pe_callB (call_reprD rfl hr.units) (by rfl) T.n_repr (by decide +kernel) (pa_cons (pv 14) pa_nil)) (pe_callB (call_reprD rfl hr.units) (by rfl) T.n_repr (by decide +kernel) (pa_cons (pv 9) pa_nil)) (nomark _)) (pw_or1 (pt_cmpR op_ne (pe_callB (call_reprD rfl hr.units) (by rfl) T.n_repr (by decide +kernel) (pa_cons (pv 15) pa_nil)) (pe_callB (call_reprD rfl hr.units) (by rfl) T.n_repr (by decide +kernel) (pa_cons (pv 8) pa_nil)) (nomark _)))))) (pss_one (ps_ret pe_bl)) pss_nil) (pss_cons (ps_expr (pe_bm PySem.F.plainAttrs_list PySem.F.slot_list_append PySem.F.type_list_append mt_append (pv 13) (pa_cons pe_non pa_nil))) (pss_cons (ps_expr (pe_bm0 PySem.F.plainAttrs_list PySem.F.slot_list_clear PySem.F.type_list_clear mt_clear (pv 14))) (pss_one (ps_expr (pe_bm PySem.F.plainAttrs_list PySem.F.slot_list_append PySem.F.type_list_append mt_append (pv 15) (pa_cons pe_int pa_nil)))))))))))))))))))))) (pss_one (ps_ret pe_bl))), ?_⟩
  -- for cell in script[:20] + [0]
  refine ⟨.ref a, rfl, 20, rfl, a, ns.map V.int, rfl, hS, fun c0 n0 => ⟨(by show 1 ≤ sizeLine; decide), fun z0 m0 => ⟨c0, z0, _, _, rfl, rfl, upd_at upd_same m0, upd_same, ?_, fun L nL => ⟨L, rfl, ⟨_, .inl (.inl upd_same)⟩, ?_⟩⟩⟩⟩
  · rw [show cutV (ns.map V.int) none (some 20) = (ns.take 20).map V.int from cut_to ns 20, List.length_map, List.length_take]
    exact Nat.le_of_lt (small300 (by show min 20 ns.length + 1 ≤ 300; omega))
  have eL : (upd (upd (upd H c0 (.lst (cutV (ns.map V.int) none (some 20)))) z0 (.lst [.int 0])) L (.lst (cutV (ns.map V.int) none (some 20) ++ [.int 0]))) L = some (.lst ((ns.take 20 ++ [0]).map V.int)) := by
    rw [upd_same, show cutV (ns.map V.int) none (some 20) = (ns.take 20).map V.int from cut_to ns 20, List.map_append]
    rfl
  revert eL
  generalize ns.take 20 ++ [0] = cs
  intro eL
  refine for_it (walk_list (xs := cs.map V.int)) (fun i σ H' => ∃ y1 y2 y3 y4 y5 y6 y7 y8 y9 y10 y11 y12 y13 y14 y15, σ = [some (.ref a), y1, y2, y3, y4, y5, y6, y7, y8, y9, y10, y11, y12, y13, y14, y15, none, none] ∧ H' L = some (.lst (cs.map V.int)))
    ⟨none, none, none, none, none, none, none, none, none, none, none, none, none, none, none, rfl, eL⟩ (fun i σ H' _ p1 => ?_) (fun i x σ H1 H1' hi p1 y => ?_) (fun σ H' p1 => ?_)
  · obtain ⟨y1, y2, y3, y4, y5, y6, y7, y8, y9, y10, y11, y12, y13, y14, y15, _, e⟩ := p1
    exact .inl (.inl e)
  rotate_left
  · obtain ⟨y1, y2, y3, y4, y5, y6, y7, y8, y9, y10, y11, y12, y13, y14, y15, rfl, e⟩ := p1
    rfl
  obtain ⟨y1, y2, y3, y4, y5, y6, y7, y8, y9, y10, y11, y12, y13, y14, y15, rfl, eL1⟩ := p1
  obtain ⟨rfl, ex⟩ := y
  obtain ⟨c, rfl⟩ : ∃ c : Int, x = .int c := by
    rw [List.getElem?_map] at ex
    cases q : cs[i]? with
    | none => rw [q] at ex; cases ex
    | some c => rw [q] at ex; cases ex; exact ⟨c, rfl⟩
  clear eL ex
  -- bag, plant
  refine ⟨.int c, rfl, c, rfl, fun b x0 nb => ⟨.ref b, rfl, b, 40, rfl, by decide, by decide, bag_upd, fun H2 p pl K2 B2 np P2 => ?_⟩⟩
  have hLb : L ≠ b := ne_of_none eL1 nb
  have eL2 : H2 L = some (.lst (cs.map V.int)) := B2 _ _ hLb (upd_at eL1 nb)
  clear B2 np
  -- for value in [plant] + _law_others(bag, plant)
  refine ⟨.ref p, rfl, (by show 1 ≤ sizeLine; decide), fun q1 nq => ⟨.ref b, rfl, .ref p, rfl, b, p, pl, rfl, K2.same (same_new nq), P2.same (same_new nq), fun H3 l us K3 B3 nl el lu gl => ⟨q1, l, [.ref p], us, rfl, rfl, B3 _ _ ?_ upd_same, el, ?_, fun L1 nL1 => ⟨L1, rfl, ⟨_, .inl (.inl upd_same)⟩, ?_⟩⟩⟩⟩
  · intro e
    obtain ⟨x5, y5, z5, q5⟩ := K2
    rw [e, q5] at nq
    cases nq
  · exact Nat.le_of_lt (small300 (by show 1 + us.length ≤ 300; omega))
  have eL3 : H3 L = some (.lst (cs.map V.int)) := B3 _ _ hLb (upd_at eL2 nq)
  have P3 : PlantAt H3 p pl := (P2.same (same_new nq)).bar B3 (K2.same (same_new nq))
  have g3 : Goods K H3 (.ref p :: us) := fun v hv => by
    rcases List.mem_cons.mp hv with z | z
    · rw [z]
      exact good_ints P3.at_ P3.ok.small (by have := P3.ok.len; omega)
    · exact gl v z
  have s4 : Same H3 (upd H3 L1 (.lst ([.ref p] ++ us))) := same_new nL1
  have eL4 := s4 _ _ eL3
  have P4 := P3.same s4
  have g4 := g3.same s4
  have e1 : (upd H3 L1 (.lst ([.ref p] ++ us))) L1 = some (.lst (.ref p :: us)) := upd_same
  clear eL1 eL2 eL3 P2 P3 K2 K3 B3 nl el gl g3 s4 nq
  revert eL4 P4 g4 e1
  generalize upd H3 L1 (.lst ([.ref p] ++ us)) = H4
  intro eL4 P4 g4 e1
  refine for_it (walk_list (xs := .ref p :: us)) (fun i σ H' => ∃ y4 y5, σ = [some (.ref a), some (.int c), some (.ref b), some (.ref p), y4, y5, y6, y7, y8, y9, y10, y11, y12, y13, y14, y15, none, none] ∧ Same H4 H') ⟨y4, y5, rfl, Same.refl H4⟩ (fun i σ H' _ p1 => p1.elim fun _ z => z.elim fun _ z => .inl (.inl (z.2 _ _ e1))) (fun i v σ H5 H5' hi p1 y => ?_) (fun σ H5 p1 => ?_)
  · obtain ⟨z4, z5, rfl, sm⟩ := p1
    obtain ⟨rfl, ev⟩ := y
    have gv := (g4 v (List.mem_of_getElem? ev)).same sm
    obtain ⟨r, hf⟩ := gv.fi
    obtain ⟨d, W, rp, nc, hW⟩ := gv.sh
    -- kept
    refine ⟨v, rfl, v, d, W, rfl, rp, nc, hW, ?_⟩
    -- the three texts
    refine ⟨v, rfl, v, r, rfl, hf, fun H6 s6 => ⟨_, _, 0, rfl, .dp (.bl r), (nice_bl r).mono (by decide) (by decide), by decide, v, rfl, v, r, rfl, hf.same s6, fun H7 s7 => ⟨_, _, 0, rfl, .dp (.bl r), (nice_bl r).mono (by decide) (by decide), by decide, rfl, _, rfl, iteNS rfl ⟨v, rfl, v, d, W, rfl, rp_same (s6.trans s7) rp, nc, hW, _, rfl, rfl, _, rfl, iteNS rfl ?_⟩⟩⟩⟩
    exact ⟨_, _, rfl, sm.trans (s6.trans s7)⟩
  obtain ⟨z4, z5, rfl, sm⟩ := p1
  have eL5 := sm _ _ eL4
  have P5 := P4.same sm
  clear sm g4 e1 eL4 P4 hLb nL1 nb
  have hlen := P5.ok.len
  have elen : ((pl.map V.int).length : Int) + 1 = ((pl.length + 1 : Nat) : Int) := by rw [List.length_map]; rfl
  -- paths
  refine ⟨.ref p, rfl, p, pl.map V.int, rfl, .inr P5.seq, _, 1, rfl, rfl, ((pl.length + 1 : Nat) : Int), congrArg (fun z => [V.int z]) elen, by omega, by omega, ?_⟩
  rw [Int.toNat_natCast]
  intro D nD
  refine lc_range (lo := 0) (n := pl.length + 1) (fun i H' => ∃ as, Ways H5 H' D as pl i) ⟨[], same_new nD, upd_same, rfl, by simp, fun j a e => by simp at e⟩ (fun i H6 hi p1 => ?_) (fun H6 p1 => ?_)
  · obtain ⟨as, Wy⟩ := p1
    have ez : (0 : Int) + (i : Nat) = (i : Int) := Int.zero_add _
    refine ⟨rfl, tyes_if ⟨.ref p, rfl, .int (0 + (i : Nat)), rfl, p, pl, i, congrArg (fun z => [V.ref p, V.int z]) ez, P5.same Wy.sm, by omega, fun H7 a7 s7 na ea => ⟨_, s7 _ _ Wy.hl, ?_, as ++ [a7], ?_, ?_, ?_, ?_, ?_⟩⟩⟩
    · rw [List.length_map, Wy.len]
      exact small300 (by omega)
    · intro b2 o hb
      rw [upd_ne (ne_of_none hb nD)]
      exact s7 _ _ (Wy.sm _ _ hb)
    · rw [upd_same, List.map_append]
      rfl
    · rw [List.length_append, Wy.len]
      rfl
    · intro hm
      rcases List.mem_append.mp hm with z | z
      · exact Wy.out z
      · exact ne_of_none Wy.hl na (List.mem_singleton.mp z)
    · intro j a8 e
      by_cases hj : j < as.length
      · rw [List.getElem?_append_left hj] at e
        have hm : a8 ∈ as := List.mem_of_getElem? e
        rw [upd_ne (show a8 ≠ D from fun z => Wy.out (z ▸ hm))]
        exact s7 _ _ (Wy.at_ j a8 e)
      · have hj2 : j = i := by
          have z := (List.getElem?_eq_some_iff.mp e).1
          rw [List.length_append, Wy.len] at z
          have z2 : j < i + 1 := z
          rw [Wy.len] at hj
          omega
        subst hj2
        rw [List.getElem?_append_right (by omega), Wy.len, Nat.sub_self] at e
        cases e
        rw [upd_ne (Ne.symm (ne_of_none Wy.hl na)), ea, pathI_map]
  obtain ⟨as, Wy⟩ := p1
  have P6 := P5.same Wy.sm
  have eL6 := Wy.sm _ _ eL5
  have hD6 := Wy.hl
  have hA6 := Wy.at_
  have lA := Wy.len
  clear Wy eL5 P5 nD
  -- leaves
  refine ⟨.ref p, rfl, p, pl.map V.int, rfl, .inr P6.seq, _, 1, rfl, rfl, ((pl.length + 1 : Nat) : Int), congrArg (fun z => [V.int z]) elen, by omega, by omega, ?_⟩
  rw [Int.toNat_natCast]
  intro D2 nD2
  refine lc_range (lo := 0) (n := pl.length + 1) (fun i H' => Same H6 H' ∧ H' D2 = some (.lst ((mks pl i).map V.int))) ⟨same_new nD2, upd_same⟩ (fun i H7 hi p1 => ?_) (fun H7 p1 => ?_)
  · obtain ⟨sm, eD⟩ := p1
    have ez : (0 : Int) + (i : Nat) = (i : Int) := Int.zero_add _
    have ein : inV (.int (0 + (i : Nat))) (pl.map V.int) = decide ((i : Int) ∈ pl) := by rw [ez, inV_ints]
    refine ⟨rfl, .int (0 + (i : Nat)), rfl, .ref p, rfl, p, pl.map V.int, rfl, .inr (P6.same sm).seq, rfl, flat_ints pl, _, rfl, ite2 (fun e => ?_) fun e => ?_⟩
    · have c : (i : Int) ∉ pl := fun z => by
        have e2 : (!inV (.int (0 + (i : Nat))) (pl.map V.int)) = true := e
        rw [ein, decide_eq_true z] at e2
        cases e2
      refine ⟨_, rfl, _, eD, ?_, fun b2 o hb => ?_, ?_⟩
      · rw [List.length_map]
        exact small300 (Nat.le_trans (mks_len pl i) (by omega))
      · rw [upd_ne (ne_of_none hb nD2)]
        exact sm _ _ hb
      · rw [upd_same, mks_step, if_neg c, List.map_append, ez]
        rfl
    · have c : (i : Int) ∈ pl := Decidable.of_not_not fun z => e (by
        show (!inV (.int (0 + (i : Nat))) (pl.map V.int)) = true
        rw [ein, decide_eq_false z]
        rfl)
      refine ⟨sm, ?_⟩
      rw [mks_step, if_pos c]
      exact eD
  obtain ⟨sm, eD⟩ := p1
  have P7 := P6.same sm
  have eL7 := sm _ _ eL6
  have hD7 := sm _ _ hD6
  have hA7 : ∀ (j : Nat) (a : Addr), as[j]? = some a → H7 a = some (.lst ((pathI pl j).map V.int)) := fun j a e => sm _ _ (hA6 j a e)
  clear sm hA6 hD6 eL6 P6 nD2
  -- for station, path in enumerate(paths)
  refine ⟨.ref D, rfl, D, as.map V.ref, rfl, .inl (.inl hD7), ?_⟩
  refine for_it (walk_enum (xs := as.map V.ref)) (fun i σ H' => ∃ z6 z9 z10 z11 z12 z13 z14 z15, σ = [some (.ref a), some (.int c), some (.ref b), some (.ref p), z4, z5, z6, some (.ref D), some (.ref D2), z9, z10, z11, z12, z13, z14, z15, none, none] ∧ Same H7 H')
    ⟨y6, y9, y10, y11, y12, y13, y14, y15, rfl, Same.refl H7⟩ (fun i σ H' _ p1 => ?_) (fun j x σ H8 H9 hj p1 y => ?_) (fun σ H8 p1 => ?_)
  · obtain ⟨z6, z9, z10, z11, z12, z13, z14, z15, _, s8⟩ := p1
    exact s8.seq (.inl (.inl hD7))
  rotate_left
  · obtain ⟨z6, z9, z10, z11, z12, z13, z14, z15, rfl, s8⟩ := p1
    exact ⟨_, _, _, _, _, _, _, _, _, _, _, _, _, _, _, rfl, s8 _ _ eL7⟩
  obtain ⟨z6, z9, z10, z11, z12, z13, z14, z15, rfl, s8⟩ := p1
  obtain ⟨Tt, w1, w2, rfl, nT, rfl, e1, e2⟩ := y
  cases e1
  rw [List.length_map, lA] at hj
  obtain ⟨aj, eaj⟩ : ∃ aj, as[j]? = some aj := ⟨_, List.getElem?_eq_getElem (show j < as.length by omega)⟩
  have ew : w2 = .ref aj := by
    have z : (as.map V.ref)[j]? = some w2 := e2
    rw [List.getElem?_map, eaj] at z
    exact (Option.some.inj z).symm
  subst ew
  refine ⟨Tt, [.int (j : Nat), .ref aj], rfl, .inl (.inl upd_same), rfl, _, _, rfl, _, _, rfl, rfl, ?_⟩
  refine heap_cut (P := fun G => Same H7 G) (s8.trans (same_new nT)) ?_
  clear nT e2 s8
  intro H9 s9
  have P9 := P7.same s9
  -- under
  refine ⟨.ref p, rfl, p, pl.map V.int, rfl, P9.seq, fun D3 nD3 => ?_⟩
  refine lc_it (walk_E (xs := pl.map V.int)) (fun i H' => Same H9 H' ∧ H' D3 = some (.lst ((sup pl i j).map V.int))) ⟨same_new nD3, upd_same⟩ (fun i H' _ p1 => (P9.same p1.1).seq) (fun i x G G' hi p1 y => ?_) (fun G p1 => ?_)
  · obtain ⟨sm, eD⟩ := p1
    obtain ⟨T2, x1, x2, rfl, n2, rfl, f1, f2⟩ := y
    cases f1
    rw [List.length_map] at hi
    obtain ⟨u, eu, rfl⟩ : ∃ u, pl[i]? = some u ∧ V.int u = x2 := by
      have z : (pl.map V.int)[i]? = some x2 := f2
      rw [List.getElem?_map] at z
      cases q2 : pl[i]? with
      | none => rw [q2] at z; cases z
      | some u => rw [q2] at z; cases z; exact ⟨u, rfl, rfl⟩
    have sT : Same G (upd G T2 (.tup [.int (i : Nat), .int u])) := same_new n2
    have eD2 := sT _ _ eD
    refine ⟨T2, [.int (i : Nat), .int u], rfl, .inl (.inl upd_same), rfl, _, _, rfl, _, _, rfl, rfl, rfl, ?_⟩
    refine ⟨.int u, rfl, .int (j : Nat), rfl, rfl, _, rfl, ite2 (fun e => ?_) fun e => ?_⟩
    · have c : u = (j : Int) := V.int.inj (of_decide_eq_true e)
      refine ⟨_, rfl, _, 1, rfl, rfl, _, eD2, ?_, fun b2 o hb => ?_, ?_⟩
      · rw [List.length_map]
        exact small300 (Nat.le_trans (sup_len pl i j) (by omega))
      · rw [upd_ne (ne_of_none hb nD3)]
        exact sT _ _ (sm _ _ hb)
      · rw [upd_same, sup_step j eu, if_pos c, List.map_append]
        rfl
    · have c : ¬ u = (j : Int) := fun z => e (decide_eq_true (congrArg V.int z))
      refine ⟨sm.trans sT, ?_⟩
      rw [sup_step j eu, if_neg c]
      exact eD2
  obtain ⟨sm, eD3⟩ := p1
  rw [List.length_map] at eD3
  have sG := s9.trans sm
  clear sm nD3 s9 P9
  -- many
  refine ⟨.ref D, rfl, D, rfl, ⟨_, .inl (.inl (sG _ _ hD7))⟩, fun D4 nD4 => ?_⟩
  refine lc_it (walk_list (xs := as.map V.ref)) (fun i H' => Same G H' ∧ H' D4 = some (.lst (List.replicate ((List.range i).countP fun k => decide (j ∈ path pl k)) (V.int 1)))) ⟨same_new nD4, upd_same⟩ (fun i H' _ p1 => p1.1.seq (.inl (.inl (sG _ _ hD7)))) (fun i x G1 G1' hi p1 y => ?_) (fun G1 p1 => ?_)
  · obtain ⟨sm, eD⟩ := p1
    obtain ⟨rfl, f2⟩ := y
    rw [List.length_map, lA] at hi
    obtain ⟨ai, eai⟩ : ∃ ai, as[i]? = some ai := ⟨_, List.getElem?_eq_getElem (show i < as.length by omega)⟩
    have ex : x = .ref ai := by
      rw [List.getElem?_map, eai] at f2
      exact (Option.some.inj f2).symm
    subst ex
    have ein : inV (.int (j : Nat)) ((pathI pl i).map V.int) = decide (j ∈ path pl i) := by
      rw [inV_ints]
      by_cases c : j ∈ path pl i
      · rw [decide_eq_true c, decide_eq_true ((pathI_mem pl j i).mpr c)]
      · rw [decide_eq_false c, decide_eq_false fun z => c ((pathI_mem pl j i).mp z)]
    have ecnt : (List.range (i + 1)).countP (fun k => decide (j ∈ path pl k)) = (List.range i).countP (fun k => decide (j ∈ path pl k)) + if j ∈ path pl i then 1 else 0 := by
      rw [List.range_succ, List.countP_append]
      congr 1
      by_cases c : j ∈ path pl i <;> simp [c]
    refine ⟨rfl, .int (j : Nat), rfl, .ref ai, rfl, ai, (pathI pl i).map V.int, rfl, .inl (.inl (.inl (sm _ _ (sG _ _ (hA7 i ai eai))))), rfl, flat_ints _, _, rfl, ite2 (fun e => ?_) fun e => ?_⟩
    · have c : j ∈ path pl i := by
        have z : inV (.int (j : Nat)) ((pathI pl i).map V.int) = true := e
        rw [ein] at z
        exact of_decide_eq_true z
      refine ⟨_, eD, ?_, fun b2 o hb => ?_, ?_⟩
      · rw [List.length_replicate]
        refine small300 (Nat.le_trans List.countP_le_length ?_)
        rw [List.length_range]
        omega
      · rw [upd_ne (ne_of_none hb nD4)]
        exact sm _ _ hb
      · rw [upd_same, ecnt, if_pos c, List.replicate_succ']
    · have c : ¬ j ∈ path pl i := fun z => e (by
        show inV (.int (j : Nat)) ((pathI pl i).map V.int) = true
        rw [ein]
        exact decide_eq_true z)
      refine ⟨sm, ?_⟩
      rw [ecnt, if_neg c, Nat.add_zero]
      exact eD
  obtain ⟨sm, eD4⟩ := p1
  rw [List.length_map, lA] at eD4
  refine ⟨D4, _, rfl, .inl (.inl (.inl eD4)), ?_⟩
  rw [List.length_replicate]
  have s10 := sG.trans sm
  have eD3' := sm _ _ eD3
  clear eD4 sm sG nD4 eD3
  have hj9 : j ≤ 39 := by omega
  have hjl : j ≤ pl.length := by omega
  have P10 := P7.same s10
  obtain ⟨Wc, rc, nc, hWc⟩ := (sh_cust (K := K) (H := H7) (pl := pl) hj9).ex
  -- customer
  refine ⟨.ref p, rfl, .int (j : Nat), rfl, p, pl, j, rfl, P10, hjl, fun H11 s11 => ⟨_, _, Wc, rfl, rp_same (s10.trans s11) rc, nc, hWc, ifexp_read rfl rfl (s11 _ _ (s10 _ _ (hA7 j aj eaj))) ⟨_, _, Wc, rfl, rp_same (s10.trans s11) rc, nc, hWc, rfl, _, rfl, iteNS rfl ?_⟩⟩⟩
  -- size
  obtain ⟨Ws, rs, ns2, hWs⟩ := (sh_int (K := K) (H := H7) (i := ((sz pl j : Nat) : Int)) (by omega) (by have := sz_le pl j; omega)).ex
  refine ⟨.ref p, rfl, .int (j : Nat), rfl, p, pl, j, rfl, P10.same s11, hjl, fun H12 s12 => ⟨_, _, Ws, rfl, rp_same (s10.trans (s11.trans s12)) rs, ns2, hWs, _, rfl, .int ((sz pl j : Nat) : Int), _, Ws, rfl, rp_same (s10.trans (s11.trans s12)) rs, ns2, hWs, rfl, _, rfl, iteNS rfl ?_⟩⟩
  have s13 := s10.trans (s11.trans s12)
  have P12 := P7.same s13
  have eD3 := s12 _ _ (s11 _ _ eD3')
  have eaj12 := s13 _ _ (hA7 j aj eaj)
  have eD12 := s13 _ _ eD
  clear rc rs P10 s10 s11 s12 eD3'
  -- for again in range(2)
  refine ⟨2, rfl, by decide, by decide, ?_⟩
  refine for_range (lo := 0) (n := Int.toNat 2) (fun i σ H' => ∃ t12 t13 t14 t15, σ = [some (.ref a), some (.int c), some (.ref b), some (.ref p), z4, z5, some (.int (j : Nat)), some (.ref D), some (.ref D2), some (.ref aj), some (.ref D3), some (.int ((sz pl j : Nat) : Int)), t12, t13, t14, t15, none, none] ∧ Same H12 H')
    ⟨z12, z13, z14, z15, rfl, Same.refl H12⟩ (fun i σ G2 hi p1 => ?_) (fun σ G2 p1 => ?_)
  rotate_left
  · obtain ⟨t12, t13, t14, t15, rfl, sm⟩ := p1
    exact ⟨_, _, _, _, _, _, _, _, rfl, s13.trans sm⟩
  obtain ⟨t12, t13, t14, t15, rfl, sm⟩ := p1
  have PG := P12.same sm
  refine ⟨.ref p, rfl, .int (j : Nat), rfl, p, pl, j, rfl, PG, hjl, fun G3 a13 s3 n13 e13 => ⟨.ref p, rfl, .int (j : Nat), rfl, p, pl, j, rfl, PG.same s3, hjl, fun G4 a14 s4 n14 e14 => ⟨.ref p, rfl, p, pl, rfl, (PG.same s3).same s4, fun G5 a15 s5 n15 e15 => ⟨_, _, _, rfl, ?_⟩⟩⟩⟩
  rw [pathI_map] at e14
  have f13 := s5 _ _ (s4 _ _ e13)
  have f14 := s5 _ _ e14
  have sm5 := sm.trans (s3.trans (s4.trans s5))
  obtain ⟨W1, r1, m1, h1⟩ := (sh_list (K := K) f13 (small_of fun n hn => by have := sup_small pl pl.length j n hn; omega) (Nat.le_trans (sup_len pl pl.length j) (by omega))).ex
  obtain ⟨W2, r2, m2, h2⟩ := (sh_list (K := K) (sm5 _ _ eD3) (small_of fun n hn => by have := sup_small pl pl.length j n hn; omega) (Nat.le_trans (sup_len pl pl.length j) (by omega))).ex
  obtain ⟨W3, r3, m3, h3⟩ := (sh_list (K := K) f14 (pathI_small pl hj9) (pathI_len pl hj9)).ex
  obtain ⟨W4, r4, m4, h4⟩ := (sh_list (K := K) (sm5 _ _ eaj12) (pathI_small pl hj9) (pathI_len pl hj9)).ex
  obtain ⟨W5, r5, m5, h5⟩ := (sh_list (K := K) e15 (small_of fun n hn => by have := mks_small pl (pl.length + 1) n hn; omega) (Nat.le_trans (mks_len pl (pl.length + 1)) (by omega))).ex
  obtain ⟨W6, r6, m6, h6⟩ := (sh_list (K := K) (sm5 _ _ eD12) (small_of fun n hn => by have := mks_small pl (pl.length + 1) n hn; omega) (Nat.le_trans (mks_len pl (pl.length + 1)) (by omega))).ex
  refine ⟨_, rfl, _, _, W1, rfl, r1, m1, h1, _, rfl, _, _, W2, rfl, r2, m2, h2, rfl, _, rfl, iteNS rfl ⟨_, rfl, _, _, W3, rfl, r3, m3, h3, _, rfl, _, _, W4, rfl, r4, m4, h4, rfl, _, rfl, iteNS rfl ⟨_, rfl, _, _, W5, rfl, r5, m5, h5, _, rfl, _, _, W6, rfl, r6, m6, h6, rfl, _, rfl, iteNS rfl ?_⟩⟩⟩
  have d1 : a14 ≠ a13 := Ne.symm (ne_of_none e13 n14)
  have d2 : a15 ≠ a13 := Ne.symm (ne_of_none (s4 _ _ e13) n15)
  have d3 : a15 ≠ a14 := Ne.symm (ne_of_none e14 n15)
  have o13 : H12 a13 = none := sm.free n13
  have o14 : H12 a14 = none := sm.free (s3.free n14)
  have o15 : H12 a15 = none := sm.free (s3.free (s4.free n15))
  refine ⟨_, rfl, .inl ⟨rfl, _, .inl (.inl f13)⟩, a13, _, _, rfl, rfl, f13, ?_, ?_⟩
  · rw [List.length_map]
    exact small300 (Nat.le_trans (sup_len pl pl.length j) (by omega))
  have g14 : (upd G5 a13 (.lst ((sup pl pl.length j).map V.int ++ [.non]))) a14 = some (.lst ((pathI pl j).map V.int)) := by
    rw [upd_ne d1]
    exact f14
  refine ⟨_, rfl, .inl ⟨rfl, _, .inl (.inl g14)⟩, a14, _, rfl, rfl, g14, ?_⟩
  have g15 : (upd (upd G5 a13 (.lst ((sup pl pl.length j).map V.int ++ [.non]))) a14 (.lst [])) a15 = some (.lst ((mks pl (pl.length + 1)).map V.int)) := by
    rw [upd_ne d3, upd_ne d2]
    exact e15
  refine ⟨_, rfl, .inl ⟨rfl, _, .inl (.inl g15)⟩, a15, _, _, rfl, rfl, g15, ?_, ?_⟩
  · rw [List.length_map]
    exact small300 (Nat.le_trans (mks_len pl (pl.length + 1)) (by omega))
  refine ⟨_, _, _, _, rfl, fun b2 o hb => ?_⟩
  rw [upd_ne (ne_of_none hb o15), upd_ne (ne_of_none hb o14), upd_ne (ne_of_none hb o13)]
  exact sm5 _ _ hb
end
end PT

set_option maxHeartbeats 8000000
/-! the end: what the top has left, and the law's call -/
namespace PT
open PySem PySem.Spec PyProof.Rows L2
theorem all_mk {l : PySem.W.OpenLaw} {w : World} {K : PySem.W.Frag} {mg : Str → Option Value} {fa a : Addr} {st : Shared} {base : Heap} {H : Hp} {ns : List Int} {p6 p7 p8 p9 p10 p12 p13 p14 p15 p16 p17 p18 p20 p21 p22 p26 p27 p28 p29 : Addr} {t_MOST_STATIONS : Tok}
    (X : K.In st.heap) (G : st.heap.Ns mainGlobals mg) (hfa : mg "law" = some (.ref fa)) (hl : ns.length ≤ 63) (hS : SqL K H a (ns.map V.int)) (en : Env0 l.prog w K mg base callerA [] st H)
    {od6 an6 od7 an7 od8 an8 od9 an9 od10 an10 od12 an12 od13 an13 od14 an14 od15 an15 od16 an16 od17 an17 od18 an18 od20 an20 od21 an21 od22 an22 od26 an26 od27 an27 od28 an28 od29 an29 : Option Addr} {sl6 sl7 sl8 sl9 sl10 sl12 sl13 sl14 sl15 sl16 sl17 sl18 sl20 sl21 sl22 sl26 sl27 sl28 sl29 : Array (Option Value)} {oc6 kV6 dc6 pm6 cd6 ct6 oc7 kV7 dc7 pm7 cd7 ct7 oc8 kV8 dc8 pm8 cd8 ct8 oc9 kV9 dc9 pm9 cd9 ct9 oc10 kV10 dc10 pm10 cd10 ct10 oc12 kV12 dc12 pm12 cd12 ct12 oc13 kV13 dc13 pm13 cd13 ct13 oc14 kV14 dc14 pm14 cd14 ct14 oc15 kV15 dc15 pm15 cd15 ct15 oc16 kV16 dc16 pm16 cd16 ct16 oc17 kV17 dc17 pm17 cd17 ct17 oc18 kV18 dc18 pm18 cd18 ct18 oc20 kV20 dc20 pm20 cd20 ct20 oc21 kV21 dc21 pm21 cd21 ct21 oc22 kV22 dc22 pm22 cd22 ct22 oc26 kV26 dc26 pm26 cd26 ct26 oc27 kV27 dc27 pm27 cd27 ct27 oc28 kV28 dc28 pm28 cd28 ct28 oc29 kV29 dc29 pm29 cd29 ct29 : Value}
    (a6 : PySem.W.nsIn K mainGlobals "is_integer" = some (some (.ref p6))) (l6 : K.lookup p6 = some ⟨oc6, od6, .func (PySem.W.fnOf "is_integer" "is_integer" (defArgs sIsInteger) (defBody sIsInteger) (defScope sIsInteger) .none kV6 dc6 pm6 an6 cd6 ct6), sl6⟩) (c6 : PySem.W.codeIn K cd6 "is_integer" = true) (k6 : PySem.W.keepIn K (.ref p6) = true)
    (a7 : PySem.W.nsIn K mainGlobals "fits_plant" = some (some (.ref p7))) (l7 : K.lookup p7 = some ⟨oc7, od7, .func (PySem.W.fnOf "fits_plant" "fits_plant" (defArgs sFitsPlant) (defBody sFitsPlant) (defScope sFitsPlant) .none kV7 dc7 pm7 an7 cd7 ct7), sl7⟩) (c7 : PySem.W.codeIn K cd7 "fits_plant" = true) (k7 : PySem.W.keepIn K (.ref p7) = true)
    (a8 : PySem.W.nsIn K mainGlobals "fits_station" = some (some (.ref p8))) (l8 : K.lookup p8 = some ⟨oc8, od8, .func (PySem.W.fnOf "fits_station" "fits_station" (defArgs sFitsStation) (defBody sFitsStation) (defScope sFitsStation) .none kV8 dc8 pm8 an8 cd8 ct8), sl8⟩) (c8 : PySem.W.codeIn K cd8 "fits_station" = true) (k8 : PySem.W.keepIn K (.ref p8) = true)
    (a9 : PySem.W.nsIn K mainGlobals "check_plant" = some (some (.ref p9))) (l9 : K.lookup p9 = some ⟨oc9, od9, .func (PySem.W.fnOf "check_plant" "check_plant" (defArgs sCheckPlant) (defBody sCheckPlant) (defScope sCheckPlant) .none kV9 dc9 pm9 an9 cd9 ct9), sl9⟩) (c9 : PySem.W.codeIn K cd9 "check_plant" = true) (k9 : PySem.W.keepIn K (.ref p9) = true)
    (a10 : PySem.W.nsIn K mainGlobals "check_station" = some (some (.ref p10))) (l10 : K.lookup p10 = some ⟨oc10, od10, .func (PySem.W.fnOf "check_station" "check_station" (defArgs sCheckStation) (defBody sCheckStation) (defScope sCheckStation) .none kV10 dc10 pm10 an10 cd10 ct10), sl10⟩) (c10 : PySem.W.codeIn K cd10 "check_station" = true) (k10 : PySem.W.keepIn K (.ref p10) = true)
    (a12 : PySem.W.nsIn K mainGlobals "is_plant" = some (some (.ref p12))) (l12 : K.lookup p12 = some ⟨oc12, od12, .func (PySem.W.fnOf "is_plant" "is_plant" (defArgs sIsPlant) (defBody sIsPlant) (defScope sIsPlant) .none kV12 dc12 pm12 an12 cd12 ct12), sl12⟩) (c12 : PySem.W.codeIn K cd12 "is_plant" = true) (k12 : PySem.W.keepIn K (.ref p12) = true)
    (a13 : PySem.W.nsIn K mainGlobals "customer" = some (some (.ref p13))) (l13 : K.lookup p13 = some ⟨oc13, od13, .func (PySem.W.fnOf "customer" "customer" (defArgs sCustomer) (defBody sCustomer) (defScope sCustomer) .none kV13 dc13 pm13 an13 cd13 ct13), sl13⟩) (c13 : PySem.W.codeIn K cd13 "customer" = true) (k13 : PySem.W.keepIn K (.ref p13) = true)
    (a14 : PySem.W.nsIn K mainGlobals "suppliers" = some (some (.ref p14))) (l14 : K.lookup p14 = some ⟨oc14, od14, .func (PySem.W.fnOf "suppliers" "suppliers" (defArgs sSuppliers) (defBody sSuppliers) (defScope sSuppliers) .none kV14 dc14 pm14 an14 cd14 ct14), sl14⟩) (c14 : PySem.W.codeIn K cd14 "suppliers" = true) (k14 : PySem.W.keepIn K (.ref p14) = true)
    (a15 : PySem.W.nsIn K mainGlobals "makers" = some (some (.ref p15))) (l15 : K.lookup p15 = some ⟨oc15, od15, .func (PySem.W.fnOf "makers" "makers" (defArgs sMakers) (defBody sMakers) (defScope sMakers) .none kV15 dc15 pm15 an15 cd15 ct15), sl15⟩) (c15 : PySem.W.codeIn K cd15 "makers" = true) (k15 : PySem.W.keepIn K (.ref p15) = true)
    (a16 : PySem.W.nsIn K mainGlobals "size" = some (some (.ref p16))) (l16 : K.lookup p16 = some ⟨oc16, od16, .func (PySem.W.fnOf "size" "size" (defArgs sSize) (defBody sSize) (defScope sSize) .none kV16 dc16 pm16 an16 cd16 ct16), sl16⟩) (c16 : PySem.W.codeIn K cd16 "size" = true) (k16 : PySem.W.keepIn K (.ref p16) = true)
    (a17 : PySem.W.nsIn K mainGlobals "path_to_shop" = some (some (.ref p17))) (l17 : K.lookup p17 = some ⟨oc17, od17, .func (PySem.W.fnOf "path_to_shop" "path_to_shop" (defArgs sPathToShop) (defBody sPathToShop) (defScope sPathToShop) .none kV17 dc17 pm17 an17 cd17 ct17), sl17⟩) (c17 : PySem.W.codeIn K cd17 "path_to_shop" = true) (k17 : PySem.W.keepIn K (.ref p17) = true)
    (a18 : PySem.W.nsIn K mainGlobals "path_up" = some (some (.ref p18))) (l18 : K.lookup p18 = some ⟨oc18, od18, .func (PySem.W.fnOf "path_up" "path_up" (defArgs sPathUp) (defBody sPathUp) (defScope sPathUp) .none kV18 dc18 pm18 an18 cd18 ct18), sl18⟩) (c18 : PySem.W.codeIn K cd18 "path_up" = true) (k18 : PySem.W.keepIn K (.ref p18) = true)
    (a20 : PySem.W.nsIn K mainGlobals "_law_bag" = some (some (.ref p20))) (l20 : K.lookup p20 = some ⟨oc20, od20, .func (PySem.W.fnOf "_law_bag" "_law_bag" (defArgs sLawBag) (defBody sLawBag) (defScope sLawBag) .none kV20 dc20 pm20 an20 cd20 ct20), sl20⟩) (c20 : PySem.W.codeIn K cd20 "_law_bag" = true) (k20 : PySem.W.keepIn K (.ref p20) = true)
    (a21 : PySem.W.nsIn K mainGlobals "_law_pick" = some (some (.ref p21))) (l21 : K.lookup p21 = some ⟨oc21, od21, .func (PySem.W.fnOf "_law_pick" "_law_pick" (defArgs sLawPick) (defBody sLawPick) (defScope sLawPick) .none kV21 dc21 pm21 an21 cd21 ct21), sl21⟩) (c21 : PySem.W.codeIn K cd21 "_law_pick" = true) (k21 : PySem.W.keepIn K (.ref p21) = true)
    (a22 : PySem.W.nsIn K mainGlobals "_law_plant" = some (some (.ref p22))) (l22 : K.lookup p22 = some ⟨oc22, od22, .func (PySem.W.fnOf "_law_plant" "_law_plant" (defArgs sLawPlant) (defBody sLawPlant) (defScope sLawPlant) .none kV22 dc22 pm22 an22 cd22 ct22), sl22⟩) (c22 : PySem.W.codeIn K cd22 "_law_plant" = true) (k22 : PySem.W.keepIn K (.ref p22) = true)
    (a26 : PySem.W.nsIn K mainGlobals "_law_due" = some (some (.ref p26))) (l26 : K.lookup p26 = some ⟨oc26, od26, .func (PySem.W.fnOf "_law_due" "_law_due" (defArgs sLawDue) (defBody sLawDue) (defScope sLawDue) .none kV26 dc26 pm26 an26 cd26 ct26), sl26⟩) (c26 : PySem.W.codeIn K cd26 "_law_due" = true) (k26 : PySem.W.keepIn K (.ref p26) = true)
    (a27 : PySem.W.nsIn K mainGlobals "_law_others" = some (some (.ref p27))) (l27 : K.lookup p27 = some ⟨oc27, od27, .func (PySem.W.fnOf "_law_others" "_law_others" (defArgs sLawOthers) (defBody sLawOthers) (defScope sLawOthers) .none kV27 dc27 pm27 an27 cd27 ct27), sl27⟩) (c27 : PySem.W.codeIn K cd27 "_law_others" = true) (k27 : PySem.W.keepIn K (.ref p27) = true)
    (a28 : PySem.W.nsIn K mainGlobals "_law_path" = some (some (.ref p28))) (l28 : K.lookup p28 = some ⟨oc28, od28, .func (PySem.W.fnOf "_law_path" "_law_path" (defArgs sLawPath) (defBody sLawPath) (defScope sLawPath) .none kV28 dc28 pm28 an28 cd28 ct28), sl28⟩) (c28 : PySem.W.codeIn K cd28 "_law_path" = true) (k28 : PySem.W.keepIn K (.ref p28) = true)
    (a29 : PySem.W.nsIn K mainGlobals "law" = some (some (.ref p29))) (l29 : K.lookup p29 = some ⟨oc29, od29, .func (PySem.W.fnOf "law" "law" (defArgs sLaw) (defBody sLaw) (defScope sLaw) .none kV29 dc29 pm29 an29 cd29 ct29), sl29⟩) (c29 : PySem.W.codeIn K cd29 "law" = true) (k29 : PySem.W.keepIn K (.ref p29) = true)
    (aM_MOST_STATIONS : PySem.W.nsIn K mainGlobals "MOST_STATIONS" = some (some (.int 40 t_MOST_STATIONS)))
    (z_bool : PySem.W.nsIn K mainGlobals "bool" = some none)
    (z_enumerate : PySem.W.nsIn K mainGlobals "enumerate" = some none)
    (z_int : PySem.W.nsIn K mainGlobals "int" = some none)
    (z_isinstance : PySem.W.nsIn K mainGlobals "isinstance" = some none)
    (z_len : PySem.W.nsIn K mainGlobals "len" = some none)
    (z_list : PySem.W.nsIn K mainGlobals "list" = some none)
    (z_max : PySem.W.nsIn K mainGlobals "max" = some none)
    (z_range : PySem.W.nsIn K mainGlobals "range" = some none)
    (z_repr : PySem.W.nsIn K mainGlobals "repr" = some none)
    (z_set : PySem.W.nsIn K mainGlobals "set" = some none)
    (z_tuple : PySem.W.nsIn K mainGlobals "tuple" = some none) :
    codeAny (model l.prog w) callerA (.call (.ref fa) ⟨[.ref a], []⟩) (CR CX0 [] l.prog w H st (fun v _ => v = .bl true) fun _ _ _ => False) st := by
  have e := hfa.symm.trans (PySem.W.mg_of X G a29)
  cases e
  have F6 := fun_mk (st := sIsInteger) l6 c6 k6
  have b6 := F6.binds (ps := ["value"]) fun _ _ _ _ _ _ us hl => match us, hl with | [_], _ => rfl
  have F7 := fun_mk (st := sFitsPlant) l7 c7 k7
  have b7 := F7.binds (ps := ["value"]) fun _ _ _ _ _ _ us hl => match us, hl with | [_], _ => rfl
  have F8 := fun_mk (st := sFitsStation) l8 c8 k8
  have b8 := F8.binds (ps := ["plant", "value"]) fun _ _ _ _ _ _ us hl => match us, hl with | [_, _], _ => rfl
  have F9 := fun_mk (st := sCheckPlant) l9 c9 k9
  have b9 := F9.binds (ps := ["plant"]) fun _ _ _ _ _ _ us hl => match us, hl with | [_], _ => rfl
  have F10 := fun_mk (st := sCheckStation) l10 c10 k10
  have b10 := F10.binds (ps := ["plant", "station"]) fun _ _ _ _ _ _ us hl => match us, hl with | [_, _], _ => rfl
  have F12 := fun_mk (st := sIsPlant) l12 c12 k12
  have b12 := F12.binds (ps := ["value"]) fun _ _ _ _ _ _ us hl => match us, hl with | [_], _ => rfl
  have F13 := fun_mk (st := sCustomer) l13 c13 k13
  have b13 := F13.binds (ps := ["plant", "station"]) fun _ _ _ _ _ _ us hl => match us, hl with | [_, _], _ => rfl
  have F14 := fun_mk (st := sSuppliers) l14 c14 k14
  have b14 := F14.binds (ps := ["plant", "station"]) fun _ _ _ _ _ _ us hl => match us, hl with | [_, _], _ => rfl
  have F15 := fun_mk (st := sMakers) l15 c15 k15
  have b15 := F15.binds (ps := ["plant"]) fun _ _ _ _ _ _ us hl => match us, hl with | [_], _ => rfl
  have F16 := fun_mk (st := sSize) l16 c16 k16
  have b16 := F16.binds (ps := ["plant", "station"]) fun _ _ _ _ _ _ us hl => match us, hl with | [_, _], _ => rfl
  have F17 := fun_mk (st := sPathToShop) l17 c17 k17
  have b17 := F17.binds (ps := ["plant", "station"]) fun _ _ _ _ _ _ us hl => match us, hl with | [_, _], _ => rfl
  have F18 := fun_mk (st := sPathUp) l18 c18 k18
  have b18 := F18.binds (ps := ["plant", "station"]) fun _ _ _ _ _ _ us hl => match us, hl with | [_, _], _ => rfl
  have F20 := fun_mk (st := sLawBag) l20 c20 k20
  have b20 := F20.binds (ps := ["cell"]) fun _ _ _ _ _ _ us hl => match us, hl with | [_], _ => rfl
  have F21 := fun_mk (st := sLawPick) l21 c21 k21
  have b21 := F21.binds (ps := ["bag", "many"]) fun _ _ _ _ _ _ us hl => match us, hl with | [_, _], _ => rfl
  have F22 := fun_mk (st := sLawPlant) l22 c22 k22
  have b22 := F22.binds (ps := ["bag", "most"]) fun _ _ _ _ _ _ us hl => match us, hl with | [_, _], _ => rfl
  have F26 := fun_mk (st := sLawDue) l26 c26 k26
  have b26 := F26.binds (ps := ["value"]) fun _ _ _ _ _ _ us hl => match us, hl with | [_], _ => rfl
  have F27 := fun_mk (st := sLawOthers) l27 c27 k27
  have b27 := F27.binds (ps := ["bag", "plant"]) fun _ _ _ _ _ _ us hl => match us, hl with | [_, _], _ => rfl
  have F28 := fun_mk (st := sLawPath) l28 c28 k28
  have b28 := F28.binds (ps := ["plant", "station"]) fun _ _ _ _ _ _ us hl => match us, hl with | [_, _], _ => rfl
  have T : Tx K mg := { f_is_integer := p6, d_is_integer := _, F_is_integer := F6, b_is_integer := b6, g_is_integer := PySem.W.mg_of X G a6, f_fits_plant := p7, d_fits_plant := _, F_fits_plant := F7, b_fits_plant := b7, g_fits_plant := PySem.W.mg_of X G a7, f_fits_station := p8, d_fits_station := _, F_fits_station := F8, b_fits_station := b8, g_fits_station := PySem.W.mg_of X G a8, f_check_plant := p9, d_check_plant := _, F_check_plant := F9, b_check_plant := b9, g_check_plant := PySem.W.mg_of X G a9, f_check_station := p10, d_check_station := _, F_check_station := F10, b_check_station := b10, g_check_station := PySem.W.mg_of X G a10, f_is_plant := p12, d_is_plant := _, F_is_plant := F12, b_is_plant := b12, g_is_plant := PySem.W.mg_of X G a12, f_customer := p13, d_customer := _, F_customer := F13, b_customer := b13, g_customer := PySem.W.mg_of X G a13, f_suppliers := p14, d_suppliers := _, F_suppliers := F14, b_suppliers := b14, g_suppliers := PySem.W.mg_of X G a14, f_makers := p15, d_makers := _, F_makers := F15, b_makers := b15, g_makers := PySem.W.mg_of X G a15, f_size := p16, d_size := _, F_size := F16, b_size := b16, g_size := PySem.W.mg_of X G a16, f_path_to_shop := p17, d_path_to_shop := _, F_path_to_shop := F17, b_path_to_shop := b17, g_path_to_shop := PySem.W.mg_of X G a17, f_path_up := p18, d_path_up := _, F_path_up := F18, b_path_up := b18, g_path_up := PySem.W.mg_of X G a18, f__law_bag := p20, d__law_bag := _, F__law_bag := F20, b__law_bag := b20, g__law_bag := PySem.W.mg_of X G a20, f__law_pick := p21, d__law_pick := _, F__law_pick := F21, b__law_pick := b21, g__law_pick := PySem.W.mg_of X G a21, f__law_plant := p22, d__law_plant := _, F__law_plant := F22, b__law_plant := b22, g__law_plant := PySem.W.mg_of X G a22, f__law_due := p26, d__law_due := _, F__law_due := F26, b__law_due := b26, g__law_due := PySem.W.mg_of X G a26, f__law_others := p27, d__law_others := _, F__law_others := F27, b__law_others := b27, g__law_others := PySem.W.mg_of X G a27, f__law_path := p28, d__law_path := _, F__law_path := F28, b__law_path := b28, g__law_path := PySem.W.mg_of X G a28, t_MOST_STATIONS := t_MOST_STATIONS, g_MOST_STATIONS := PySem.W.mg_of X G aM_MOST_STATIONS, n_bool := PySem.W.mg_none_of X G z_bool, n_enumerate := PySem.W.mg_none_of X G z_enumerate, n_int := PySem.W.mg_none_of X G z_int, n_isinstance := PySem.W.mg_none_of X G z_isinstance, n_len := PySem.W.mg_none_of X G z_len, n_list := PySem.W.mg_none_of X G z_list, n_max := PySem.W.mg_none_of X G z_max, n_range := PySem.W.mg_none_of X G z_range, n_repr := PySem.W.mg_none_of X G z_repr, n_set := PySem.W.mg_none_of X G z_set, n_tuple := PySem.W.mg_none_of X G z_tuple }
  have room : Room 6 callerA := ⟨rfl, by decide, by decide⟩
  obtain ⟨t, ht, hq⟩ := law_body (P := l.prog) (w := w) (base := base) (f := fa) (cdv := cd29) (st := st) T hl hS (room.deeper _)
  exact at_body (us := [.ref a]) (vs := [.ref a]) l29 c29 scLaw room en (.of_eq rfl) (.cons rfl .nil) rfl ⟨t, ht.nox, hq⟩
end PT
open PySem PySem.W PyProof.Rows
set_option maxHeartbeats 0 in
theorem PySem.Challenge.cw_pulltree_k01_plants_holds : PySem.Challenge.rw_pulltree_k01_plants.Holds := by
  w_on; o_law; k_head; (case hw => w_witness2)
  k_fill
  refine PT.walk_G (l := PySem.Challenge.rw_pulltree_k01_plants) (n := 63) rfl (by decide) rfl (fun w h Y => PySem.W.kIn_of Y) ?F
  case F =>
    intro w mg fa a st base H ns kin gl hmg kb gb hl hO hS en
    refine' PT.all_mk kin gl hmg hl hS en ?a6 ?l6 ?c6 ?k6 ?a7 ?l7 ?c7 ?k7 ?a8 ?l8 ?c8 ?k8 ?a9 ?l9 ?c9 ?k9 ?a10 ?l10 ?c10 ?k10 ?a12 ?l12 ?c12 ?k12 ?a13 ?l13 ?c13 ?k13 ?a14 ?l14 ?c14 ?k14 ?a15 ?l15 ?c15 ?k15 ?a16 ?l16 ?c16 ?k16 ?a17 ?l17 ?c17 ?k17 ?a18 ?l18 ?c18 ?k18 ?a20 ?l20 ?c20 ?k20 ?a21 ?l21 ?c21 ?k21 ?a22 ?l22 ?c22 ?k22 ?a26 ?l26 ?c26 ?k26 ?a27 ?l27 ?c27 ?k27 ?a28 ?l28 ?c28 ?k28 ?a29 ?l29 ?c29 ?k29 ?aM_MOST_STATIONS ?z_bool ?z_enumerate ?z_int ?z_isinstance ?z_len ?z_list ?z_max ?z_range ?z_repr ?z_set ?z_tuple
    (case a6 => k_is); (case l6 => k_is); (case c6 => k_is); (case k6 => k_is); (case a7 => k_is); (case l7 => k_is); (case c7 => k_is); (case k7 => k_is); (case a8 => k_is); (case l8 => k_is); (case c8 => k_is); (case k8 => k_is); (case a9 => k_is); (case l9 => k_is); (case c9 => k_is); (case k9 => k_is); (case a10 => k_is); (case l10 => k_is); (case c10 => k_is); (case k10 => k_is); (case a12 => k_is); (case l12 => k_is); (case c12 => k_is); (case k12 => k_is); (case a13 => k_is); (case l13 => k_is); (case c13 => k_is); (case k13 => k_is); (case a14 => k_is); (case l14 => k_is); (case c14 => k_is); (case k14 => k_is); (case a15 => k_is); (case l15 => k_is); (case c15 => k_is); (case k15 => k_is); (case a16 => k_is); (case l16 => k_is); (case c16 => k_is); (case k16 => k_is); (case a17 => k_is); (case l17 => k_is); (case c17 => k_is); (case k17 => k_is); (case a18 => k_is); (case l18 => k_is); (case c18 => k_is); (case k18 => k_is); (case a20 => k_is); (case l20 => k_is); (case c20 => k_is); (case k20 => k_is); (case a21 => k_is); (case l21 => k_is); (case c21 => k_is); (case k21 => k_is); (case a22 => k_is); (case l22 => k_is); (case c22 => k_is); (case k22 => k_is); (case a26 => k_is); (case l26 => k_is); (case c26 => k_is); (case k26 => k_is); (case a27 => k_is); (case l27 => k_is); (case c27 => k_is); (case k27 => k_is); (case a28 => k_is); (case l28 => k_is); (case c28 => k_is); (case k28 => k_is); (case a29 => k_is); (case l29 => k_is); (case c29 => k_is); (case k29 => k_is); (case aM_MOST_STATIONS => k_is); (case z_bool => k_is); (case z_enumerate => k_is); (case z_int => k_is); (case z_isinstance => k_is); (case z_len => k_is); (case z_list => k_is); (case z_max => k_is); (case z_range => k_is); (case z_repr => k_is); (case z_set => k_is); (case z_tuple => k_is)


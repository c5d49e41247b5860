import PyProof.Rows.All
import Wide.All
import OpenK.AllK
import Wide.FinOn
import HandS.ForMost
import HandS.IsInst
import HandS.TupAny
import HandS.TupMul
import HandS.Conv
import HandS.Style
import HandS.Flow
import HandS.Walk
import KE.GoesEnum
import KE.KRevSl
import HandS.RaiseMore
import HandS.SetFor
import HandS.Strs
import HandS.Nested
import HandS.ExcValue
import KE.SortKeyHeap
import KE.SortData
import HandS.EndTab
import KE.KNestM
import HandS.Defaults
import HandS.ForExc
import KE.DataMinMax
import KE.DatumOrd
import HandS.SortRule
import HandS.HotCalls
import HandS.ExcIs
import HandS.ExcCtx
import KE.KExcIs
import HandS.MakeKwOnly
import HandS.OwnEq
import HandS.NamedTupGet
import HandS.ExcOwn
import KE.DataMinKey
import HandS.SortInts
import HandS.Wide
import HandS.Evl
import HandS.FStr
import HandS.Text
import HandS.StrMore
import HandS.ReplaceLit
import PyProof.StrLawsReplace
import HandS.More
import HandS.Zip
import PyProof.StrOps2
import HandS.MakeKw
import HandS.Deep
import PySem.Challenge.RW_pulltree_k56_console_operations
set_option Elab.async false
set_option linter.all false
set_option maxRecDepth 100000
set_option maxHeartbeats 4000000
/-! rules that the layer lacks: enumerate over a tuple, a list read and stored at one place, a tuple the other way round, repr of data -/
namespace PT
open PySem PySem.Spec PyProof.Rows L2

/-! ### enumerate(v) with one argument, v anything that begins -/
theorem meets_enum1 {v : Value} {o : Obj} {H : Heap → Prop} (B : Begins v o H) :
    Meets (Builtin.«enumerate.__new__» ⟨[.type "enumerate", v], []⟩) (fun _ R st => H st.heap ∧
      R (.ok (.ret (.ref (st.heap.push o).objs.size))) { st with heap := (st.heap.push o).push { cls := .type "enumerate", data := .fields #[.none, .bool false, .ref st.heap.objs.size, rawInt 0, .none, .none] } }) :=
  .of_wp fun prog w A R st hh => by
    obtain ⟨hp, gg, dd, tt, oo⟩ := st
    obtain ⟨b1, b2⟩ := hh
    have se := sub_enumerate
    have go : ∀ {A' : Around} {E' : Value → Shared → Prop} {Q' : Value → Shared → Prop}, Q' (.ref hp.objs.size) ⟨hp.push o, gg, dd, tt, oo⟩ → wpAny (model prog w) A' (pyIter v) Q' E' ⟨hp, gg, dd, tt, oo⟩ :=
      fun z => B.iter prog w _ _ ⟨hp, gg, dd, tt, oo⟩ _ b1 z
    wp_walk using go
    refine wpAny_stack_any fun frs => wpAny_pure ?_
    split
    · rename_i cc _ _ _ _ _
      cases (cc == Value.type "enumerate") <;> (wp_walk using go; exact ⟨_, rfl, b2⟩)
    · wp_walk using go
      exact ⟨_, rfl, b2⟩
theorem enum_call1 {prog : Program} {w : World} {A : Around} {E : Value → Shared → Prop} {st : Shared} {v : Value} {o : Obj} {H : Heap → Prop} {Q : Value → Shared → Prop} (B : Begins v o H) (b1 : H st.heap)
    (fin : ∀ h2, IsEnum h2 (st.heap.objs.size + 1) st.heap.objs.size 0 .none → h2.get? st.heap.objs.size = some o → (∀ b u, st.heap.get? b = some u → h2.get? b = some u) → Q (.ref (st.heap.objs.size + 1)) { st with heap := h2 }) :
    wpAny (model prog w) A (call (.type "enumerate") [v]) Q E st := by
  refine callType_new F.called_enumerate (by decide) (F.typeCall_enumerate_1 _) (F.newCall_enumerate_1 _) (fun ob => F.args_object_init_2 ob _) F.entry_enumerate_new (meets_enum1 B) ⟨b1, ?_⟩
  have sz : (st.heap.push o).objs.size = st.heap.objs.size + 1 := Heap.size_push ..
  show _ ∧ _
  rw [sz]
  have en : IsEnum ((st.heap.push o).push { cls := .type "enumerate", data := .fields #[.none, .bool false, .ref st.heap.objs.size, rawInt 0, .none, .none] }) (st.heap.objs.size + 1) st.heap.objs.size 0 .none := by
    have z := Heap.get?_push_size (st.heap.push o) (o := { cls := .type "enumerate", data := .fields #[.none, .bool false, .ref st.heap.objs.size, rawInt 0, .none, .none] }) rfl
    rw [sz] at z
    exact z
  exact ⟨⟨_, en, rfl⟩, fin _ en (Heap.get?_push_of_some _ (Heap.get?_push_size _ B.free)) fun b u y => Heap.get?_push_of_some _ (Heap.get?_push_of_some _ y)⟩

/-- the tuple at a, each item in a new pair with its place -/
def ItE (K : PySem.W.Frag) (a : Addr) : It :=
  ⟨fun i H => ∃ (xs : List V) (x : V), SqT K H a xs ∧ xs[i]? = some x,
   fun i H v H' => ∃ T x, v = .ref T ∧ H T = none ∧ H' = upd H T (.tup [.int (i : Nat), x]) ∧ ∀ xs, SqT K H a xs → xs[i]? = some x,
   fun i H => ∃ xs : List V, SqT K H a xs ∧ xs.length ≤ i⟩
theorem turn_E {P : Program} {w : World} {K : PySem.W.Frag} {elts : List Expr} {kk : Nat} {tpos : Pos} (a e it : Addr) :
    Turn P w K (.Tuple elts kk tpos) (ItE K a) [e, it] e (fun i h => (∃ old, IsEnum h e it ((i : Nat) : Int) old) ∧ h.IsTupleIter it a i ∧ e ≠ it) where
  mem := by simp
  obj := fun i h st b hb => by
    obtain ⟨⟨old, he⟩, ⟨o, ho, hc, hd⟩, _⟩ := st
    rcases List.mem_cons.mp hb with z | z
    · rw [z]
      exact ⟨_, he, fun v q => nomatch q⟩
    · rw [List.mem_singleton.mp z]
      exact ⟨o, ho, fun v q => by rw [hd] at q; cases q⟩
  keep := fun i h h' st k => ⟨let ⟨old, he⟩ := st.1; ⟨old, k e (by simp) _ he⟩, st.2.1.at fun o q => k it (by simp) o q, st.2.2⟩
  item := by
    intro X hP hw hK hc i pins st σ H E I hf tn hg
    subst hP hw hK
    obtain ⟨⟨old, he⟩, hit, hne⟩ := tn
    obtain ⟨xs, x, hq, hx⟩ := hg
    obtain ⟨its, rv, p, hz⟩ := I.tuple hq
    obtain ⟨u, hu, ru⟩ := rv.get hx
    have le : e < st.heap.objs.size := Heap.lt_size he
    have li : it < st.heap.objs.size := let ⟨_, q, _⟩ := hit; Heap.lt_size q
    have hta : a ≠ it := fun z => by
      obtain ⟨o1, q1, c1, _⟩ := hit
      obtain ⟨o2, q2, c2, _⟩ := p
      rw [z, q1] at q2
      cases q2
      rw [c1] at c2
      exact absurd (Value.type.inj c2) (by decide)
    have D := Draws.tuple (prog := X.prog) (w := X.w) (A := X.A.in1) (I.ok.hd hc) it a hta its.toArray
    have hi : i < its.length := by
      obtain ⟨h1, _⟩ := List.getElem?_eq_some_iff.mp hu
      exact h1
    refine wpAny_pyNext_enum_itemD D he ⟨hit, p⟩ (by simpa using hi) hne ?_ fun y h2 tk hy ho sn hT hsz hk => ?_
    · intro hm
      rcases List.mem_cons.mp hm with z | z
      · exact hne z
      · have z2 := List.mem_singleton.mp z
        obtain ⟨o2, q2, c2, _⟩ := p
        have q3 : st.heap.get? e = some _ := he
        rw [z2, q2] at q3
        cases q3
        exact absurd (Value.type.inj c2) (by decide)
    have ey : y = u := by
      have e1 : its.toArray[i]? = some u := by simpa using hu
      exact Option.some.inj (hy.symm.trans e1)
    subst ey
    refine ⟨_, rfl, wpAny_letOwnedTupleGo_enum (s := { st with heap := h2, toks := tk + 1 }) ho fun h3 he3 sb => ?_⟩
    have hT3 : h3.get? st.heap.objs.size = some { cls := .type "tuple", data := .seq #[.int i tk, y] } := (sb.2 _ (Nat.ne_of_gt le)).trans hT
    have nw : ObjOk X.prog X.w (upd H st.heap.objs.size (.tup [.int (i : Nat), x])) h3 st.heap.objs.size (.tup [.int (i : Nat), x]) :=
      ⟨by show 2 ≤ sizeLine; decide, [.int i tk, y], .cons ⟨_, rfl⟩ (.cons ru .nil), ⟨_, hT3, rfl, _, rfl⟩⟩
    have I1 : Inv X pins σ (upd H st.heap.objs.size (.tup [.int (i : Nat), x])) { st with heap := h3, toks := tk + 1 } :=
      I.turnedNew (ch := [e, it]) (fun b ob hb q => (sb.2 b (fun z => hb (by simp [z]))).trans (hk b ob (fun z => hb (by simp [z])) (fun z => hb (by simp [z])) q)) hf (Nat.le_refl _) nw
    refine ⟨.ref st.heap.objs.size, _, I1, rfl, ⟨_, x, rfl, I.hok.fresh (Nat.le_refl _), rfl, fun ys hy => by rw [I.tuple_inj hy hq]; exact hx⟩, ⟨⟨y, ?_⟩, sn.1.at fun o q => (sb.2 it (Ne.symm hne)).trans q, hne⟩, fun b hb => ?_⟩
    · have e1 : ((i + 1 : Nat) : Int) = (i : Int) + 1 := by omega
      exact e1 ▸ he3
    · have hb' : b < st.heap.objs.size := by
        rcases List.mem_cons.mp hb with z | z
        · exact z ▸ le
        · exact (List.mem_singleton.mp z) ▸ li
      rw [upd_ne (Nat.ne_of_lt hb')]
      exact (hf b hb).1
  done := by
    intro X hP hw hK hc i pins st σ H E I hf tn hg
    subst hP hw hK
    obtain ⟨⟨old, he⟩, hit, hne⟩ := tn
    obtain ⟨xs, hq, hx⟩ := hg
    obtain ⟨its, rv, p, hz⟩ := I.tuple hq
    obtain ⟨f0, f1, f2, f3, f4, f5⟩ := hf it (by simp)
    have hl := rv.length
    have hT : st.TypeIs (.ref e) "enumerate" := ⟨_, he, rfl⟩
    unfold pyNext
    refine wpAny_bind (wpAny_attempt (wpAny_callSpecial?_slot (name := Str.ofString "__next__") hT F.slot_enumerate_next (wpAny_call_entry F.slot_enumerate_next hT F.entry_enumerate_next ?_ (F.args_enumerate_next_1 _))))
    show wpAny _ _ (field (.ref e) 2 >>= _) _ _ _
    refine wpAny_bind (wpAny_field he rfl (x := .ref it) rfl ?_)
    refine wpAny_bind (wpAny_nextOf_tuple_end (I.ok.hd hc) hit p (by simp; omega) fun h2 x e1 hx2 => ?_)
    obtain ⟨o, ho, hcc⟩ := hx2
    refine wpAny_bind (wpAny_isInstance (T := "StopIteration") (b := true) ⟨o, ho, hcc⟩ isSubtype_stop ?_)
    exact wpAny_pure ⟨rfl, I.turned (t' := st.toks) (fun b o hb q => e1 b o hb q) f0 f1 f3 f4 f5⟩
  self := fun A i s Q E tn h => let ⟨⟨_, he⟩, _⟩ := tn; wpAny_pyIter_enum he h
def iE (K : PySem.W.Frag) (ta : TA) : TI := fun σ H R => ta σ H fun vs H1 => ∃ a xs, vs = [.ref a] ∧ SqT K H1 a xs ∧ R (ItE K a) H1
theorem pi_E {X : Cx} {e : Expr} {ta : TA} {p pos tpos : Pos} {elts : List Expr} {kk : Nat} (hg : Gl X "enumerate") (hm : X.mg "enumerate" = none) (ha : PA X [e] ta) (hs : starEach [e] X.env = [(false, eval e X.env)] := by rfl) :
    PI X (.Tuple elts kk tpos) (.Call (.Name "enumerate" p) [e] [] pos) (iE X.K ta) := by
  refine ⟨fun pins st σ H R I h => Call_ (ld_blt I hg hm boot_enumerate (PyProof.Rows.callWith_type1 (thn (ha.run pos pins st σ H _ I h) fun us s1 ⟨vs, H1, I1, r1, q1⟩ => ?_) hs rfl))⟩
  obtain ⟨a, xs, ex, hq, q⟩ := q1
  subst ex
  cases r1 with
  | cons r rr =>
    cases rr
    cases r
    obtain ⟨its, rv, pp, hz⟩ := I1.tuple hq
    refine enum_call1 (begins_tuple a its.toArray) pp fun h2 he hi hk => wpAny_pyIter_enum he ?_
    have I2 : Inv X pins σ H1 { s1 with heap := h2 } := I1.kept (t' := s1.toks) hk
    refine ⟨s1.heap.objs.size + 1, [s1.heap.objs.size + 1, s1.heap.objs.size], _, _, H1, rfl, I2, turn_E a (s1.heap.objs.size + 1) s1.heap.objs.size, ⟨⟨.none, he⟩, ⟨_, hi, rfl, rfl⟩, Nat.succ_ne_self _⟩, fun b hb => ?_, q⟩
    have hle : s1.heap.objs.size ≤ b := by
      rcases List.mem_cons.mp hb with z | z
      · rw [z]
        exact Nat.le_add_right _ _
      · rw [List.mem_singleton.mp z]
        exact Nat.le_refl _
    exact I1.fpOk hle (I1.hok.fresh hle)
theorem walk_E {K : PySem.W.Frag} {a : Addr} {xs : List V} : Walk (ItE K a) xs.length (fun H => SqT K H a xs) (YPair (fun i => some (.int (i : Nat))) (fun i => xs[i]?)) := by
  refine ⟨fun i _ hi q => ⟨xs, xs[i], q, by simp [hi]⟩, fun _ q => ⟨xs, q, Nat.le_refl _⟩, fun i H v H' _ q y => ?_⟩
  obtain ⟨T, x, h1, h2, h3, h4⟩ := y
  exact ⟨T, .int (i : Nat), x, h1, h2, h3, rfl, h4 xs q⟩

/-! ### a list's item read for o[i] op= v -/
theorem get_lst {X : Cx} : PGet X (fun o i H Q => ∃ p xs j v, o = .ref p ∧ i = .int ((j : Nat) : Int) ∧ SqL X.K H p xs ∧ xs[j]? = some v ∧ Q v H) := by
  intro pins st σ H o i ov iv Q I ro ri h
  obtain ⟨p, xs, j, v, rfl, rfl, hq, hv, q⟩ := h
  cases ro
  obtain ⟨t, rfl⟩ := ri
  obtain ⟨its, r, pl, hz⟩ := I.list hq
  obtain ⟨u, hu, ru⟩ := r.get hv
  have hn := line63
  have hl := r.length
  have hj : j < its.length := (List.getElem?_eq_some_iff.mp hu).1
  exact wpAny_getItem_list pl.isList (by omega) (by omega) (x := u) (by simpa using hu) ⟨v, H, I, ru, q⟩

end PT

set_option maxHeartbeats 4000000
/-! repr of data that the law shows: scalars, rows of ints, tuples of such items and of one odd thing -/
namespace PT
open PySem PySem.Spec PyProof.Rows L2

/-! ### t[::-1] of a tuple -/
section
variable {prog : Program} {w : World} {A : Around} {E : Value → Shared → Prop} {st : Shared}
end
section
variable {X : Cx}
def tRevT (K : PySem.W.Frag) (te : TE) : TE := fun σ H Q => te σ H fun x H1 => ∃ a xs, x = .ref a ∧ SqT K H1 a xs ∧ ∀ p, H1 p = none → Q (.ref p) (upd H1 p (.tup xs.reverse))
end
end PT

set_option maxHeartbeats 4000000
/-! repr of data that stands in the heap -/
namespace PT
open PySem PySem.Spec PyProof.Rows L2

/-! ### data in the heap -/
inductive Si (H : Hp) : V → PyData → Prop
  | non : Si H .non .none
  | bl (b : Bool) : Si H (.bl b) (.bool b)
  | int (i : Int) : Si H (.int i) (.int i)
  | str (x : Str) : Si H (.str x) (.str x)
  | dic {a : Addr} : H a = some (.dK []) → Si H (.ref a) (.dict [])
inductive Rp (K : PySem.W.Frag) (H : Hp) : V → PyData → Prop
  | dp {v : V} {d : PyData} : Dp K H v d → Rp K H v d
  | dic {a : Addr} : H a = some (.dK []) → Rp K H (.ref a) (.dict [])
  | tup {a : Addr} {xs : List V} {ds : List PyData} : SqT K H a xs → Paired (Si H) xs ds → Rp K H (.ref a) (.tuple ds)

theorem seqT {K : PySem.W.Frag} {H H' : Hp} {a : Addr} {xs : List V} (e : Same H H') (h : SqT K H a xs) : SqT K H' a xs := by
  rcases h with (h | ⟨o, h⟩) | h
  · exact .inl (.inl (e _ _ h))
  · exact .inl (.inr ⟨o, e _ _ h⟩)
  · exact .inr h
mutual
theorem dp_same {K : PySem.W.Frag} {H H' : Hp} (e : Same H H') : ∀ (d : PyData) (v : V), Dp K H v d → Dp K H' v d
  | .none, _, h => by cases h; exact .non
  | .bool b, _, h => by cases h; exact .bl b
  | .int i, _, h => by cases h; exact .int i
  | .str x, _, h => by cases h; exact .str x
  | .list ds, _, h => by
    cases h with
    | lst a b => exact .lst (e.seq a) (dps_same e ds _ b)
  | .tuple ds, _, h => by
    cases h with
    | tup a b => exact .tup (seqT e a) (dps_same e ds _ b)
  | .dict _, _, h => by cases h
theorem dps_same {K : PySem.W.Frag} {H H' : Hp} (e : Same H H') : ∀ (ds : List PyData) (vs : List V), DpAll K H vs ds → DpAll K H' vs ds
  | [], _, h => by cases h; exact .nil
  | d :: ds, _, h => by
    cases h with
    | cons a b => exact .cons (dp_same e d _ a) (dps_same e ds _ b)
end
mutual
theorem dp_nd {K : PySem.W.Frag} {H : Hp} : ∀ (d : PyData) (v : V), Dp K H v d → d.hasDict = false
  | .none, _, _ => rfl
  | .bool _, _, _ => rfl
  | .int _, _, _ => rfl
  | .str _, _, _ => rfl
  | .list ds, _, h => by
    cases h with
    | lst a b => simp only [PyData.hasDict]; exact dps_nd ds _ b
  | .tuple ds, _, h => by
    cases h with
    | tup a b => simp only [PyData.hasDict]; exact dps_nd ds _ b
  | .dict _, _, h => by cases h
theorem dps_nd {K : PySem.W.Frag} {H : Hp} : ∀ (ds : List PyData) (vs : List V), DpAll K H vs ds → PyData.hasDictAll ds = false
  | [], _, _ => rfl
  | d :: ds, _, h => by
    cases h with
    | cons a b => simp only [PyData.hasDictAll, dp_nd d _ a, dps_nd ds _ b, Bool.or_self]
end
theorem dp_ints {K : PySem.W.Frag} {H : Hp} : ∀ ns : List Int, DpAll K H (ns.map V.int) (ns.map PyData.int)
  | [] => .nil
  | n :: ns => .cons (.int n) (dp_ints ns)

section
variable {X : Cx} {pins : List (Addr × Obj)} {σ : List (Option V)} {H : Hp} {st : Shared}
theorem dic_reads {a : Addr} (I : Inv X pins σ H st) (q : H a = some (.dK [])) : Reads st.heap (.ref a) (.dict []) ([a] ++ []) ∧ sysModules ≠ a := by
  obtain ⟨_, hs, vs, rel, dd⟩ := dk_of I.hok q
  obtain ⟨o, es, ep, e1, e2, e3, e4⟩ := dd
  cases rel
  have hes : es.toList = [] := by
    have z := e4.2.1.length
    exact List.eq_nil_of_length_eq_zero z
  refine ⟨.dict e1 e2.1 e3 ?_ ?_, fun z => ?_⟩
  · rw [hes]; exact .nil
  · rw [hes]; exact .nil
  · rw [← z] at hs
    simp at hs
end

/-! ### what is short enough to be shown -/
structure Nice (W k : Nat) (d : PyData) : Prop where
  sh : d.showable = true
  dp : d.depth ≤ k
  lv : d.leavesShort 60 = true
  wt : d.weight ≤ W
theorem Nice.shown {W k : Nat} {d : PyData} (n : Nice W k d) (hW : W ≤ 270000 := by decide) : d.shown.length ≤ sizeLine := by
  have h1 := PyData.shown_le 60 (by decide) d n.lv
  have h2 := n.wt
  have h3 := sizeLine_eq
  have h4 : (60 + 2) * d.weight ≤ (60 + 2) * W := Nat.mul_le_mul_left _ h2
  have h5 : (60 + 2) * W ≤ (60 + 2) * 270000 := Nat.mul_le_mul_left _ hW
  omega
theorem Nice.mono {W W' k k' : Nat} {d : PyData} (n : Nice W k d) (hW : W ≤ W' := by decide) (hk : k ≤ k' := by decide) : Nice W' k' d := ⟨n.sh, Nat.le_trans n.dp hk, n.lv, Nat.le_trans n.wt hW⟩
theorem nice_int {i : Int} (h : i.natAbs < 10 ^ 50) : Nice 170 0 (.int i) := by
  have hl : i.natAbs.log2 < 169 := by
    by_cases z : i.natAbs = 0
    · rw [z]; decide
    · exact (Nat.log2_lt z).mpr (Nat.lt_trans h (by decide))
  refine ⟨by simp only [PyData.showable, decide_eq_true_eq]; omega, Nat.le_refl _, ?_, ?_⟩
  · simp only [PyData.leavesShort, decide_eq_true_eq]
    have z := int_text_length_le10 (k := 50) (by decide) h
    have z2 : (PyData.shown (.int i)).length = (toString i).length := by
      show (Str.ofString (toString i)).length = _
      exact PySem.ofString_length _
    omega
  · simp only [PyData.weight]
    split <;> omega
/-! ### repr(v) -/
section
variable {X : Cx}
end
end PT

set_option maxHeartbeats 4000000
/-! the law's own call, where it is known that nothing is being shown: its body may use repr of data -/
namespace PT
open PySem PySem.Spec PyProof.Rows L2

section
variable {CX : CXT} {P : Program} {w : World} {K : PySem.W.Frag} {mg : Str → Option Value} {base : Heap}
/-- a def's call at one Around, from the reading of its body there -/
theorem at_body {k : Nat} {f : Addr} {name qual : Str} {params : Arguments} {body : List Stmt} {scope : Scope} {dV kV doc pm cdv ct oc : Value} {an od : Option Addr} {osl : Array (Option Value)} {N ps : List Str} {A : Around} {outer : List Env} {st : Shared} {H : Hp} {args : Args} {us : List Value} {vs : List V} {Q : VK} {E : XK}
    (lk : K.lookup f = some ⟨oc, od, .func (PySem.W.fnOf name qual params body scope dV kV doc pm an cdv ct), osl⟩) (cd : PySem.W.codeIn K cdv qual = true) (S : FnScope N ps scope) (room : Room (k + 1) A) (e0 : Env0 P w K mg base A outer st H)
    (bd : BindsTo st (PySem.W.fnOf name qual params body scope dV kV doc pm an cdv ct) args (ps.zip us)) (rv : Vals vs us) (ln : vs.length = ps.length)
    (rd : ∃ t, PSs (cxOf CX P w K mg base N qual scope f cdv A outer st H E) body t ∧ t { nx := fun _ H' => Q .non H', rt := Q } (start N vs) H) :
    codeAny (model P w) A (.call (.ref f) args) (CR CX outer P w H st Q E) st := by
  have kin : K.In st.heap := e0.mod.kin.keeps fun b o z => (e0.bs b o z).1
  have nol : st.heap.NoLimit := e0.mod.nolimit.keeps fun b o z => (e0.bs b o z).1
  have kinds : ∀ y ∈ ps.zip us, scope.names.lookup y.1 = some .local ∨ (scope.names.lookup y.1 = some .cell ∧ ((cellsFrom (st.heap.objs.size + 1) scope.names []).lookup y.1).isSome = true) := by
    rintro ⟨n, v⟩ hy
    exact (S.par n (List.of_mem_zip hy).1).imp id fun z => ⟨z, PySem.W.cellsFrom_some _ _ _ (.inl z)⟩
  refine codeAny_call_function room.depth (kin _ _ lk) rfl S.co S.gen rfl (PySem.W.codeRec_of kin cd) (bd _ _ _ _ (wpAny_newFunctionEnv_cells S.kind kinds fun env ee s1 x => ?_))
  subst ee
  refine ⟨nol.keeps x.toInCall.keep, codeAny_func ?_⟩
  obtain ⟨t, ht, hq⟩ := rd
  have I : Inv (cxOf CX P w K mg base N qual scope f cdv A outer st H E) [] (start N vs) H s1 := inv_start S room.hd e0 ln rv x
  refine wpAny_mono (ht.run [] s1 (start N vs) H _ I hq) (fun fl s2 z => ?_) fun _ _ z => z
  cases fl with
  | ret u =>
    obtain ⟨v, σ2, H2, J, rr, q⟩ := z
    exact ⟨v, H2, J.os, J.bare, J.base, J.hok, rr, q⟩
  | next =>
    obtain ⟨σ2, H2, J, q⟩ := z
    exact ⟨V.non, H2, J.os, J.bare, J.base, J.hok, rfl, q⟩
  | brk =>
    obtain ⟨_, _, _, q⟩ := z
    cases q
  | cont =>
    obtain ⟨_, _, _, q⟩ := z
    cases q
end

end PT

/-! plants as lists of ints: customers, paths, suppliers, sizes -/
namespace PT

structure Plant (pl : List Int) : Prop where
  len : pl.length ≤ 39
  ok : ∀ (i : Nat) (x : Int), pl[i]? = some x → 0 ≤ x ∧ x ≤ i
/-- the customer of a station that is not 0 -/
def cu (pl : List Int) (k : Nat) : Nat := min (pl.getD (k - 1) 0).toNat (k - 1)
theorem cu_lt (pl : List Int) {k : Nat} (h : 0 < k) : cu pl k < k := by
  unfold cu
  omega
theorem Plant.at {pl : List Int} (p : Plant pl) {i : Nat} (hi : i < pl.length) : pl[i]? = some ((cu pl (i + 1) : Nat) : Int) := by
  have e : pl[i]? = some pl[i] := List.getElem?_eq_getElem hi
  obtain ⟨h0, h1⟩ := p.ok i _ e
  rw [e]
  unfold cu
  rw [Nat.add_sub_cancel, List.getD_eq_getElem?_getD, e, Option.getD_some]
  congr 1
  omega
/-- the way to station 0 -/
def path (pl : List Int) (k : Nat) : List Nat := if h : 0 < k then k :: path pl (cu pl k) else [k]
termination_by k
decreasing_by exact cu_lt pl h
theorem path_zero (pl : List Int) : path pl 0 = [0] := by
  rw [path]
  rfl
theorem path_pos (pl : List Int) {k : Nat} (h : 0 < k) : path pl k = k :: path pl (cu pl k) := by
  rw [path, dif_pos h]
theorem path_head (pl : List Int) (k : Nat) : (path pl k)[0]? = some k := by
  by_cases h : 0 < k
  · rw [path_pos pl h]; rfl
  · have : k = 0 := by omega
    subst this
    rw [path_zero]; rfl
theorem path_le (pl : List Int) : ∀ (k m : Nat), m ∈ path pl k → m ≤ k := by
  intro k
  induction k using Nat.strongRecOn with
  | ind k ih =>
    intro m hm
    by_cases h : 0 < k
    · rw [path_pos pl h] at hm
      rcases List.mem_cons.mp hm with e | e
      · omega
      · have := ih _ (cu_lt pl h) m e
        have := cu_lt pl h
        omega
    · have e : k = 0 := by omega
      subst e
      rw [path_zero] at hm
      simp at hm
      omega
/-- the first station of the way that is at most m -/
def anc (pl : List Int) (m k : Nat) : Nat := if h : m < k then anc pl m (cu pl k) else k
termination_by k
decreasing_by exact cu_lt pl (by omega)
theorem anc_gt (pl : List Int) {m k : Nat} (h : m < k) : anc pl m k = anc pl m (cu pl k) := by
  rw [anc, dif_pos h]
theorem anc_le (pl : List Int) {m k : Nat} (h : k ≤ m) : anc pl m k = k := by
  rw [anc, dif_neg (by omega)]
theorem anc_mem (pl : List Int) (m : Nat) : ∀ k, anc pl m k = m ↔ m ∈ path pl k := by
  intro k
  induction k using Nat.strongRecOn with
  | ind k ih =>
    by_cases h : m < k
    · rw [anc_gt pl h, path_pos pl (by omega), List.mem_cons, ih _ (cu_lt pl (by omega))]
      constructor
      · exact .inr
      · rintro (e | e)
        · omega
        · exact e
    · rw [anc_le pl (by omega)]
      constructor
      · intro e
        subst e
        exact List.mem_of_getElem? (path_head pl k)
      · intro e
        have := path_le pl k m e
        omega
/-- how many stations come to j when all above m are passed on -/
def cnt (pl : List Int) (m j : Nat) : Nat := (List.range (pl.length + 1)).countP fun k => decide (anc pl m k = j)
theorem countP_or {α : Type} {p q r : α → Bool} (h : ∀ x, r x = (p x || q x)) (d : ∀ x, p x = true → q x = false) : ∀ l : List α, l.countP r = l.countP p + l.countP q
  | [] => rfl
  | x :: l => by
    rw [List.countP_cons, List.countP_cons, List.countP_cons, countP_or h d l, h x]
    cases ep : p x with
    | true =>
      rw [d x ep]
      simp
      omega
    | false =>
      cases q x <;> simp <;> omega
theorem countP_none {α : Type} {p : α → Bool} (h : ∀ x, p x = false) : ∀ l : List α, l.countP p = 0
  | [] => rfl
  | x :: l => by rw [List.countP_cons, countP_none h l, h x]; rfl
theorem countP_one (j : Nat) : ∀ n, (List.range n).countP (fun k => decide (k = j)) = if j < n then 1 else 0
  | 0 => rfl
  | n + 1 => by
    rw [List.range_succ, List.countP_append, countP_one j n]
    simp only [List.countP_cons, List.countP_nil]
    by_cases e : n = j
    · subst e
      simp
    · by_cases h : j < n
      · have h2 : j < n + 1 := by omega
        simp [e, h, h2]
      · have h2 : ¬ j < n + 1 := by omega
        simp [e, h, h2]
/-- the size of a station -/
def sz (pl : List Int) (j : Nat) : Nat := (List.range (pl.length + 1)).countP fun k => decide (j ∈ path pl k)
theorem cnt_sz (pl : List Int) (j : Nat) : cnt pl j j = sz pl j := by
  unfold cnt sz
  refine List.countP_congr fun k _ => ?_
  simp only [decide_eq_true_eq]
  exact anc_mem pl j k
/-- the list of sizes when the stations above m are passed on -/
def szs (pl : List Int) (m : Nat) : List Int := (List.range (pl.length + 1)).map fun j => if j ≤ m then ((cnt pl m j : Nat) : Int) else ((sz pl j : Nat) : Int)
theorem cnt_le (pl : List Int) (m j : Nat) : cnt pl m j ≤ pl.length + 1 := by
  unfold cnt
  exact Nat.le_trans List.countP_le_length (by rw [List.length_range]; exact Nat.le_refl _)
theorem sz_le (pl : List Int) (j : Nat) : sz pl j ≤ pl.length + 1 := by
  rw [← cnt_sz]
  exact cnt_le pl j j

/-- the suppliers of j among the first i stations that have a customer -/
def sup (pl : List Int) (i j : Nat) : List Int := ((List.range i).filter fun k => decide (pl.getD k 0 = (j : Int))).map fun k => ((k : Nat) : Int) + 1
theorem sup_step {pl : List Int} {i : Nat} {x : Int} (j : Nat) (h : pl[i]? = some x) : sup pl (i + 1) j = if x = (j : Int) then sup pl i j ++ [((i : Nat) : Int) + 1] else sup pl i j := by
  unfold sup
  rw [List.range_succ, List.filter_append, List.map_append]
  have e : pl[i]?.getD 0 = x := by rw [h]; rfl
  by_cases c : x = (j : Int)
  · rw [if_pos c]
    simp [e, c]
  · rw [if_neg c]
    simp [e, c]
theorem sup_len (pl : List Int) (i j : Nat) : (sup pl i j).length ≤ i := by
  unfold sup
  rw [List.length_map]
  exact Nat.le_trans (List.length_filter_le ..) (by rw [List.length_range]; exact Nat.le_refl _)
/-- the makers -/
def mks (pl : List Int) (i : Nat) : List Int := ((List.range i).filter fun (j : Nat) => decide ((j : Int) ∉ pl)).map fun (j : Nat) => (j : Int)
end PT

/-! a day of a plant, as a function on lists -/
namespace PT

theorem sup_gt {pl : List Int} (hP : Plant pl) {j : Nat} {n : Int} (h : n ∈ sup pl pl.length j) : ∃ k : Nat, n = (k : Int) ∧ j < k ∧ k ≤ pl.length := by
  unfold sup at h
  obtain ⟨k, hk, rfl⟩ := List.mem_map.mp h
  obtain ⟨h1, h2⟩ := List.mem_filter.mp hk
  have hk' := List.mem_range.mp h1
  have e : pl[k]? = some pl[k] := List.getElem?_eq_getElem hk'
  obtain ⟨a, b⟩ := hP.ok k _ e
  have c := of_decide_eq_true h2
  rw [List.getD_eq_getElem?_getD, e, Option.getD_some] at c
  exact ⟨k + 1, by omega, by omega, by omega⟩
/-- the number of the box at a station -/
def bx (ss : List Int) (k : Int) : Int := ss.getD k.toNat 0
/-- the first of the stations with the oldest box -/
def pickB (ss : List Int) (b : Int) (l : List Int) : Int := l.foldl (fun b o => if bx ss o < bx ss b then o else b) b
theorem pickB_mem (ss : List Int) : ∀ (l : List Int) (b : Int), pickB ss b l ∈ b :: l
  | [], b => List.mem_cons_self
  | o :: l, b => by
    have ih := pickB_mem ss l (if bx ss o < bx ss b then o else b)
    show pickB ss (if bx ss o < bx ss b then o else b) l ∈ b :: o :: l
    rcases List.mem_cons.mp ih with e | e
    · rw [e]
      by_cases c : bx ss o < bx ss b
      · rw [if_pos c]; simp
      · rw [if_neg c]; simp
    · exact List.mem_cons_of_mem _ (List.mem_cons_of_mem _ e)
theorem pickB_le (ss : List Int) : ∀ (l : List Int) (b : Int), ∀ x ∈ b :: l, bx ss (pickB ss b l) ≤ bx ss x
  | [], b, x, h => by
    rw [List.mem_singleton.mp h]
    exact Int.le_refl _
  | o :: l, b, x, h => by
    have ih := pickB_le ss l (if bx ss o < bx ss b then o else b)
    show bx ss (pickB ss (if bx ss o < bx ss b then o else b) l) ≤ bx ss x
    have h0 := ih _ List.mem_cons_self
    rcases List.mem_cons.mp h with e | e
    · subst e
      by_cases c : bx ss o < bx ss x
      · rw [if_pos c] at h0 ⊢
        omega
      · rw [if_neg c] at h0 ⊢
        exact h0
    · rcases List.mem_cons.mp e with e | e
      · subst e
        by_cases c : bx ss x < bx ss b
        · rw [if_pos c] at h0 ⊢
          exact h0
        · rw [if_neg c] at h0 ⊢
          omega
      · exact ih x (List.mem_cons_of_mem _ e)
/-- the supplier that gives to j; 0 for a maker -/
def bst (pl ss : List Int) (j : Nat) : Nat := match sup pl pl.length j with
  | [] => 0
  | h :: r => (pickB ss h (h :: r)).toNat
theorem bst_nil {pl ss : List Int} {j : Nat} (h : sup pl pl.length j = []) : bst pl ss j = 0 := by
  unfold bst
  rw [h]
theorem bst_cons {pl ss : List Int} {j : Nat} {h : Int} {r : List Int} (hP : Plant pl) (e : sup pl pl.length j = h :: r) : pickB ss h (h :: r) = ((bst pl ss j : Nat) : Int) ∧ pickB ss h (h :: r) ∈ sup pl pl.length j ∧ j < bst pl ss j ∧ bst pl ss j ≤ pl.length := by
  have hm : pickB ss h (h :: r) ∈ sup pl pl.length j := by
    rw [e]
    rcases List.mem_cons.mp (pickB_mem ss (h :: r) h) with z | z
    · rw [z]
      exact List.mem_cons_self
    · exact z
  obtain ⟨k, ek, h1, h2⟩ := sup_gt hP hm
  have eb : bst pl ss j = k := by
    unfold bst
    rw [e]
    show (pickB ss h (h :: r)).toNat = k
    omega
  rw [eb]
  exact ⟨ek, hm, h1, h2⟩
/-- the greatest number -/
def mxv : List Int → Int
  | [] => 0
  | x :: r => r.foldl max x
theorem fold_max : ∀ (r : List Int) (x : Int), r.foldl max x ∈ x :: r ∧ ∀ y ∈ x :: r, y ≤ r.foldl max x
  | [], x => ⟨List.mem_cons_self, fun y h => by rw [List.mem_singleton.mp h]; exact Int.le_refl _⟩
  | z :: r, x => by
    obtain ⟨h1, h2⟩ := fold_max r (max x z)
    rw [List.foldl_cons]
    refine ⟨?_, fun y h => ?_⟩
    · rcases List.mem_cons.mp h1 with e | e
      · rw [e]
        by_cases c : x ≤ z
        · rw [Int.max_eq_right c]; simp
        · rw [Int.max_eq_left (by omega)]; simp
      · exact List.mem_cons_of_mem _ (List.mem_cons_of_mem _ e)
    · have h0 := h2 _ List.mem_cons_self
      rcases List.mem_cons.mp h with e | e
      · subst e
        omega
      · rcases List.mem_cons.mp e with e | e
        · subst e
          omega
        · exact h2 y (List.mem_cons_of_mem _ e)
theorem mxv_mem {l : List Int} (h : l ≠ []) : mxv l ∈ l ∧ ∀ y ∈ l, y ≤ mxv l := by
  cases l with
  | nil => exact absurd rfl h
  | cons x r => exact fold_max r x
theorem mxv_of {l : List Int} {m : Int} (h : m ∈ l) (u : ∀ y ∈ l, y ≤ m) : m = mxv l := by
  have hn : l ≠ [] := fun e => by
    rw [e] at h
    cases h
  obtain ⟨a, b⟩ := mxv_mem hn
  have := u _ a
  have := b _ h
  omega
/-- the day from a row, where the chain has come to c -/
def go (pl ss row : List Int) (pre : List Nat) (c : Nat) : List Nat × List Int :=
  if h : c < bst pl ss c ∧ bst pl ss c ≤ pl.length then go pl ss (row.set c (bx ss (bst pl ss c))) (pre ++ [c]) (bst pl ss c) else (pre ++ [c], row.set c (mxv ss + 1))
termination_by pl.length - c
decreasing_by omega
theorem go_on {pl ss row : List Int} {pre : List Nat} {c : Nat} (h : c < bst pl ss c ∧ bst pl ss c ≤ pl.length) : go pl ss row pre c = go pl ss (row.set c (bx ss (bst pl ss c))) (pre ++ [c]) (bst pl ss c) := by
  rw [go, dif_pos h]
theorem go_end {pl ss row : List Int} {pre : List Nat} {c : Nat} (h : ¬ (c < bst pl ss c ∧ bst pl ss c ≤ pl.length)) : go pl ss row pre c = (pre ++ [c], row.set c (mxv ss + 1)) := by
  rw [go, dif_neg h]
/-- a day that begins at j: the chain, the row behind it -/
def day (pl ss : List Int) (j : Nat) : List Nat × List Int := go pl ss ss [] j
theorem perm_set {α : Type} : ∀ {l : List α} {i : Nat} {a : α} (x : α), l[i]? = some a → (a :: l.set i x).Perm (x :: l)
  | [], _, _, _, h => by simp at h
  | y :: r, 0, a, x, h => by
    have e : y = a := Option.some.inj h
    subst e
    exact List.Perm.swap x y r
  | y :: r, i + 1, a, x, h => by
    have ih := perm_set (l := r) (i := i) (a := a) x (by simpa using h)
    show (a :: y :: r.set i x).Perm (x :: y :: r)
    exact ((List.Perm.swap y a (r.set i x)).trans (ih.cons y)).trans (List.Perm.swap x y r)
/-- what a row has to do with the stock while the chain stands at c -/
structure Row (pl ss row : List Int) (s0 : Int) (c : Nat) : Prop where
  len : row.length = ss.length
  top : ∀ k, c ≤ k → row[k]? = ss[k]?
  pm : (s0 :: row).Perm (bx ss c :: ss)
theorem bx_at {ss : List Int} {k : Nat} (h : k < ss.length) : ss[k]? = some (bx ss k) := by
  unfold bx
  rw [Int.toNat_natCast, List.getD_eq_getElem?_getD, List.getElem?_eq_getElem h, Option.getD_some]
theorem Row.start {pl ss : List Int} {c : Nat} (h : c < ss.length) : Row pl ss ss (bx ss c) c := ⟨rfl, fun _ _ => rfl, .refl _⟩
theorem Row.next {pl ss row : List Int} {s0 : Int} {c d : Nat} (h : Row pl ss row s0 c) (hc : c < ss.length) (hd : c < d) : Row pl ss (row.set c (bx ss d)) s0 d := by
  have ec : row[c]? = some (bx ss c) := by
    rw [h.top c (Nat.le_refl _)]
    exact bx_at hc
  refine ⟨by rw [List.length_set]; exact h.len, fun k hk => ?_, ?_⟩
  · rw [List.getElem?_set_ne (by omega)]
    exact h.top k (by omega)
  · have p1 := perm_set (bx ss d) ec
    have p2 : (bx ss c :: s0 :: row.set c (bx ss d)).Perm (bx ss c :: bx ss d :: ss) :=
      (List.Perm.swap s0 (bx ss c) _).trans ((p1.cons s0).trans ((List.Perm.swap (bx ss d) s0 row).trans ((h.pm.cons (bx ss d)).trans (List.Perm.swap (bx ss c) (bx ss d) ss))))
    exact p2.cons_inv
theorem go_ok {pl ss : List Int} (hs : ss.length = pl.length + 1) : ∀ (n : Nat) (row : List Int) (pre : List Nat) (c : Nat) (s0 : Int), pl.length - c = n → c ≤ pl.length → Row pl ss row s0 c →
    (go pl ss row pre c).2.length = ss.length ∧ (s0 :: (go pl ss row pre c).2).Perm ((mxv ss + 1) :: ss) ∧ (∀ x ∈ (go pl ss row pre c).1, x ∈ pre ∨ x ≤ pl.length) ∧ (go pl ss row pre c).1.length ≤ pre.length + (pl.length + 1 - c) ∧ ∃ r, (go pl ss row pre c).1 = pre ++ c :: r := by
  intro n
  induction n using Nat.strongRecOn with
  | ind n ih =>
    intro row pre c s0 hn hc hR
    have hc' : c < ss.length := by omega
    by_cases h : c < bst pl ss c ∧ bst pl ss c ≤ pl.length
    · rw [go_on h]
      obtain ⟨a1, a2, a3, a4, r, a5⟩ := ih (pl.length - bst pl ss c) (by omega) (row.set c (bx ss (bst pl ss c))) (pre ++ [c]) (bst pl ss c) s0 rfl h.2 (hR.next hc' h.1)
      refine ⟨a1, a2, fun x hx => ?_, ?_, bst pl ss c :: r, by rw [a5, List.append_assoc]; rfl⟩
      · rcases a3 x hx with z | z
        · rcases List.mem_append.mp z with z | z
          · exact .inl z
          · exact .inr (by rw [List.mem_singleton.mp z]; exact hc)
        · exact .inr z
      · rw [List.length_append] at a4
        have z : ([c] : List Nat).length = 1 := rfl
        omega
    · rw [go_end h]
      have ec : row[c]? = some (bx ss c) := by
        rw [hR.top c (Nat.le_refl _)]
        exact bx_at hc'
      refine ⟨by rw [List.length_set]; exact hR.len, ?_, fun x hx => ?_, ?_, [], rfl⟩
      · have p1 := perm_set (mxv ss + 1) ec
        have p2 : (bx ss c :: s0 :: row.set c (mxv ss + 1)).Perm (bx ss c :: (mxv ss + 1) :: ss) :=
          (List.Perm.swap s0 (bx ss c) _).trans ((p1.cons s0).trans ((List.Perm.swap (mxv ss + 1) s0 row).trans ((hR.pm.cons (mxv ss + 1)).trans (List.Perm.swap (bx ss c) (mxv ss + 1) ss))))
        exact p2.cons_inv
      · rcases List.mem_append.mp hx with z | z
        · exact .inl z
        · exact .inr (by rw [List.mem_singleton.mp z]; exact hc)
      · rw [List.length_append]
        have z : ([c] : List Nat).length = 1 := rfl
        omega
/-- a day keeps a stock a stock -/
theorem day_ok {pl ss : List Int} (hs : ss.length = pl.length + 1) (hn : ss.Nodup) {j : Nat} (hj : j ≤ pl.length) :
    (day pl ss j).2.length = pl.length + 1 ∧ (day pl ss j).2.Nodup ∧ (∀ x ∈ (day pl ss j).2, x ∈ ss ∨ x = mxv ss + 1) ∧ (∀ x ∈ (day pl ss j).1, x ≤ pl.length) ∧ (day pl ss j).1.length ≤ pl.length + 1 := by
  obtain ⟨a1, a2, a3, a4, _⟩ := go_ok hs _ ss [] j (bx ss j) rfl hj (Row.start (by omega))
  have hne : ss ≠ [] := fun e => by
    rw [e] at hs
    simp at hs
  obtain ⟨m1, m2⟩ := mxv_mem hne
  have nd : ((mxv ss + 1) :: ss).Nodup := List.nodup_cons.mpr ⟨fun h => by have := m2 _ h; omega, hn⟩
  have nd2 := a2.nodup_iff.mpr nd
  refine ⟨by unfold day; rw [a1]; exact hs, (List.nodup_cons.mp nd2).2, fun x hx => ?_, fun x hx => ?_, ?_⟩
  · have z := a2.mem_iff.mp (List.mem_cons_of_mem _ hx)
    rcases List.mem_cons.mp z with e | e
    · exact .inr e
    · exact .inl e
  · rcases a3 x hx with z | z
    · cases z
    · exact z
  · unfold day
    have z : ([] : List Nat).length = 0 := rfl
    omega
end PT

/-! stocks that are ordered: a day keeps them, and each stock becomes one -/
namespace PT

theorem sup_cu {pl : List Int} (hP : Plant pl) {j k : Nat} : ((k : Nat) : Int) ∈ sup pl pl.length j ↔ 0 < k ∧ k ≤ pl.length ∧ cu pl k = j := by
  unfold sup
  rw [List.mem_map]
  constructor
  · rintro ⟨i, hi, e⟩
    obtain ⟨h1, h2⟩ := List.mem_filter.mp hi
    have hi' := List.mem_range.mp h1
    have ek : k = i + 1 := by omega
    subst ek
    have e2 := hP.at hi'
    have c := of_decide_eq_true h2
    rw [List.getD_eq_getElem?_getD, e2, Option.getD_some] at c
    exact ⟨by omega, by omega, by omega⟩
  · rintro ⟨h1, h2, h3⟩
    refine ⟨k - 1, List.mem_filter.mpr ⟨List.mem_range.mpr (by omega), decide_eq_true ?_⟩, by omega⟩
    have e2 := hP.at (i := k - 1) (by omega)
    rw [show k - 1 + 1 = k by omega] at e2
    rw [List.getD_eq_getElem?_getD, e2, Option.getD_some, h3]
/-- does a station give to j? -/
def gives (pl ss : List Int) (j : Nat) : Prop := j < bst pl ss j ∧ bst pl ss j ≤ pl.length
instance (pl ss : List Int) (j : Nat) : Decidable (gives pl ss j) := inferInstanceAs (Decidable (_ ∧ _))
theorem gives_of {pl ss : List Int} (hP : Plant pl) {k : Nat} (h0 : 0 < k) (h1 : k ≤ pl.length) : gives pl ss (cu pl k) ∧ bx ss (bst pl ss (cu pl k)) ≤ bx ss k := by
  have hm := (sup_cu hP).mpr ⟨h0, h1, rfl⟩
  cases e : sup pl pl.length (cu pl k) with
  | nil => rw [e] at hm; cases hm
  | cons h r =>
    obtain ⟨b1, b2, b3, b4⟩ := bst_cons (ss := ss) hP e
    rw [e] at hm
    have z := pickB_le ss (h :: r) h k (List.mem_cons_of_mem _ hm)
    rw [b1] at z
    exact ⟨⟨b3, b4⟩, z⟩
theorem gives_cu {pl ss : List Int} (hP : Plant pl) {j : Nat} (h : gives pl ss j) : cu pl (bst pl ss j) = j := by
  cases e : sup pl pl.length j with
  | nil =>
    have z := bst_nil (ss := ss) e
    unfold gives at h
    omega
  | cons a r =>
    obtain ⟨b1, b2, b3, b4⟩ := bst_cons (ss := ss) hP e
    rw [b1] at b2
    exact ((sup_cu hP).mp b2).2.2
/-- the chain from c on -/
def chn (pl ss : List Int) (c : Nat) : List Nat := if h : c < bst pl ss c ∧ bst pl ss c ≤ pl.length then c :: chn pl ss (bst pl ss c) else [c]
termination_by pl.length - c
decreasing_by omega
theorem chn_on {pl ss : List Int} {c : Nat} (h : gives pl ss c) : chn pl ss c = c :: chn pl ss (bst pl ss c) := by
  rw [chn, dif_pos (show c < bst pl ss c ∧ bst pl ss c ≤ pl.length from h)]
theorem chn_end {pl ss : List Int} {c : Nat} (h : ¬ gives pl ss c) : chn pl ss c = [c] := by
  rw [chn, dif_neg (show ¬ (c < bst pl ss c ∧ bst pl ss c ≤ pl.length) from h)]
theorem chn_self {pl ss : List Int} (c : Nat) : c ∈ chn pl ss c := by
  by_cases h : gives pl ss c
  · rw [chn_on h]; exact List.mem_cons_self
  · rw [chn_end h]; exact List.mem_cons_self
theorem chn_le {pl ss : List Int} : ∀ (n c : Nat), pl.length - c = n → c ≤ pl.length → ∀ k ∈ chn pl ss c, c ≤ k ∧ k ≤ pl.length := by
  intro n
  induction n using Nat.strongRecOn with
  | ind n ih =>
    intro c hn hc k hk
    by_cases h : gives pl ss c
    · rw [chn_on h] at hk
      unfold gives at h
      rcases List.mem_cons.mp hk with z | z
      · omega
      · have := ih (pl.length - bst pl ss c) (by omega) (bst pl ss c) rfl h.2 k z
        omega
    · rw [chn_end h] at hk
      have := List.mem_singleton.mp hk
      omega
theorem chn_down {pl ss : List Int} : ∀ (n c : Nat), pl.length - c = n → ∀ k ∈ chn pl ss c, gives pl ss k → bst pl ss k ∈ chn pl ss c := by
  intro n
  induction n using Nat.strongRecOn with
  | ind n ih =>
    intro c hn k hk hg
    by_cases h : gives pl ss c
    · rw [chn_on h] at hk ⊢
      rcases List.mem_cons.mp hk with z | z
      · rw [z]
        exact List.mem_cons_of_mem _ (chn_self _)
      · unfold gives at h
        exact List.mem_cons_of_mem _ (ih (pl.length - bst pl ss c) (by omega) (bst pl ss c) rfl k z hg)
    · rw [chn_end h] at hk
      rw [List.mem_singleton.mp hk] at hg
      exact absurd hg h
theorem chn_up {pl ss : List Int} : ∀ (n c : Nat), pl.length - c = n → ∀ k ∈ chn pl ss c, k = c ∨ ∃ p ∈ chn pl ss c, gives pl ss p ∧ bst pl ss p = k := by
  intro n
  induction n using Nat.strongRecOn with
  | ind n ih =>
    intro c hn k hk
    by_cases h : gives pl ss c
    · rw [chn_on h] at hk ⊢
      rcases List.mem_cons.mp hk with z | z
      · exact .inl z
      · have h' := h
        unfold gives at h'
        rcases ih (pl.length - bst pl ss c) (by omega) (bst pl ss c) rfl k z with y | ⟨p, y, w⟩
        · exact .inr ⟨c, List.mem_cons_self, h, y.symm⟩
        · exact .inr ⟨p, List.mem_cons_of_mem _ y, w⟩
    · rw [chn_end h] at hk
      exact .inl (List.mem_singleton.mp hk)
/-- what comes to a station of the chain -/
def nxt (pl ss : List Int) (j : Nat) : Int := if gives pl ss j then bx ss (bst pl ss j) else mxv ss + 1
theorem go_chn {pl ss : List Int} : ∀ (n : Nat) (row : List Int) (pre : List Nat) (c : Nat), pl.length - c = n → (go pl ss row pre c).1 = pre ++ chn pl ss c := by
  intro n
  induction n using Nat.strongRecOn with
  | ind n ih =>
    intro row pre c hn
    by_cases h : gives pl ss c
    · have h' := h
      unfold gives at h'
      rw [go_on h', ih (pl.length - bst pl ss c) (by omega) _ _ _ rfl, chn_on h, List.append_assoc]
      rfl
    · rw [go_end h, chn_end h]
theorem go_at {pl ss : List Int} : ∀ (n : Nat) (row : List Int) (pre : List Nat) (c : Nat), pl.length - c = n → c ≤ pl.length → row.length = pl.length + 1 → ∀ j, j ≤ pl.length → (go pl ss row pre c).2[j]? = if j ∈ chn pl ss c then some (nxt pl ss j) else row[j]? := by
  intro n
  induction n using Nat.strongRecOn with
  | ind n ih =>
    intro row pre c hn hc hr j hj
    by_cases h : gives pl ss c
    · have h' := h
      unfold gives at h'
      rw [go_on h', ih (pl.length - bst pl ss c) (by omega) _ _ _ rfl h'.2 (by rw [List.length_set]; exact hr) j hj, chn_on h]
      by_cases hm : j ∈ chn pl ss (bst pl ss c)
      · rw [if_pos hm, if_pos (List.mem_cons_of_mem _ hm)]
      · rw [if_neg hm]
        by_cases e : j = c
        · subst e
          rw [if_pos List.mem_cons_self, List.getElem?_set_self (by omega)]
          unfold nxt
          rw [if_pos h]
        · rw [if_neg (fun z => (List.mem_cons.mp z).elim e hm), List.getElem?_set_ne (fun z => e z.symm)]
    · rw [go_end h, chn_end h]
      by_cases e : j = c
      · subst e
        rw [if_pos List.mem_cons_self, List.getElem?_set_self (by omega)]
        unfold nxt
        rw [if_neg h]
      · rw [if_neg (fun z => e (List.mem_singleton.mp z)), List.getElem?_set_ne (fun z => e z.symm)]
theorem bx_some {ss : List Int} {k : Nat} {v : Int} (h : ss[k]? = some v) : bx ss k = v := by
  unfold bx
  rw [Int.toNat_natCast, List.getD_eq_getElem?_getD, h, Option.getD_some]
theorem day_at {pl ss : List Int} (hs : ss.length = pl.length + 1) {j : Nat} (hj : j ≤ pl.length) : bx (day pl ss 0).2 j = if j ∈ chn pl ss 0 then nxt pl ss j else bx ss j := by
  have z := go_at (pl := pl) (ss := ss) _ ss [] 0 rfl (Nat.zero_le _) hs j hj
  by_cases h : j ∈ chn pl ss 0
  · rw [if_pos h] at z ⊢
    exact bx_some z
  · rw [if_neg h] at z ⊢
    rw [bx_at (ss := ss) (k := j) (by omega)] at z
    exact bx_some z
theorem day_chn {pl ss : List Int} (j : Nat) : (day pl ss j).1 = chn pl ss j := go_chn _ ss [] j rfl
theorem bx_inj {ss : List Int} (hn : ss.Nodup) {i j : Nat} (hi : i < ss.length) (hj : j < ss.length) (h : bx ss i = bx ss j) : i = j := by
  have ei := bx_at hi
  have ej := bx_at hj
  rw [← h] at ej
  exact (List.getElem?_inj hi hn).mp (ei.trans ej.symm)
theorem bx_mem {ss : List Int} {k : Nat} (h : k < ss.length) : bx ss k ∈ ss := List.mem_of_getElem? (bx_at h)
theorem mxv_lt {ss : List Int} {k : Nat} (h : k < ss.length) : bx ss k < mxv ss + 1 := by
  have hne : ss ≠ [] := fun e => by
    rw [e] at h
    cases h
  have := (mxv_mem hne).2 _ (bx_mem h)
  omega
/-- boxes of a kind are older than those that wait below -/
def Waits (N : Int → Prop) (pl ss : List Int) : Prop := ∀ k : Nat, 0 < k → k ≤ pl.length → N (bx ss (cu pl k)) → bx ss (cu pl k) < bx ss k
theorem inv_day {N : Int → Prop} {pl ss : List Int} (hP : Plant pl) (hs : ss.length = pl.length + 1) (hn : ss.Nodup) (h : Waits N pl ss) : Waits N pl (day pl ss 0).2 := by
  intro k h0 h1 hN
  have hc := cu_lt pl h0
  rw [day_at hs (j := cu pl k) (by omega)] at hN ⊢
  rw [day_at hs h1]
  obtain ⟨g1, g2⟩ := gives_of (ss := ss) hP h0 h1
  by_cases hm : cu pl k ∈ chn pl ss 0
  · rw [if_pos hm] at hN ⊢
    have en : nxt pl ss (cu pl k) = bx ss (bst pl ss (cu pl k)) := by
      unfold nxt
      rw [if_pos g1]
    rw [en] at hN ⊢
    by_cases hk : k ∈ chn pl ss 0
    · rw [if_pos hk]
      have ek : bst pl ss (cu pl k) = k := by
        rcases chn_up _ 0 rfl k hk with z | ⟨p, _, gp, ep⟩
        · omega
        · have := gives_cu hP gp
          rw [ep] at this
          rw [this]
          exact ep
      rw [ek] at hN ⊢
      unfold nxt
      by_cases gk : gives pl ss k
      · rw [if_pos gk]
        have e2 := gives_cu hP gk
        have h3 := h (bst pl ss k) (by unfold gives at gk; omega) gk.2
        rw [e2] at h3
        exact h3 hN
      · rw [if_neg gk]
        exact mxv_lt (by omega)
    · rw [if_neg hk]
      have hne : bx ss (bst pl ss (cu pl k)) ≠ bx ss k := fun e => by
        have z := bx_inj hn (by have := g1.2; omega) (by omega) e
        exact hk (z ▸ chn_down _ 0 rfl _ hm g1)
      omega
  · rw [if_neg hm] at hN ⊢
    have hk : k ∉ chn pl ss 0 := fun z => by
      rcases chn_up _ 0 rfl k z with y | ⟨p, hp, gp, ep⟩
      · omega
      · have := gives_cu hP gp
        rw [ep] at this
        rw [this] at hm
        exact hm hp
    rw [if_neg hk]
    exact h k h0 h1 hN
/-- each station's box is older than those of its suppliers -/
def Ord (pl ss : List Int) : Prop := ∀ k : Nat, 0 < k → k ≤ pl.length → bx ss (cu pl k) < bx ss k
/-! ### within n - 1 days -/
theorem countP_two {α : Type} {p : α → Bool} : ∀ {l : List α} {i j : Nat} {a b : α}, i < j → l[i]? = some a → l[j]? = some b → p a = true → p b = true → 2 ≤ l.countP p
  | [], _, _, _, _, _, h, _, _, _ => by simp at h
  | x :: l, 0, j + 1, a, b, _, h, g, pa, pb => by
    have e : x = a := Option.some.inj h
    subst e
    rw [List.countP_cons_of_pos pa]
    have : 0 < l.countP p := List.countP_pos_iff.mpr ⟨b, List.mem_of_getElem? (by simpa using g), pb⟩
    omega
  | x :: l, i + 1, j + 1, a, b, hij, h, g, pa, pb => by
    have := countP_two (l := l) (i := i) (j := j) (by omega) (by simpa using h) (by simpa using g) pa pb
    exact Nat.le_trans this (List.Sublist.countP_le (List.sublist_cons_self x l))
/-- the stock after n days -/
def dyn (pl ss : List Int) : Nat → List Int
  | 0 => ss
  | n + 1 => (day pl (dyn pl ss n) 0).2
theorem dyn_len {pl ss : List Int} (hs : ss.length = pl.length + 1) (hn : ss.Nodup) : ∀ n, (dyn pl ss n).length = pl.length + 1 ∧ (dyn pl ss n).Nodup
  | 0 => ⟨hs, hn⟩
  | n + 1 => by
    obtain ⟨a, b⟩ := dyn_len hs hn n
    obtain ⟨a2, b2, _⟩ := day_ok a b (Nat.zero_le _) (j := 0)
    exact ⟨a2, b2⟩
theorem dyn_add (pl ss : List Int) (m : Nat) : ∀ n, dyn pl ss (m + n) = dyn pl (dyn pl ss m) n
  | 0 => rfl
  | n + 1 => by
    show (day pl (dyn pl ss (m + n)) 0).2 = (day pl (dyn pl (dyn pl ss m) n) 0).2
    rw [dyn_add pl ss m n]
theorem bx0 (ss : List Int) : bx ss ((0 : Nat) : Int) = bx ss 0 := rfl
theorem day_perm {pl ss : List Int} (hs : ss.length = pl.length + 1) : (bx ss 0 :: (day pl ss 0).2).Perm ((mxv ss + 1) :: ss) :=
  (go_ok hs _ ss [] 0 (bx ss ((0 : Nat) : Int)) rfl (Nat.zero_le _) (Row.start (pl := pl) (ss := ss) (c := 0) (by omega))).2.1
theorem day_mxv {pl ss : List Int} (hs : ss.length = pl.length + 1) : mxv (day pl ss 0).2 = mxv ss + 1 := by
  have hne : ss ≠ [] := fun e => by
    rw [e] at hs
    simp at hs
  obtain ⟨m1, m2⟩ := mxv_mem hne
  have p := day_perm hs
  have h0 := m2 _ (bx_mem (ss := ss) (k := 0) (by omega))
  rw [bx0] at h0
  refine (mxv_of ?_ fun y hy => ?_).symm
  · have z := p.mem_iff.mpr List.mem_cons_self
    rcases List.mem_cons.mp z with e | e
    · exact absurd e (by omega)
    · exact e
  · have z := p.mem_iff.mp (List.mem_cons_of_mem _ hy)
    rcases List.mem_cons.mp z with e | e
    · omega
    · have := m2 _ e
      omega
theorem dyn_mxv {pl ss : List Int} (hs : ss.length = pl.length + 1) (hn : ss.Nodup) : ∀ n : Nat, mxv (dyn pl ss n) = mxv ss + n
  | 0 => by show mxv ss = mxv ss + ((0 : Nat) : Int); omega
  | n + 1 => by
    show mxv (day pl (dyn pl ss n) 0).2 = _
    rw [day_mxv (dyn_len hs hn n).1, dyn_mxv hs hn n]
    omega
theorem inv_dyn {N : Int → Prop} {pl ss : List Int} (hP : Plant pl) (hs : ss.length = pl.length + 1) (hn : ss.Nodup) (h : Waits N pl ss) : ∀ n, Waits N pl (dyn pl ss n)
  | 0 => h
  | n + 1 => inv_day hP (dyn_len hs hn n).1 (dyn_len hs hn n).2 (inv_dyn hP hs hn h n)
theorem ord_dyn {pl ss : List Int} (hP : Plant pl) (hs : ss.length = pl.length + 1) (hn : ss.Nodup) (h : Ord pl ss) : ∀ n, Ord pl (dyn pl ss n) := fun n k a b => inv_dyn (N := fun _ => True) hP hs hn (fun k a b _ => h k a b) n k a b trivial
/-- once the box at the shop is a new one, all are -/
theorem all_new {t : Int} {pl ss : List Int} (h : Waits (t < ·) pl ss) (h0 : t < bx ss 0) : ∀ k : Nat, k ≤ pl.length → t < bx ss k := by
  intro k
  induction k using Nat.strongRecOn with
  | ind k ih =>
    intro hk
    by_cases e : k = 0
    · rw [e]; exact h0
    · have hc := cu_lt pl (show 0 < k by omega)
      have h1 := ih (cu pl k) hc (by omega)
      have := h k (by omega) hk h1
      omega
def olds (t : Int) (ss : List Int) : Nat := ss.countP fun x => decide (x ≤ t)
theorem olds_day {t : Int} {pl ss : List Int} (hs : ss.length = pl.length + 1) (ht : t ≤ mxv ss) (h : Waits (t < ·) pl ss) {m : Nat} (ho : olds t ss ≤ m + 1) : olds t (day pl ss 0).2 ≤ m := by
  have e := (day_perm hs).countP_eq fun x => decide (x ≤ t)
  have e2 : ((mxv ss + 1) :: ss).countP (fun x => decide (x ≤ t)) = olds t ss := List.countP_cons_of_neg (by rw [decide_eq_true_eq]; omega)
  rw [e2] at e
  by_cases c : bx ss 0 ≤ t
  · rw [List.countP_cons_of_pos (p := fun x => decide (x ≤ t)) (decide_eq_true c)] at e
    unfold olds at ho e ⊢
    omega
  · rw [List.countP_cons_of_neg (p := fun x => decide (x ≤ t)) (by rw [decide_eq_true_eq]; exact c)] at e
    have z : olds t ss = 0 := by
      unfold olds
      rw [List.countP_eq_zero]
      intro x hx
      obtain ⟨k, hk, rfl⟩ := List.getElem_of_mem hx
      have e3 := bx_at hk
      rw [List.getElem?_eq_getElem hk] at e3
      have := all_new h (by omega) k (by omega)
      rw [Option.some.inj e3, decide_eq_true_eq]
      omega
    rw [z] at e
    unfold olds
    omega
theorem olds_dyn {pl ss : List Int} (hP : Plant pl) (hs : ss.length = pl.length + 1) (hn : ss.Nodup) (hI : Waits (mxv ss < ·) pl ss) : ∀ n, n ≤ pl.length → olds (mxv ss) (dyn pl ss n) ≤ pl.length + 1 - n
  | 0, _ => by
    show olds _ ss ≤ _
    unfold olds
    have := List.countP_le_length (l := ss) (p := fun x => decide (x ≤ mxv ss))
    omega
  | n + 1, h => by
    have ih := olds_dyn hP hs hn hI n (by omega)
    show olds _ (day pl (dyn pl ss n) 0).2 ≤ _
    exact Nat.le_trans (olds_day (m := pl.length - n) (dyn_len hs hn n).1 (by rw [dyn_mxv hs hn]; omega) (inv_dyn hP hs hn hI n) (by omega)) (by omega)
/-- after n - 1 days a stock is ordered -/
theorem ord_end {pl ss : List Int} (hP : Plant pl) (hs : ss.length = pl.length + 1) (hn : ss.Nodup) : Ord pl (dyn pl ss pl.length) := by
  have hI : Waits (mxv ss < ·) pl ss := fun k a b c => by
    have := mxv_lt (ss := ss) (k := cu pl k) (by have := cu_lt pl a; omega)
    omega
  have ho := olds_dyn hP hs hn hI pl.length (Nat.le_refl _)
  have hI2 := inv_dyn hP hs hn hI pl.length
  obtain ⟨hl, hd⟩ := dyn_len hs hn pl.length
  intro k h0 h1
  have hc := cu_lt pl h0
  by_cases c : mxv ss < bx (dyn pl ss pl.length) (cu pl k)
  · exact hI2 k h0 h1 c
  · by_cases d : mxv ss < bx (dyn pl ss pl.length) k
    · omega
    · have := countP_two (p := fun x => decide (x ≤ mxv ss)) hc (bx_at (ss := dyn pl ss pl.length) (k := cu pl k) (by omega)) (bx_at (ss := dyn pl ss pl.length) (k := k) (by omega)) (decide_eq_true (by omega)) (decide_eq_true (by omega))
      unfold olds at ho
      omega
theorem dyn_bd {pl ss : List Int} (hs : ss.length = pl.length + 1) (hn : ss.Nodup) {l u : Int} (h : ∀ x ∈ ss, l ≤ x ∧ x ≤ u) : ∀ n : Nat, ∀ x ∈ dyn pl ss n, l ≤ x ∧ x ≤ u + n
  | 0 => fun x hx => by
    have := h x hx
    show l ≤ x ∧ x ≤ u + ((0 : Nat) : Int)
    omega
  | n + 1 => fun x hx => by
    obtain ⟨a, b⟩ := dyn_len hs hn n
    have ih := dyn_bd hs hn h n
    obtain ⟨_, _, c2, _, _⟩ := day_ok a b (Nat.zero_le _) (j := 0)
    have hne : dyn pl ss n ≠ [] := fun e => by
      rw [e] at a
      simp at a
    have m := ih _ (mxv_mem hne).1
    rcases c2 x hx with z | z
    · have := ih x z
      omega
    · omega
/-- the boxes sold on the first days -/
def sold (pl ss : List Int) (n : Nat) : List Int := (List.range n).map fun i => bx (dyn pl ss i) 0
theorem sold_step (pl ss : List Int) (n : Nat) : sold pl ss (n + 1) = sold pl ss n ++ [bx (dyn pl ss n) 0] := by
  unfold sold
  rw [List.range_succ, List.map_append]
  rfl
end PT

set_option maxHeartbeats 4000000
/-! kinds of values, plants in the heap: of no law's own text -/
namespace PT
open PySem PySem.Spec PyProof.Rows L2

/-! ### kinds of values -/
inductive Kd (H : Hp) : V → String → Prop
  | non : Kd H .non "NoneType"
  | bl (b : Bool) : Kd H (.bl b) "bool"
  | int (i : Int) : Kd H (.int i) "int"
  | str (x : Str) : Kd H (.str x) "str"
  | lst {a : Addr} {xs : List V} : H a = some (.lst xs) → Kd H (.ref a) "list"
  | tup {a : Addr} {xs : List V} : H a = some (.tup xs) → Kd H (.ref a) "tuple"
  | dic {a : Addr} {kvs : List (Key × V)} : H a = some (.dK kvs) → Kd H (.ref a) "dict"
theorem Kd.same {H H' : Hp} (e : Same H H') {v : V} {n : String} (h : Kd H v n) : Kd H' v n := by
  cases h with
  | non => exact .non
  | bl b => exact .bl b
  | int i => exact .int i
  | str x => exact .str x
  | lst q => exact .lst (e _ _ q)
  | tup q => exact .tup (e _ _ q)
  | dic q => exact .dic (e _ _ q)
theorem Kd.tyx {K : PySem.W.Frag} {H : Hp} {v : V} {n : String} (h : Kd H v n) : TyX K H v (.type n) := by
  cases h with
  | non => exact .base .non
  | bl b => exact .base (.bl b)
  | int i => exact .base (.int i)
  | str x => exact .base (.str x)
  | lst q => exact .base (.lst q)
  | tup q => exact .base (.tup q)
  | dic q => exact .base (.dK q)
def isI : V → Bool
  | .int _ => true
  | _ => false
def isB : V → Bool
  | .bl _ => true
  | _ => false
theorem kd_int {K : PySem.W.Frag} {H : Hp} {v : V} {n : String} (h : Kd H v n) : PySem.W.kitOne K (.type n) (.type "int") = some (isI v || isB v) := by
  cases h with
  | bl b => exact kit_ty (show kitB "bool" "int" = some true by decide +kernel)
  | int i => exact kit_ty (show kitB "int" "int" = some true by decide +kernel)
  | non => exact kit_ty (show kitB "NoneType" "int" = some false by decide +kernel)
  | str x => exact kit_ty (show kitB "str" "int" = some false by decide +kernel)
  | lst _ => exact kit_ty (show kitB "list" "int" = some false by decide +kernel)
  | tup _ => exact kit_ty (show kitB "tuple" "int" = some false by decide +kernel)
  | dic _ => exact kit_ty (show kitB "dict" "int" = some false by decide +kernel)
theorem kd_bool {K : PySem.W.Frag} {H : Hp} {v : V} {n : String} (h : Kd H v n) : PySem.W.kitOne K (.type n) (.type "bool") = some (isB v) := by
  cases h with
  | bl b => exact kit_ty (show kitB "bool" "bool" = some true by decide +kernel)
  | int i => exact kit_ty (show kitB "int" "bool" = some false by decide +kernel)
  | non => exact kit_ty (show kitB "NoneType" "bool" = some false by decide +kernel)
  | str x => exact kit_ty (show kitB "str" "bool" = some false by decide +kernel)
  | lst _ => exact kit_ty (show kitB "list" "bool" = some false by decide +kernel)
  | tup _ => exact kit_ty (show kitB "tuple" "bool" = some false by decide +kernel)
  | dic _ => exact kit_ty (show kitB "dict" "bool" = some false by decide +kernel)
theorem kd_tuple {K : PySem.W.Frag} {H : Hp} {v : V} {n : String} (h : Kd H v n) : PySem.W.kitOne K (.type n) (.type "tuple") = some (n == "tuple") := by
  cases h with
  | bl b => exact kit_ty (show kitB "bool" "tuple" = some false by decide +kernel)
  | int i => exact kit_ty (show kitB "int" "tuple" = some false by decide +kernel)
  | non => exact kit_ty (show kitB "NoneType" "tuple" = some false by decide +kernel)
  | str x => exact kit_ty (show kitB "str" "tuple" = some false by decide +kernel)
  | lst _ => exact kit_ty (show kitB "list" "tuple" = some false by decide +kernel)
  | tup _ => exact kit_ty (show kitB "tuple" "tuple" = some true by decide +kernel)
  | dic _ => exact kit_ty (show kitB "dict" "tuple" = some false by decide +kernel)
/-- an int between two bounds -/
def okV (lo hi : Int) : V → Bool
  | .int j => decide (lo ≤ j) && decide (j ≤ hi)
  | _ => false
/-- the tuple of a plant -/
def okVs (xs : List V) : List Bool := (List.range xs.length).map fun i => okV 0 (i : Nat) (xs.getD i .non)
def fitsV (xs : List V) : Bool := decide (xs.length < 40) && (okVs xs).all id

inductive FitsIs (H : Hp) : V → Bool → Prop
  | no {v : V} {n : String} : Kd H v n → n ≠ "tuple" → FitsIs H v false
  | tup {a : Addr} {xs : List V} : H a = some (.tup xs) → xs.length ≤ 300 → (∀ x ∈ xs, ∃ m, Kd H x m) → FitsIs H (.ref a) (fitsV xs)
theorem same_new {H : Hp} {p : Addr} {o : HO} (h : H p = none) : Same H (upd H p o) := fun b u z => by
  rw [upd_ne (ne_of_none z h)]
  exact z
theorem okVs_len (xs : List V) : (okVs xs).length = xs.length := by
  unfold okVs
  rw [List.length_map, List.length_range]
theorem okVs_at {xs : List V} {i : Nat} {x : V} (h : xs[i]? = some x) : (okVs xs)[i]? = some (okV 0 (i : Nat) x) := by
  have hi : i < xs.length := (List.getElem?_eq_some_iff.mp h).1
  unfold okVs
  rw [List.getElem?_map, List.getElem?_range hi, Option.map_some, List.getD_eq_getElem?_getD, h]
  rfl
theorem take_next {α : Type} {l : List α} {i : Nat} {x : α} (h : l[i]? = some x) : l.take (i + 1) = l.take i ++ [x] := by
  rw [List.take_add_one, h]
  rfl
/-- a comprehension's item without a test -/
theorem tyes_if {σ : List (Option V)} {H : Hp} {A B : Hp → Prop} (h : A H) : tYes σ H (fun b H3 => if b = true then A H3 else B H3) := by
  show (if true = true then A H else B H)
  rw [if_pos (rfl : true = true)]
  exact h
theorem small300 {n : Nat} (h : n ≤ 300) : n < sizeLine := small1000 (by omega)
/-! ### a plant that stands in the heap -/
structure PlantAt (H : Hp) (p : Addr) (pl : List Int) : Prop where
  at_ : H p = some (.tup (pl.map V.int))
  ok : Plant pl
theorem PlantAt.same {H H' : Hp} {p : Addr} {pl : List Int} (e : Same H H') (h : PlantAt H p pl) : PlantAt H' p pl := ⟨e _ _ h.at_, h.ok⟩
theorem PlantAt.seq {K : PySem.W.Frag} {H : Hp} {p : Addr} {pl : List Int} (h : PlantAt H p pl) : SqT K H p (pl.map V.int) := .inl (.inl h.at_)
theorem Plant.fits {pl : List Int} (h : Plant pl) : fitsV (pl.map V.int) = true := by
  unfold fitsV
  have hl := h.len
  rw [List.length_map, decide_eq_true (by omega), Bool.true_and, List.all_eq_true]
  intro b hb
  obtain ⟨i, hi, rfl⟩ := List.mem_map.mp hb
  have hi2 := List.mem_range.mp hi
  rw [List.length_map] at hi2
  have e : pl[i]? = some pl[i] := List.getElem?_eq_getElem hi2
  obtain ⟨h0, h1⟩ := h.ok i _ e
  rw [List.getD_eq_getElem?_getD, List.getElem?_map, e]
  show (decide (0 ≤ pl[i]) && decide (pl[i] ≤ (i : Int))) = true
  rw [decide_eq_true h0, decide_eq_true h1]
  rfl
theorem PlantAt.fits {H : Hp} {p : Addr} {pl : List Int} (h : PlantAt H p pl) : FitsIs H (.ref p) true := by
  have z := FitsIs.tup (H := H) h.at_ (by rw [List.length_map]; have := h.ok.len; omega) fun x hx => by
    obtain ⟨n, _, rfl⟩ := List.mem_map.mp hx
    exact ⟨_, .int n⟩
  rw [h.ok.fits] at z
  exact z
theorem upd_at {H : Hp} {a b : Addr} {o u : HO} (h : H b = some u) (n : H a = none) : upd H a o b = some u := by
  rw [upd_ne (ne_of_none h n)]
  exact h

theorem ixN_at {n j : Nat} (hj : j < n) : ixN n (j : Int) = some j := by
  unfold ixN
  rw [if_pos (by omega), if_pos (by omega), Int.toNat_natCast]
/-- all but b is as it was -/
def Bar (b : Addr) (H H' : Hp) : Prop := ∀ c o, c ≠ b → H c = some o → H' c = some o
theorem Bar.refl (b : Addr) (H : Hp) : Bar b H H := fun _ _ _ h => h
theorem Bar.trans {b : Addr} {H H1 H2 : Hp} (u : Bar b H H1) (v : Bar b H1 H2) : Bar b H H2 := fun c o n h => v c o n (u c o n h)
theorem Same.bar {b : Addr} {H H' : Hp} (e : Same H H') : Bar b H H' := fun c o _ h => e c o h
theorem bar_upd {b : Addr} {H : Hp} {o : HO} : Bar b H (upd H b o) := fun c u n h => by
  rw [upd_ne n]
  exact h
/-- a heap is forgotten but for what is said of it -/
theorem heap_cut {P R : Hp → Prop} {G : Hp} (h : P G) (k : ∀ G', P G' → R G') : R G := k G h
/-! ### stocks, rows in another order, items of short lists -/
theorem perm_pick {α : Type} : ∀ {l : List α} {i : Nat} {x : α}, l[i]? = some x → (x :: l.eraseIdx i).Perm l
  | [], _, _, h => by simp at h
  | y :: r, 0, x, h => by
    have e : y = x := Option.some.inj h
    rw [e]
    exact .refl _
  | y :: r, i + 1, x, h => by
    have ih := perm_pick (l := r) (i := i) (x := x) (by simpa using h)
    exact (List.Perm.swap y x (r.eraseIdx i)).trans (ih.cons y)
structure StockOk (pl ss : List Int) : Prop where
  len : ss.length = pl.length + 1
  nd : ss.Nodup
  sm : ∀ n ∈ ss, -(10 ^ 36) ≤ n ∧ n ≤ 10 ^ 36
theorem StockOk.perm {pl ss ts : List Int} (h : StockOk pl ss) (p : ts.Perm ss) : StockOk pl ts := ⟨by rw [p.length_eq]; exact h.len, p.nodup_iff.mpr h.nd, fun n hn => h.sm n (p.mem_iff.mp hn)⟩
theorem three_at {u0 u1 u2 : V} {r : Int} (h0 : 0 ≤ r) (h3 : r < 3) : ∃ v, atI [u0, u1, u2] r = some v ∧ (v = u0 ∨ v = u1 ∨ v = u2) := by
  have c : r = 0 ∨ r = 1 ∨ r = 2 := by omega
  rcases c with rfl | rfl | rfl
  · exact ⟨u0, rfl, .inl rfl⟩
  · exact ⟨u1, rfl, .inr (.inl rfl)⟩
  · exact ⟨u2, rfl, .inr (.inr rfl)⟩
theorem Plant.snoc {pl : List Int} (hP : Plant pl) {u : Int} (hl : pl.length < 39) (u0 : 0 ≤ u) (u1 : u ≤ pl.length) : Plant (pl ++ [u]) := by
  refine ⟨by rw [List.length_append]; show pl.length + 1 ≤ 39; omega, fun k x e => ?_⟩
  by_cases hk : k < pl.length
  · rw [List.getElem?_append_left hk] at e
    exact hP.ok k x e
  · have hk2 : k = pl.length := by
      have z := (List.getElem?_eq_some_iff.mp e).1
      rw [List.length_append] at z
      have z2 : k < pl.length + 1 := z
      omega
    subst hk2
    rw [List.getElem?_append_right (Nat.le_refl _), Nat.sub_self] at e
    cases e
    exact ⟨u0, u1⟩
theorem five_at {u0 u1 u2 u3 u4 : V} {r : Int} (h0 : 0 ≤ r) (h5 : r < 5) : ∃ v, atI [u0, u1, u2, u3, u4] r = some v ∧ (v = u0 ∨ v = u1 ∨ v = u2 ∨ v = u3 ∨ v = u4) := by
  have c : r = 0 ∨ r = 1 ∨ r = 2 ∨ r = 3 ∨ r = 4 := by omega
  rcases c with rfl | rfl | rfl | rfl | rfl
  · exact ⟨u0, rfl, .inl rfl⟩
  · exact ⟨u1, rfl, .inr (.inl rfl)⟩
  · exact ⟨u2, rfl, .inr (.inr (.inl rfl))⟩
  · exact ⟨u3, rfl, .inr (.inr (.inr (.inl rfl)))⟩
  · exact ⟨u4, rfl, .inr (.inr (.inr (.inr rfl)))⟩
/-- a new list of new lists, the suppliers so far -/
structure ListsAt (H H' : Hp) (l : Addr) (as : List Addr) (pl : List Int) (i : Nat) : Prop where
  sm : Same H H'
  nl : H l = none
  hl : H' l = some (.lst (as.map V.ref))
  len : as.length = pl.length + 1
  new : ∀ a ∈ as, H a = none
  out : l ∉ as
  nd : as.Nodup
  at_ : ∀ (j : Nat) (a : Addr), as[j]? = some a → H' a = some (.lst ((sup pl i j).map V.int))
end PT

set_option maxHeartbeats 4000000
/-! rules that round 3's code asks for: is True of ints and bools, set(t), count of bools, enumerate from a start -/
namespace PT
open PySem PySem.Spec PyProof.Rows L2

section
variable {X : Cx}
/-! ### x is True, x an int or a bool -/
def isTV (b : Bool) : V → Bool
  | .bl a => decide (a = b)
  | _ => false
def rIsK : V → V → Hp → (V → Hp → Prop) → Prop := fun x y H Q => ∃ b, y = .bl b ∧ ((∃ a, x = .bl a) ∨ ∃ i, x = .int i) ∧ Q (.bl (isTV b x)) H
theorem op_isK : OpR X (compareOp .Is) rIsK := by
  intro pins st σ H x y v u Q I rx ry h
  obtain ⟨b, rfl, hx, q⟩ := h
  cases (show u = Value.bool b from ry)
  rcases hx with ⟨a, rfl⟩ | ⟨i, rfl⟩
  · cases (show v = Value.bool a from rx)
    by_cases c : a = b
    · subst c
      exact wpAny_is_self rfl ⟨.bl true, H, I, rfl, by simpa [isTV] using q⟩
    · exact wpAny_is_other rfl (fun z => c (Value.bool.inj z)) ⟨.bl false, H, I, rfl, by simpa [isTV, c] using q⟩
  · obtain ⟨t, rfl⟩ := rx
    exact wpAny_is_other rfl (fun z => nomatch z) ⟨.bl false, H, I, rfl, q⟩
/-! ### set(t), t a tuple of ints -/
def rSetT (K : PySem.W.Frag) (w : World) : List V → Hp → (V → Hp → Prop) → Prop := fun vs H Q => ∃ (l : Addr) (ns : List Int), vs = [.ref l] ∧ SqT K H l (ns.map V.int) ∧ ns.length ≤ 1000 ∧
  ∀ p n, H p = none → Q (.ref p) (upd H p (SetO w p (fun j => decide (j ∈ ns)) n))
/-! ### xs.count(True), xs of bools -/
def rCntB (K : PySem.W.Frag) : V → List V → Hp → (V → Hp → Prop) → Prop := fun x xs H Q => ∃ (p : Addr) (bs : List Bool) (b : Bool), x = .ref p ∧ xs = [.bl b] ∧ SqL K H p (bs.map V.bl) ∧ Q (.int ((bs.count b : Nat) : Int)) H
end

/-! ### len(set(t)), t a tuple of different ints -/
section
variable {X : Cx}
theorem setR_len {w : World} {h : Heap} {a : Addr} {ns : List Int} {c : Nat} (R : SetR w h a (fun j => decide (j ∈ ns)) c) (nd : ns.Nodup) : c = ns.length := by
  obtain ⟨o, es, ep, t, ho, hx, hd, g, nk, hm, hb, hf, hn, _⟩ := R
  have p : (es.toList.map keyOf).Perm ns := (List.perm_ext_iff_of_nodup nk nd).mpr fun k => by
    rw [← hm k]
    exact decide_eq_true_iff
  have e := p.length_eq
  rw [List.length_map, Array.length_toList] at e
  omega
def tLenSetT (K : PySem.W.Frag) (ta : TE) : TE := fun σ H Q => ta σ H fun x H1 => ∃ (l : Addr) (ns : List Int), x = .ref l ∧ SqT K H1 l (ns.map V.int) ∧ ns.Nodup ∧ ns.length ≤ 1000 ∧ Q (.int (ns.length : Nat)) H1
theorem pe_lenSetT {a : Expr} {ta : TE} {p p2 q pos : Pos} (hg : Gl X "len") (hm : X.mg "len" = none) (hg2 : Gl X "set") (hm2 : X.mg "set" = none) (ha : PE X a ta) (hc : X.calm = true := by rfl)
    (na : starEach [a] X.env = (false, eval a X.env) :: starEach [] X.env := by rfl) : PE X (.Call (.Name "len" p) [.Call (.Name "set" p2) [a] [] q] [] pos) (tLenSetT X.K ta) := by
  constructor
  intro pins st σ H Q I h
  refine Call_ (ld_blt I hg hm boot_len (PyProof.Rows.callWith_builtin1 (PyProof.Rows.args_cons ?_ rfl) rfl rfl))
  refine Call_ (ld_blt I hg2 hm2 boot_set (PyProof.Rows.callWith_type1 (PyProof.Rows.args_cons (thn (ha.run pins st σ H _ I h) fun v s1 ⟨x, H1, I1, r1, q1⟩ => PyProof.Rows.args_nil ?_) na) na rfl))
  obtain ⟨l, ns, rfl, hq, nd, hl, q1⟩ := q1
  cases r1
  obtain ⟨its, r, pl, hz⟩ := I1.tuple hq
  have hi : IntsAre its.toArray.toList ns := by simpa using ints_of_vals r
  refine call_set_tupI ns (I1.ok.hd hc) pl hi (by unfold scanBound; omega) fun h' tk c R hcn hk => PyProof.Rows.args_nil ?_
  have ec := setR_len R nd
  obtain ⟨o, es, ep, t, ho, hx, hd, _, _, _, hb, hf, hn, _⟩ := R
  exact call_len_set ho hx hd hf (by omega) ⟨.int (ns.length : Nat), H1, (I1.kept hk).tok _, ⟨_, by rw [hn, ec]⟩, q1⟩
end
/-! ### enumerate(t, k): a tuple's items with their places, counted from k -/
def ItF (K : PySem.W.Frag) (a : Addr) (k : Int) : It :=
  ⟨fun i H => ∃ (xs : List V) (x : V), SqT K H a xs ∧ xs[i]? = some x,
   fun i H v H' => ∃ T x, v = .ref T ∧ H T = none ∧ H' = upd H T (.tup [.int (k + (i : Nat)), x]) ∧ ∀ xs, SqT K H a xs → xs[i]? = some x,
   fun i H => ∃ xs : List V, SqT K H a xs ∧ xs.length ≤ i⟩
theorem turn_F {P : Program} {w : World} {K : PySem.W.Frag} {elts : List Expr} {kk : Nat} {tpos : Pos} (a e it : Addr) (k : Int) :
    Turn P w K (.Tuple elts kk tpos) (ItF K a k) [e, it] e (fun i h => (∃ old, IsEnum h e it (k + ((i : Nat) : Int)) old) ∧ h.IsTupleIter it a i ∧ e ≠ it) where
  mem := by simp
  obj := fun i h st b hb => by
    obtain ⟨⟨old, he⟩, ⟨o, ho, hc, hd⟩, _⟩ := st
    rcases List.mem_cons.mp hb with z | z
    · rw [z]
      exact ⟨_, he, fun v q => nomatch q⟩
    · rw [List.mem_singleton.mp z]
      exact ⟨o, ho, fun v q => by rw [hd] at q; cases q⟩
  keep := fun i h h' st kp => ⟨let ⟨old, he⟩ := st.1; ⟨old, kp e (by simp) _ he⟩, st.2.1.at fun o q => kp it (by simp) o q, st.2.2⟩
  item := by
    intro X hP hw hK hc i pins st σ H E I hf tn hg
    subst hP hw hK
    obtain ⟨⟨old, he⟩, hit, hne⟩ := tn
    obtain ⟨xs, x, hq, hx⟩ := hg
    obtain ⟨its, rv, p, hz⟩ := I.tuple hq
    obtain ⟨u, hu, ru⟩ := rv.get hx
    have le : e < st.heap.objs.size := Heap.lt_size he
    have li : it < st.heap.objs.size := let ⟨_, q, _⟩ := hit; Heap.lt_size q
    have hta : a ≠ it := fun z => by
      obtain ⟨o1, q1, c1, _⟩ := hit
      obtain ⟨o2, q2, c2, _⟩ := p
      rw [z, q1] at q2
      cases q2
      rw [c1] at c2
      exact absurd (Value.type.inj c2) (by decide)
    have D := Draws.tuple (prog := X.prog) (w := X.w) (A := X.A.in1) (I.ok.hd hc) it a hta its.toArray
    have hi : i < its.length := by
      obtain ⟨h1, _⟩ := List.getElem?_eq_some_iff.mp hu
      exact h1
    refine wpAny_pyNext_enum_itemC D he ⟨hit, p⟩ (by simpa using hi) hne ?_ fun y h2 tk hy ho sn hT hsz hk => ?_
    · intro hm
      rcases List.mem_cons.mp hm with z | z
      · exact hne z
      · have z2 := List.mem_singleton.mp z
        obtain ⟨o2, q2, c2, _⟩ := p
        have q3 : st.heap.get? e = some _ := he
        rw [z2, q2] at q3
        cases q3
        exact absurd (Value.type.inj c2) (by decide)
    have ey : y = u := by
      have e1 : its.toArray[i]? = some u := by simpa using hu
      exact Option.some.inj (hy.symm.trans e1)
    subst ey
    refine ⟨_, rfl, wpAny_letOwnedTupleGo_enum (s := { st with heap := h2, toks := tk + 1 }) ho fun h3 he3 sb => ?_⟩
    have hT3 : h3.get? st.heap.objs.size = some { cls := .type "tuple", data := .seq #[.int (k + (i : Int)) tk, y] } := (sb.2 _ (Nat.ne_of_gt le)).trans hT
    have nw : ObjOk X.prog X.w (upd H st.heap.objs.size (.tup [.int (k + (i : Nat)), x])) h3 st.heap.objs.size (.tup [.int (k + (i : Nat)), x]) :=
      ⟨by show 2 ≤ sizeLine; decide, [.int (k + (i : Int)) tk, y], .cons ⟨_, rfl⟩ (.cons ru .nil), ⟨_, hT3, rfl, _, rfl⟩⟩
    have I1 : Inv X pins σ (upd H st.heap.objs.size (.tup [.int (k + (i : Nat)), x])) { st with heap := h3, toks := tk + 1 } :=
      I.turnedNew (ch := [e, it]) (fun b ob hb q => (sb.2 b (fun z => hb (by simp [z]))).trans (hk b ob (fun z => hb (by simp [z])) (fun z => hb (by simp [z])) q)) hf (Nat.le_refl _) nw
    refine ⟨.ref st.heap.objs.size, _, I1, rfl, ⟨_, x, rfl, I.hok.fresh (Nat.le_refl _), rfl, fun ys hy => by rw [I.tuple_inj hy hq]; exact hx⟩, ⟨⟨y, ?_⟩, sn.1.at fun o q => (sb.2 it (Ne.symm hne)).trans q, hne⟩, fun b hb => ?_⟩
    · have e1 : k + ((i + 1 : Nat) : Int) = k + (i : Int) + 1 := by omega
      exact e1 ▸ he3
    · have hb' : b < st.heap.objs.size := by
        rcases List.mem_cons.mp hb with z | z
        · exact z ▸ le
        · exact (List.mem_singleton.mp z) ▸ li
      rw [upd_ne (Nat.ne_of_lt hb')]
      exact (hf b hb).1
  done := by
    intro X hP hw hK hc i pins st σ H E I hf tn hg
    subst hP hw hK
    obtain ⟨⟨old, he⟩, hit, hne⟩ := tn
    obtain ⟨xs, hq, hx⟩ := hg
    obtain ⟨its, rv, p, hz⟩ := I.tuple hq
    obtain ⟨f0, f1, f2, f3, f4, f5⟩ := hf it (by simp)
    have hl := rv.length
    have hT : st.TypeIs (.ref e) "enumerate" := ⟨_, he, rfl⟩
    unfold pyNext
    refine wpAny_bind (wpAny_attempt (wpAny_callSpecial?_slot (name := Str.ofString "__next__") hT F.slot_enumerate_next (wpAny_call_entry F.slot_enumerate_next hT F.entry_enumerate_next ?_ (F.args_enumerate_next_1 _))))
    show wpAny _ _ (field (.ref e) 2 >>= _) _ _ _
    refine wpAny_bind (wpAny_field he rfl (x := .ref it) rfl ?_)
    refine wpAny_bind (wpAny_nextOf_tuple_end (I.ok.hd hc) hit p (by simp; omega) fun h2 x e1 hx2 => ?_)
    obtain ⟨o, ho, hcc⟩ := hx2
    refine wpAny_bind (wpAny_isInstance (T := "StopIteration") (b := true) ⟨o, ho, hcc⟩ isSubtype_stop ?_)
    exact wpAny_pure ⟨rfl, I.turned (t' := st.toks) (fun b o hb q => e1 b o hb q) f0 f1 f3 f4 f5⟩
  self := fun A i s Q E tn h => let ⟨⟨_, he⟩, _⟩ := tn; wpAny_pyIter_enum he h
def iF (K : PySem.W.Frag) (ta : TA) : TI := fun σ H R => ta σ H fun vs H1 => ∃ a k xs, vs = [.ref a, .int k] ∧ SqT K H1 a xs ∧ -(2 ^ 63) ≤ k ∧ k < 2 ^ 63 ∧ R (ItF K a k) H1
theorem pi_F {X : Cx} {e e2 : Expr} {ta : TA} {p pos tpos : Pos} {elts : List Expr} {kk : Nat} (hg : Gl X "enumerate") (hm : X.mg "enumerate" = none) (ha : PA X [e, e2] ta)
    (hs : starEach [e, e2] X.env = (false, eval e X.env) :: starEach [e2] X.env := by rfl) (hpl : (backTo pos (starEach [e2] X.env)).any (·.1) = false := by rfl) :
    PI X (.Tuple elts kk tpos) (.Call (.Name "enumerate" p) [e, e2] [] pos) (iF X.K ta) := by
  refine ⟨fun pins st σ H R I h => Call_ (ld_blt I hg hm boot_enumerate (PyProof.Rows.callWith_type1 (thn (ha.run pos pins st σ H _ I h) fun us s1 ⟨vs, H1, I1, r1, q1⟩ => ?_) hs hpl))⟩
  obtain ⟨a, k, xs, ex, hq, hk0, hk1, q⟩ := q1
  subst ex
  cases r1 with
  | cons r rr =>
    cases rr with
    | cons r2 rr =>
      cases rr
      cases r
      obtain ⟨tk, rfl⟩ := r2
      obtain ⟨its, rv, pp, hz⟩ := I1.tuple hq
      refine enum_begins (begins_tuple a its.toArray) pp hk0 hk1 fun h2 he hi hz2 hk => wpAny_pyIter_enum he ?_
      have I2 : Inv X pins σ H1 { s1 with heap := h2 } := I1.kept (t' := s1.toks) hk
      refine ⟨s1.heap.objs.size + 1, [s1.heap.objs.size + 1, s1.heap.objs.size], _, _, H1, rfl, I2, turn_F a (s1.heap.objs.size + 1) s1.heap.objs.size k, ⟨⟨.none, by simpa using he⟩, ⟨_, hi, rfl, rfl⟩, Nat.succ_ne_self _⟩, fun b hb => ?_, q⟩
      have hle : s1.heap.objs.size ≤ b := by
        rcases List.mem_cons.mp hb with z | z
        · rw [z]
          exact Nat.le_add_right _ _
        · rw [List.mem_singleton.mp z]
          exact Nat.le_refl _
      exact I1.fpOk hle (I1.hok.fresh hle)
theorem walk_F {K : PySem.W.Frag} {a : Addr} {k : Int} {xs : List V} : Walk (ItF K a k) xs.length (fun H => SqT K H a xs) (YPair (fun i => some (.int (k + (i : Nat)))) (fun i => xs[i]?)) := by
  refine ⟨fun i _ hi q => ⟨xs, xs[i], q, by simp [hi]⟩, fun _ q => ⟨xs, q, Nat.le_refl _⟩, fun i H v H' _ q y => ?_⟩
  obtain ⟨T, x, h1, h2, h3, h4⟩ := y
  exact ⟨T, .int (k + (i : Nat)), x, h1, h2, h3, rfl, h4 xs q⟩
/-! ### t + u, t[a:b], told by what comes out -/
section
variable {X : Cx}
theorem sl_tupG : SlR X (fun x lo hi H Q => ∃ a xs, x = .ref a ∧ H a = some (.tup xs) ∧ ∀ c H', Same H H' → H' c = some (.tup (cutV xs lo hi)) → Q (.ref c) H') := by
  intro pins st σ H x v vl vu lo hi sl Q I rx hs pl pu h
  obtain ⟨a, xs, rfl, ea, q⟩ := h
  refine sl_tupA pins st σ H _ v vl vu lo hi sl Q I rx hs pl pu ⟨a, xs, rfl, .inl (.inl ea), fun e => ?_, fun _ p np => q p _ (same_new np) upd_same⟩
  refine q a H (Same.refl H) ?_
  unfold cutV
  rw [e.1, e.2, List.drop_zero, Nat.sub_zero, List.take_length]
  exact ea
end
theorem cut_to (ns : List Int) (i : Nat) : cutV (ns.map V.int) none (some (i : Int)) = (ns.take i).map V.int := by
  unfold cutV
  rw [HT.sIx_none, HT.sIx_nat, List.drop_zero, Nat.sub_zero, List.map_take]
  by_cases h : i ≤ (ns.map V.int).length
  · rw [Nat.min_eq_left h]
  · rw [Nat.min_eq_right (by omega), List.take_length, List.take_of_length_le (by omega)]
theorem cut_from (ns : List Int) (i : Nat) : cutV (ns.map V.int) (some (i : Int)) none = (ns.drop i).map V.int := by
  unfold cutV
  rw [HT.sIx_none, HT.sIx_nat, List.map_drop]
  by_cases h : i ≤ (ns.map V.int).length
  · rw [Nat.min_eq_left h, List.take_of_length_le (by rw [List.length_drop]; omega)]
  · rw [Nat.min_eq_right (by omega), List.drop_length, List.drop_of_length_le (by omega), List.take_nil]

/-! ### math of the plants functions -/
/-- who stands at or below j, of the stations up to j + i -/
def und (pl : List Int) (j i : Nat) : List Bool := (List.range (j + 1 + i)).map fun k => decide (j ∈ path pl k)
/-! ### xs[i], xs a list or a tuple -/
theorem ix_lt {X : Cx} : IxR X (fun x y H Q => rIxL X.K x y H Q ∨ rIxT X.K x y H Q) := ix_list.or ix_tup
theorem item_lt {K : PySem.W.Frag} {H : Hp} {a : Addr} {xs : List V} {i : Int} {v : V} {Q : V → Hp → Prop} (h : SqL K H a xs ∨ SqT K H a xs) (e : atI xs i = some v) (q : Q v H) : rIxL K (.ref a) (.int i) H Q ∨ rIxT K (.ref a) (.int i) H Q := by
  rcases h with h | h
  · exact .inl ⟨a, xs, i, v, rfl, rfl, h, e, q⟩
  · exact .inr ⟨a, xs, i, v, rfl, rfl, h, e, q⟩
end PT

set_option maxHeartbeats 4000000
/-! sorted(range(n), key=lambda k: xs[k]): the lambda made, called, the list it sorts -/
namespace PT
open PySem PySem.Spec PyProof.Rows L2 LamX NdefX

section
variable {X : Cx} {pins : List (Addr × Obj)} {σ : List (Option V)} {H : Hp} {s : Shared}
/-- a name read: the state stays as it is -/
theorem name_still {i : Nat} {x : Str} {v : V} {pos : Pos} {Q E : Value → Shared → Prop} (I : Inv X pins σ H s) (hN : X.N[i]? = some x) (e : σ[i]? = some (some v)) (hv : Vis X.env.scope x)
    (k : ∀ u, RelV v u → Q u s) (hd : (x == ("__debug__" : Str)) = false := by decide) (hcd : (x == ("__classdict__" : Str)) = false := by decide) : wpAny (model X.prog X.w) X.A (eval (.Name x pos) X.env) Q E s := by
  obtain ⟨m, hn, hl⟩ := I.loc
  obtain ⟨u, r, l⟩ := hl i x v hN e hv
  have fin := k u r
  rcases l with ⟨hk, hm⟩ | ⟨hk, c, hc, hcell⟩
  · exact wpAny_Name (wpAny_loadName_local I.ok.kind hk hn hm fin) hd
  · rcases hk with hk | hk
    · exact wpAny_Name (wpAny_loadName_cell I.ok.kind hk hc hcell fin) hd
    · exact wpAny_Name (wpAny_loadName_free I.ok.kind hk hc hcell fin hcd) hd
/-- xs[k] of two names: the state stays as it is -/
theorem item_still {i j : Nat} {x y : Str} {a : Addr} {k : Nat} {ns : List Int} {n : Int} {p1 p2 pos : Pos} {Q E : Value → Shared → Prop} (I : Inv X pins σ H s) (hx : X.N[i]? = some x) (ex : σ[i]? = some (some (.ref a))) (vx : Vis X.env.scope x)
    (hy : X.N[j]? = some y) (ey : σ[j]? = some (some (.int (k : Int)))) (vy : Vis X.env.scope y) (hq : SqL X.K H a (ns.map V.int) ∨ SqT X.K H a (ns.map V.int)) (hk : ns[k]? = some n) (fin : ∀ t, Q (.int n t) s)
    (dx : (x == ("__debug__" : Str)) = false) (cx : (x == ("__classdict__" : Str)) = false) (dy : (y == ("__debug__" : Str)) = false) (cy : (y == ("__classdict__" : Str)) = false) : wpAny (model X.prog X.w) X.A (eval (.Subscript (.Name x p1) (.Name y p2) pos) X.env) Q E s := by
  refine Subscript_ (name_still I hx ex vx (fun u ru => name_still I hy ey vy (fun w rw' => ?_) dy cy) dx cx)
  cases ru
  obtain ⟨t, rfl⟩ := rw'
  have hi : (ns.map V.int)[k]? = some (.int n) := by
    rw [List.getElem?_map, hk]
    rfl
  have h63 := line63
  rcases hq with hq | hq
  · obtain ⟨its, r, pl, hz⟩ := I.list hq
    obtain ⟨v, hv, rv⟩ := r.get hi
    obtain ⟨t2, rfl⟩ := rv
    have hl := r.length
    have hlt := (List.getElem?_eq_some_iff.mp hv).1
    exact item_listR pl.isList (by omega) (by omega) (by rw [Int.toNat_natCast]; simpa using hv) (fin t2) rfl
  · obtain ⟨its, r, pl, hz⟩ := I.tuple hq
    obtain ⟨v, hv, rv⟩ := r.get hi
    obtain ⟨t2, rfl⟩ := rv
    have hl := r.length
    have hlt := (List.getElem?_eq_some_iff.mp hv).1
    exact subscriptTail_builtinR (x := .int n t2) pl.typeIs slot_tuple_getitem.lookup
      (getItem_tuple (j := k) (Q := fun r s' => r = .int n t2 ∧ Q r s') pl (by omega) (by omega) (seqIndex_of (by omega) (by rw [List.size_toArray]; omega)) (by simpa using hv) ⟨rfl, fin t2⟩) rfl
/-- the words of a lambda, as those of a def that was made -/
abbrev lamF (qual : Str) (scope : Scope) (cl : List (Str × Addr)) (c' : Addr) : NF := ⟨"<lambda>", qual, ⟨[], [], none, [], [], none, []⟩, [], scope, cl, c'⟩
/-- lambda k: xs[k], called at k -/
theorem key_call {A : Around} {qual x y : Str} {scope : Scope} {params : Arguments} {p1 p2 pos : Pos} {cl : List (Str × Addr)} {pm ctv : Value} {c' f a : Addr} {k : Nat} {t : Tok} {ns : List Int} {n : Int} {m : Nat}
    (I : Inv X pins σ H s) (e0 : Env0 X.prog X.w X.K X.mg X.base A X.stack s H) (room : Room (m + 1) A) (S : NScope [y, x] [y] [x] scope) (C : CellsAt cl [x] [some (.ref a)] s.heap H)
    (hf : s.heap.get? f = some (PySem.W.kla_obj "<lambda>" qual params (.Subscript (.Name x p1) (.Name y p2) pos) scope cl pm c' ctv)) (hc : s.heap.CodeRec (.ref c') qual)
    (hb : ∀ v, bindArgs (PySem.W.kla_fn "<lambda>" qual params (.Subscript (.Name x p1) (.Name y p2) pos) scope cl pm (.ref c') ctv) ⟨[v], []⟩ = pure [(y, v)])
    (hq : SqL X.K H a (ns.map V.int) ∨ SqT X.K H a (ns.map V.int)) (hk : ns[k]? = some n)
    (dx : (x == ("__debug__" : Str)) = false) (cx : (x == ("__classdict__" : Str)) = false) (dy : (y == ("__debug__" : Str)) = false) (cy : (y == ("__classdict__" : Str)) = false) :
    wpAny (model X.prog X.w) A (call (.ref f) [.int (k : Int) t]) (fun v s' => ∃ h' tk, s' = { s with heap := h', toks := tk } ∧ (∀ b o, s.heap.get? b = some o → h'.get? b = some o) ∧ ∃ t', v = .int n t') (fun _ _ => False) s := by
  have lim : s.heap.NoLimit := e0.mod.nolimit.keeps fun b o e => (e0.bs b o e).1
  have rc : codeAny (model X.prog X.w) A (.call (.ref f) ⟨[.int (k : Int) t], []⟩) (fun r s' => ∃ v, r = .ok (.ret v) ∧ ∃ h' tk, s' = { s with heap := h', toks := tk } ∧ (∀ b o, s.heap.get? b = some o → h'.get? b = some o) ∧ ∃ t', v = .int n t') s := by
    refine PySem.W.kla_callFunE room.depth hf rfl S.co S.gen rfl hc ?_
    rw [hb]
    refine wpAny_pure (wpAny_newFunctionEnv (binds := [y].zip [.int (k : Int) t]) S.nocell (fun ⟨n2, _⟩ hy => S.par n2 (List.of_mem_zip hy).1) (fun h₁ hns hsb => ⟨lim.fresh _ hsb, ?_⟩) S.kind)
    have kp : ∀ b o, s.heap.get? b = some o → h₁.get? b = some o := fun b o e => hsb.extBut b o (Nat.ne_of_lt (Heap.lt_size e)) (Heap.get?_push_of_some _ e)
    have J : Inv (ncx CX0 X.prog X.w X.K X.mg X.base [y, x] (lamF qual scope cl c') f A X.stack s H fun _ _ _ => False) [] (startF [y, x] [.int (k : Int)] [some (.ref a)]) H { s with heap := h₁, toks := s.toks + ([y].zip [Value.int (k : Int) t]).length } :=
      inv_startN (us := [.int (k : Int) t]) S room.hd e0 rfl (.cons ⟨t, rfl⟩ .nil) C hns kp
    refine PySem.W.kla_codeExpr (item_still (Q := fun v s' => _) (i := 1) (j := 0) J rfl rfl (.inr (.inr (S.frk x (by simp)))) rfl rfl (.inl (S.par y (by simp))) hq hk (fun t2 => ?_) dx cx dy cy)
    exact ⟨_, rfl, h₁, _, rfl, kp, t2, rfl⟩
  refine wpAny_call (codeAny_mono rc fun r s' hr => ?_)
  obtain ⟨v, rfl, q⟩ := hr
  exact q
end

/-! ### sorted(range(n), key=f) -/
theorem each_get {α β : Type} {R : α → β → Prop} : ∀ {as : List α} {bs : List β}, as.length = bs.length → (∀ (i : Nat) (a : α) (b : β), as[i]? = some a → bs[i]? = some b → R a b) → PySem.W.EachIs R as bs
  | [], [], _, _ => .nil
  | [], _ :: _, h, _ => by simp at h
  | _ :: _, [], h, _ => by simp at h
  | a :: as, b :: bs, h, q => .cons (q 0 a b rfl rfl) (each_get (by simpa using h) fun i x y e1 e2 => q (i + 1) x y (by simpa using e1) (by simpa using e2))
theorem each_map {α β : Type} {R : α → β → Prop} {as : List α} {bs : List β} (h : PySem.W.EachIs R as bs) {S : V → Value → Prop} {g : β → V} {f : α → Value} (q : ∀ a b, R a b → RelV (g b) (f a)) : Vals (bs.map g) (as.map f) := by
  induction h with
  | nil => exact .nil
  | cons r _ ih => exact .cons (q _ _ r) ih
/-- the stations, by their numbers -/
def byAge (n : Nat) (k : Nat → Int) : List Nat := (List.range n).mergeSort fun a b => decide (k a ≤ k b)
section
variable {prog : Program} {w : World} {A : Around} {E : Value → Shared → Prop} {s : Shared}
open PySem.W in
theorem sorted_rng {r q : Addr} {n : Nat} {t u v : Tok} {Q : Value → Shared → Prop} (k : Nat → Int) (hh : A.handled = none) (hr : IsRange s.heap r 0 (n : Int) 1 t u v) (hn : n ≤ 1000) (hu : A.units + 64 < cLine)
    (turn : ∀ (i : Nat) (tk0 : Tok), i < n → ∀ (h : Heap) (tk : Nat), (∀ b o, s.heap.get? b = some o → h.get? b = some o) →
      wpAny (model prog w) A.in1.in1 (call (.ref q) [.int (i : Int) tk0]) (PySem.W.KeyPure (.int (k i)) { s with heap := h, toks := tk }) (fun _ _ => False) { s with heap := h, toks := tk })
    (fin : ∀ (out : List Value) (c : Nat) (h' : Heap) (tk : Nat) (a : Addr), (∀ b o, s.heap.get? b = some o → h'.get? b = some o) → s.heap.get? a = none → h'.get? a = some (seqObj "list" out.toArray c) → PySem.W.EachIs (fun (v : Value) (i : Nat) => ∃ t, v = .int (i : Int) t) out (byAge n k) →
      Q (.ref a) { s with heap := h', toks := tk }) :
    wpAny (model prog w) A (call (.builtin "sorted") [.ref r] [(Str.ofString "key", .ref q)]) Q E s := by
  have hsl : n ≤ sizeLine := Nat.le_of_lt (small1000 hn)
  refine call_function_entry_kw PyProof.Rows.kind_sorted PyProof.Rows.plain_sorted PyProof.Rows.entry_sorted (PyProof.Rows.ksk_s1 _ _) ?_
  unfold Builtin.«sorted»
  refine wpAny_bind (m := checkCount "sorted" 1 1 _) (wpAny_pure ?_)
  refine wpAny_bind (collect_range (n := n) (by simp [hh]) hr (small_one (by omega) (by omega) (by omega) (by omega)) (by have z := rangeSize_nat 0 (n : Int); simpa using z) (by omega) fun h1 tk1 acc kp hi => ?_)
  have hal : acc.toList.length = n := by rw [Array.length_toList]; exact hi.1
  refine wpAny_bind (wpAny_newList ?_ (by rw [hal]; exact hsl))
  have up1 : ∀ b o, s.heap.get? b = some o → (h1.push { cls := .type "list", data := .seq acc.toList.toArray }).get? b = some o := fun b o e => Heap.get?_push_of_some _ (kp b o e)
  have hD : (h1.push { cls := .type "list", data := .seq acc.toList.toArray }).get? h1.objs.size = some (seqObj "list" acc.toList.toArray 0) := Heap.get?_push_size _ rfl
  have nS : s.heap.get? h1.objs.size = none := by
    cases e : s.heap.get? h1.objs.size with
    | none => rfl
    | some o => exact absurd (Heap.lt_size (kp _ _ e)) (Nat.lt_irrefl _)
  have hR : PySem.W.EachIs (fun (v : Value) (i : Nat) => ∃ t, v = .int (i : Int) t) acc.toList (List.range n) := each_get (by rw [hal, List.length_range]) fun i a b e1 e2 => by
    have hb : b = i := by
      have hlt := (List.getElem?_eq_some_iff.mp e2).1
      rw [List.length_range] at hlt
      rw [List.getElem?_range hlt] at e2
      exact (Option.some.inj e2).symm
    obtain ⟨t, rfl⟩ := hi.2 i a (by rw [← e1, Array.getElem?_toList])
    exact ⟨t, by rw [hb]; congr 1; omega⟩
  refine wpAny_bind (wpAny_holding (wpAny_call_entry_kw PyProof.Rows.slot_list_sort ⟨_, hD, rfl⟩ PyProof.Rows.entry_list_sort ?body (PyProof.Rows.ksk_l1 _ _)))
  case body =>
    rw [PyProof.Rows.ksk_t1]
    refine keyH_tree (kz := (List.range n).map fun i => PyData.int (k i)) (vs := acc.toList) hD (by rw [List.length_map, List.length_range, hal]) (by rw [hal]; exact hsl) (fun d hd d' hd' => ?_) (.inr fun d hd => ?_) (fun d hd => ?_) (fun i x d e1 e2 h tk kb => ?_) fun h' tk out c kb hout ko => ⟨_, rfl, wpAny_pure ⟨_, rfl, ?_⟩⟩
    · obtain ⟨_, _, rfl⟩ := List.mem_map.mp hd
      obtain ⟨_, _, rfl⟩ := List.mem_map.mp hd'
      rfl
    · obtain ⟨_, _, rfl⟩ := List.mem_map.mp hd
      exact ⟨(by intro z; cases z), (by intro xs z; cases z)⟩
    · obtain ⟨_, _, rfl⟩ := List.mem_map.mp hd
      show _ + 0 < cLine
      have : A.in1.in1.units ≤ A.units + 2 := by simp
      omega
    · have hlt : i < n := by
        have z := (List.getElem?_eq_some_iff.mp e1).1
        omega
      rw [List.getElem?_map, List.getElem?_range hlt] at e2
      obtain ⟨t, rfl⟩ := hi.2 i x (by rw [← e1, Array.getElem?_toList])
      rw [show (0 : Int) + (i : Int) * 1 = (i : Int) by omega]
      rw [← Option.some.inj e2]
      exact turn i t hlt h tk fun b o e => kb b o (fun z => by rw [z, nS] at e; cases e) (up1 b o e)
    · have ko2 := PySem.W.keyedOut_each (fun i => PyData.int (k i)) ko hR
      rw [PySem.W.dataLe_int] at ko2
      exact fin out c h' tk h1.objs.size (fun b o e => kb b o (fun z => by rw [z, nS] at e; cases e) (up1 b o e)) nS hout ko2
end
theorem ObjOk.there {P : Program} {w : World} {H : Hp} {h : Heap} {a : Addr} {o : HO} (x : ObjOk P w H h a o) : ∃ u, h.get? a = some u := by
  cases o with
  | lst xs => obtain ⟨_, _, _, _, e⟩ := x; exact ⟨_, e⟩
  | tup xs => obtain ⟨_, _, _, ob, e, _⟩ := x; exact ⟨_, e⟩
  | dK kvs => obtain ⟨_, _, _, _, ob, _, _, e, _⟩ := x; exact ⟨_, e⟩
  | dT kvs => obtain ⟨_, _, _, _, ob, _, _, e, _⟩ := x; exact ⟨_, e⟩
  | set S n => obtain ⟨ob, _, _, _, e, _⟩ := x; exact ⟨_, e⟩
  | ins C dx fs => obtain ⟨_, _, _, e, _⟩ := x; exact ⟨_, e⟩
  | own y => exact x
  | xd fs => obtain ⟨_, ⟨_, _, _, e, _⟩, _⟩ := x; exact ⟨_, e⟩
  | rng lo hi => obtain ⟨_, _, _, e⟩ := x; exact ⟨_, e⟩
  | frz ob u => exact ⟨_, x.1⟩
  | tbl ps => exact ⟨_, x⟩
  | met f y => exact ⟨_, x⟩
  | ext φ => exact x.2.1
theorem hok_none {P : Program} {w : World} {H : Hp} {h : Heap} {a : Addr} (k : HOk P w H h) (e : h.get? a = none) : H a = none := by
  cases q : H a with
  | none => rfl
  | some o =>
    obtain ⟨u, z⟩ := ObjOk.there (k a o q)
    rw [e] at z
    cases z
/-! ### the expression -/
theorem ExtN.seq {K : PySem.W.Frag} {H H' : Hp} (e : ExtN H H') {a : Addr} {xs : List V} (h : SqL K H a xs ∨ SqT K H a xs) : SqL K H' a xs ∨ SqT K H' a xs := by
  rcases h with ((h | ⟨o, h⟩) | h) | ((h | ⟨o, h⟩) | h)
  · exact .inl (.inl (.inl (e _ _ h fun ps z => by cases z)))
  · exact .inl (.inl (.inr ⟨o, e _ _ h fun ps z => by cases z⟩))
  · exact .inl (.inr h)
  · exact .inr (.inl (.inl (e _ _ h fun ps z => by cases z)))
  · exact .inr (.inl (.inr ⟨o, e _ _ h fun ps z => by cases z⟩))
  · exact .inr (.inr h)
/-- range(n), as a thing of the heap -/
theorem cr_range1 {X : Cx} : CallR X (.type "range") (fun vs H Q => ∃ j, vs = [V.int j] ∧ ∀ p, H p = none → Q (.ref p) (upd H p (.rng 0 j))) := by
  intro pins s σ H vs us Q I r h
  obtain ⟨j, rfl, q⟩ := h
  obtain ⟨u1, rfl, t, rfl⟩ := vals1 r
  refine call_range_1 ⟨.ref _, upd H _ (.rng 0 j), I.laid (t' := _) (fun b o e => Heap.get?_push_of_some _ e) (Nat.le_refl _) ?_, rfl, q _ (I.hok.fresh (Nat.le_refl _))⟩
  exact ⟨_, _, _, Heap.get?_push_size _ rfl⟩
def tSortedLam (K : PySem.W.Frag) (T : List (Addr × Str)) (j : Nat) (ta : TA) : TE := fun σ H Q => ta σ H fun vs H1 => ∃ (p a : Addr) (n : Nat) (ns : List Int), vs = [.ref p] ∧ H1 p = some (.rng 0 (n : Int)) ∧ n ≤ 1000 ∧ σ[j]? = some (some (.ref a)) ∧ (SqL K H1 a (ns.map V.int) ∨ SqT K H1 a (ns.map V.int)) ∧ ns.length = n ∧ Tabs T H1 ∧
  ∀ (H2 : Hp) (D : Addr), ExtN H1 H2 → Tabs T H2 → H2 D = none → Q (.ref D) (upd H2 D (.lst ((byAge n fun i => ns.getD i 0).map fun i : Nat => V.int (i : Int))))
theorem pe_sortedLam {X : Cx} {T : List (Addr × Str)} {c P : Addr} {j : Nat} {x y : Str} {e : Expr} {ta : TA} {params : Arguments} {scope : Scope} {p pos p1 p2 p3 lp kp : Pos} (TB : TabB X.base X.mg c P) (hcode : X.env.code = .ref c)
    (hmT : (P, X.env.qual ++ "<lambda>") ∈ T) (hu : ∀ z ∈ T, z.1 = P → z.2 = X.env.qual ++ "<lambda>") (room : Room 4 X.A) (hc : X.calm = true) (hg : Gl X "sorted") (hm : X.mg "sorted" = none) (ha : PA X [e] ta)
    (S : NScope [y, x] [y] [x] scope) (hj : X.N[j]? = some x) (hcell : X.env.scope.names.lookup x = some .cell ∨ X.env.scope.names.lookup x = some .free) (hfr : (x, NameKind.free) ∈ scope.names)
    (hb : ∀ (cl : List (Str × Addr)) (pm cdv ctv v : Value), bindArgs (PySem.W.kla_fn "<lambda>" (X.env.qual ++ "<lambda>") params (.Subscript (.Name x p1) (.Name y p2) p3) scope cl pm cdv ctv) ⟨[v], []⟩ = pure [(y, v)])
    (hdef : defaultsOf params X.env = ([], []))
    (dx : (x == ("__debug__" : Str)) = false := by decide) (cx : (x == ("__classdict__" : Str)) = false := by decide) (dy : (y == ("__debug__" : Str)) = false := by decide) (cy : (y == ("__classdict__" : Str)) = false := by decide)
    (na : backTo pos (starEach [e] X.env) = (false, eval e X.env) :: backTo pos (starEach [] X.env) := by rfl) (hpl : (backTo pos (starEach [e] X.env)).any (·.1) = false := by rfl) :
    PE X (.Call (.Name "sorted" p) [e] [⟨some "key", .Lambda params (.Subscript (.Name x p1) (.Name y p2) p3) scope lp, kp⟩] pos) (tSortedLam X.K T j ta) := by
  refine ⟨fun pins s σ H Q I h => ?_⟩
  have hfree : ∀ z ∈ scope.names, z.2 = .free → X.env.scope.names.lookup z.1 = some .cell ∨ X.env.scope.names.lookup z.1 = some .free := fun z hz e => by
    have := S.free z hz e
    rw [List.mem_singleton.mp this]
    exact hcell
  have hfree2 : ∀ z ∈ scope.names, z.2 = .free → ∃ c, X.env.cells.lookup z.1 = some c := fun z hz e => (hfree z hz e).elim (fun q => I.ok.has _ (.inl q)) fun q => I.ok.has _ (.inr q)
  refine wpAny_Call_Name_kw (ld_blt I hg hm (show bootBuiltins (Str.ofString "sorted") = some (.builtin "sorted") by decide +kernel) ?_)
  refine PyProof.Rows.callWith_kw (thn (ha.run pos pins s σ H _ I h) fun us s1 ⟨vs, H1, I1, r1, q1⟩ => ?_) na hpl rfl rfl
  obtain ⟨r, a, n, ns, rfl, hr, hn, hs, hq, hl, hT, q⟩ := q1
  obtain rfl := Vals.ref1 r1
  refine wpAny_evalAll_cons (wpAny_bind (lam_make2 I1 TB hcode hmT hu hT hdef hfree2 fun f c' pm ctv H2 s2 I2 ex tb hf hfn hfr2 hco => wpAny_bind (wpAny_standAt (wpAny_pure ?_))))
  refine wpAny_evalAll_nil ?_
  have hr2 : H2 r = some (.rng 0 (n : Int)) := ex _ _ hr fun ps z => by cases z
  obtain ⟨t, u, v, er⟩ := I2.hok r _ hr2
  have hq2 := ExtN.seq ex hq
  obtain ⟨⟨oc, vs2, t2, h1, h2, h3⟩, _, _⟩ := I2.hok c' _ hco
  refine sorted_rng (fun i => ns.getD i 0) (I2.ok.hd hc) er hn room.units (fun i tk0 hi h tk kp => ?_) fun out c0 h' tk D kp hD ho hE => ?_
  · have I3 : Inv X pins σ H2 { s2 with heap := h, toks := tk } := I2.kept kp
    have C := cells_of I3 (Caps.made (fr := [x]) (js := [j]) I3.ok hfree (fun z hz => by rw [List.mem_singleton.mp hz]; exact hfr) (by rw [List.map_cons, hj]; rfl))
    rw [List.map_cons, slotAt_of hs] at C
    have hk : ns[i]? = some (ns.getD i 0) := by
      rw [List.getD_eq_getElem?_getD, List.getElem?_eq_getElem (by omega)]
      rfl
    refine wpAny_mono (key_call (m := 1) I3 I3.env0.in1.in1 room.in1.in1 S C (kp _ _ hf) ⟨c', oc, vs2, t2, rfl, kp _ _ h1, h2, h3⟩ (hb _ _ _ _) hq2 hk dx cx dy cy) (fun v s' z => ?_) fun _ _ z => z
    obtain ⟨h4, tk4, rfl, kp4, t', rfl⟩ := z
    exact ⟨h4, tk4, rfl, kp4, .int _ _⟩
  · have hlen : ((byAge n fun i => ns.getD i 0).map fun i : Nat => V.int (i : Int)).length ≤ sizeLine := by
      unfold byAge
      rw [List.length_map, List.length_mergeSort, List.length_range]
      exact Nat.le_of_lt (small1000 hn)
    have rv : Vals ((byAge n fun i => ns.getD i 0).map fun i : Nat => V.int (i : Int)) out := by
      have z := each_map (S := fun _ _ => True) (g := fun i : Nat => V.int (i : Int)) (f := id) hE fun a b q => q
      rwa [List.map_id] at z
    have nD := hok_none I2.hok hD
    exact ⟨.ref D, _, I2.laidN kp hD nD (show ObjOk X.prog X.w _ _ _ (.lst ((byAge n fun i => ns.getD i 0).map fun i : Nat => V.int (i : Int))) from ⟨hlen, out, c0, rv, ho⟩), rfl, q H2 D ex tb nD⟩

/-! ### tables, where lists are written -/
theorem codeO_lst {c : Addr} {q : Str} (xs : List V) : CodeO c q ≠ .lst xs := fun z => by
  unfold CodeO at z
  cases z
theorem tabs_bar {T : List (Addr × Str)} {H H' : Hp} {b : Addr} {xs : List V} (h : Tabs T H) (e : H b = some (.lst xs)) (k : Bar b H H') : Tabs T H' := fun p hp => by
  obtain ⟨ps, h1, h2, h3⟩ := h p hp
  refine ⟨ps, k _ _ (fun z => ?_) h1, h2, fun pos cv hc => ?_⟩
  · rw [z, e] at h1
    cases h1
  · obtain ⟨c, e1, e2⟩ := h3 pos cv hc
    refine ⟨c, e1, k _ _ (fun z => ?_) e2⟩
    rw [z, e] at e2
    exact codeO_lst xs (Option.some.inj e2).symm
theorem tabs_set {T : List (Addr × Str)} {H : Hp} {b : Addr} {xs ys : List V} (h : Tabs T H) (e : H b = some (.lst xs)) : Tabs T (upd H b (.lst ys)) := tabs_bar h e bar_upd
theorem tabs_same {T : List (Addr × Str)} {H H' : Hp} (h : Tabs T H) (e : Same H H') : Tabs T H' := h.ext e
theorem same_extN {H H' : Hp} (e : Same H H') : ExtN H H' := fun b o h _ => e b o h
theorem extN_lst {H H' : Hp} (e : ExtN H H') {a : Addr} {xs : List V} (h : H a = some (.lst xs)) : H' a = some (.lst xs) := e _ _ h fun _ z => by cases z
theorem extN_tup {H H' : Hp} (e : ExtN H H') {a : Addr} {xs : List V} (h : H a = some (.tup xs)) : H' a = some (.tup xs) := e _ _ h fun _ z => by cases z
theorem extN_plant {H H' : Hp} (e : ExtN H H') {p : Addr} {pl : List Int} (h : PlantAt H p pl) : PlantAt H' p pl := ⟨extN_tup e h.at_, h.ok⟩
theorem extN_new {H H' : Hp} {a : Addr} {o : HO} (e : ExtN H H') (n : H' a = none) : ExtN H (upd H' a o) := fun b u h z => by
  have y := e b u h z
  rw [upd_ne (ne_of_none y n)]
  exact y
theorem extN_set {H H' : Hp} {a : Addr} {o : HO} (e : ExtN H H') (n : H a = none) : ExtN H (upd H' a o) := fun b u h z => by
  rw [upd_ne (ne_of_none h n)]
  exact e b u h z
end PT

set_option maxHeartbeats 4000000
/-! defs that are called where nothing is being shown: they may use repr of data -/
namespace PT
open PySem PySem.Spec PyProof.Rows L2
/-- what such a def promises: as FnOk says, but only where the guards are known to be empty -/
structure FnG (Pg : Program) (wo : World) (K : PySem.W.Frag) (mg : Str → Option Value) (bs : Heap) (lv : Nat) (at_ : Addr) (fn : FuncData) (ps : List Str) (sp : Sp) : Prop where
  len : ∀ vs H Q E, sp vs H Q E → vs.length = ps.length
  run : ∀ (A : Around) (out : List Env) (st : Shared) (H : Hp) (given : Args) (us : List Value) (vs : List V) (Q : VK) (E : XK),
    A.guards = some [] → Room lv A → Env0 Pg wo K mg bs A out st H → BindsTo st fn given (ps.zip us) → Vals vs us → sp vs H Q E →
      codeAny (model Pg wo) A (.call (.ref at_) given) (CR CX0 out Pg wo H st Q E) st
section
variable {Pg : Program} {wo : World} {K : PySem.W.Frag} {mg : Str → Option Value} {bs : Heap} {at_ : Addr} {fn : FuncData} {ps : List Str} {sp : Sp}
end
section
variable {X : Cx} {lv : Nat} {at_ : Addr} {fn : FuncData} {ps : List Str} {sp : Sp} {more : List V} {ds : List Value}
end
end PT

set_option maxHeartbeats 4000000
/-! the law's own call where defs of the program make lambdas: their tables of code objects stand empty, and are tracked -/
namespace PT
open PySem PySem.Spec PyProof.Rows L2 LamX

/-- a def whose code object is known by its place -/
structure FunC (K : PySem.W.Frag) (x qual : Str) (st : Stmt) (f : Addr) (fd : FuncData) (c : Addr) : Prop where
  ex : ∃ (oc : Value) (od : Option Addr) (kV doc pm : Value) (an : Option Addr) (ct : Value) (osl : Array (Option Value)),
    fd = PySem.W.fnOf x qual (defArgs st) (defBody st) (defScope st) .none kV doc pm an (.ref c) ct ∧ K.lookup f = some ⟨oc, od, .func fd, osl⟩ ∧ PySem.W.codeIn K (.ref c) qual = true
  kp : PySem.W.keepIn K (.ref f) = true
section
variable {P : Program} {w : World} {K : PySem.W.Frag} {mg : Str → Option Value} {base : Heap}
theorem FunC.fun {x qual : Str} {st : Stmt} {f c : Addr} {fd : FuncData} (F : FunC K x qual st f fd c) : Fun K x qual st f fd :=
  ⟨let ⟨oc, od, kV, doc, pm, an, ct, osl, h⟩ := F.ex; ⟨oc, od, kV, doc, pm, an, .ref c, ct, osl, h⟩, F.kp⟩
theorem FunC.ok {x qual : Str} {st : Stmt} {f c : Addr} {fd : FuncData} {N ps : List Str} {k : Nat} {sp : Sp} (F : FunC K x qual st f fd c) (S : FnScope N ps (defScope st)) (len : ∀ vs H Q E, sp vs H Q E → vs.length = ps.length)
    (rd : ∀ (A : Around) (outer : List Env) (s : Shared) (H : Hp) (vs : List V) (Q : VK) (E : XK), Room k (A.deeper (envOfC qual (defScope st) s.heap.objs.size f (.ref c))) → sp vs H Q E →
      ∃ t, PSs (cxOf CX0 P w K mg base N qual (defScope st) f (.ref c) A outer s H E).nox (defBody st) t ∧ t { nx := fun _ H' => Q .non H', rt := Q } (start N vs) H) : FnOk P w K mg base CX0 (k + 1) f fd ps sp := by
  obtain ⟨oc, od, kV, doc, pm, an, ct, osl, e, lk, cd⟩ := F.ex
  subst e
  refine fn_of lk cd S len fun A outer s H vs Q E room hs => ?_
  obtain ⟨t, h, q⟩ := rd A outer s H vs Q E room hs
  exact ⟨t, h.nox, q⟩
theorem funC_mk {x qual : Str} {st : Stmt} {f c : Addr} {oc : Value} {od an : Option Addr} {osl : Array (Option Value)} {kV doc pm ct : Value} (l : K.lookup f = some ⟨oc, od, .func (PySem.W.fnOf x qual (defArgs st) (defBody st) (defScope st) .none kV doc pm an (.ref c) ct), osl⟩)
    (d : PySem.W.codeIn K (.ref c) qual = true) (k : PySem.W.keepIn K (.ref f) = true) : FunC K x qual st f (PySem.W.fnOf x qual (defArgs st) (defBody st) (defScope st) .none kV doc pm an (.ref c) ct) c := ⟨⟨oc, od, kV, doc, pm, an, ct, osl, rfl, l, d⟩, k⟩
end
/-- nothing is tracked but the script and these tables, all empty -/
def OnlyT (cs : List (Addr × Addr)) (H : Hp) : Prop := ∀ b, H b = none ∨ b ∈ cs.map (·.2) ∨ ∃ o xs, H b = some (.frz o (.lst xs))
end PT

set_option maxHeartbeats 4000000
/-! a def whose last parameter has the default 0 -/
namespace PT
open PySem PySem.Spec PyProof.Rows L2
section
variable {P : Program} {w : World} {K : PySem.W.Frag} {mg : Str → Option Value} {base : Heap} {x qual : Str} {params : Arguments} {body : List Stmt} {scope : Scope} {dvs : List V} {f : Addr} {fd : FuncData}
theorem okD {N ps : List Str} {k : Nat} {sp : Sp} (F : FunD K x qual params body scope dvs [] f fd) (S : FnScope N ps scope) (len : ∀ vs H Q E, sp vs H Q E → vs.length = ps.length)
    (hbody : ∀ (cdv : Value) (A : Around) (outer : List Env) (s : Shared) (H : Hp) (vs : List V) (Q : VK) (E : XK), Room k (A.deeper (envOfC qual scope s.heap.objs.size f cdv)) → sp vs H Q E →
      ∃ t, PSs (cxOf CX0 P w K mg base N qual scope f cdv A outer s H E).nox body t ∧ t { nx := fun _ H' => Q .non H', rt := Q } (start N vs) H) : FnOk P w K mg base CX0 (k + 1) f fd ps sp :=
  F.ok S len fun cdv A outer s H vs Q E hr h => let ⟨t, p, q⟩ := hbody cdv A outer s H vs Q E hr h; ⟨t, p.nox, q⟩
theorem dfl0 {T : Addr} {c : Value} {d : Option Addr} {sl : Array (Option Value)} {tk : Tok} {n : Nat} (l : K.lookup T = some ⟨c, d, .seq #[.int 0 tk] n, sl⟩) : DflV K (.ref T) [.int 0] :=
  .inr ⟨by simp, T, _, [.int 0 tk], n, rfl, l, rfl, .cons ⟨tk, rfl⟩ .nil⟩
theorem funD_mk {oc : Value} {od an : Option Addr} {osl : Array (Option Value)} {dV kV doc pm cdv ct : Value} (l : K.lookup f = some ⟨oc, od, .func (PySem.W.fnOf x qual params body scope dV kV doc pm an cdv ct), osl⟩)
    (c : PySem.W.codeIn K cdv qual = true) (k : PySem.W.keepIn K (.ref f) = true) (d : DflV K dV dvs) : FunD K x qual params body scope dvs [] f (PySem.W.fnOf x qual params body scope dV kV doc pm an cdv ct) :=
  ⟨⟨oc, od, dV, kV, doc, pm, an, cdv, ct, osl, rfl, l, c, d, .inl rfl⟩, k⟩
theorem fnOk_of {CX : CXT} {k : Nat} {ps : List Str} {sp sp2 : Sp} (F : FnOk P w K mg base CX k f fd ps sp) (h : ∀ vs H Q E, sp2 vs H Q E → sp vs H Q E) : FnOk P w K mg base CX k f fd ps sp2 :=
  ⟨fun vs H Q E x => F.len vs H Q E (h vs H Q E x), fun A outer s H args us vs Q E a b c d e => F.run A outer s H args us vs Q E a b c d (h _ _ _ _ e)⟩
end
end PT

/-! classes of errors that a program has written -/
namespace PT
open PySem PySem.Spec PyProof.Rows L2
/-- a class of errors that the program has written, without an __init__ of its own -/
structure ExcC (K : PySem.W.Frag) (mg : Str → Option Value) (x : Str) (C : Addr) : Prop where
  g : mg x = some (.ref C)
  e : PySem.W.excIn K C [.type "ValueError", .type "Exception", .type "BaseException", .type "object"] "ValueError.__new__" = true
  k : PySem.W.keepIn K (.ref C) = true
  s : PySem.W.subIn K (.ref C) (.type "BaseException") = some true
  t : PySem.W.typeIn K (.ref C) = some (.type "type")
end PT

set_option maxHeartbeats 4000000
/-! [plant, stock] and lists of small ints, shown -/
namespace PT
open PySem PySem.Spec PyProof.Rows L2
theorem StockOk.small {pl ss : List Int} (h : StockOk pl ss) : ∀ n ∈ ss, n.natAbs < 10 ^ 50 := fun n hn => by
  have := h.sm n hn
  omega
/-- [plant, stock] as data -/
def pairD (pl ss : List Int) : PyData := .list [.tuple (pl.map PyData.int), .tuple (ss.map PyData.int)]
end PT

set_option maxHeartbeats 4000000
/-! max of a tuple of ints -/
namespace PT
open PySem PySem.Spec PyProof.Rows L2
theorem alike_int (ns : List Int) : PySem.W.AlikeAll (ns.map PyData.int) := by
  refine ⟨fun x hx y hy => ?_, fun x hx => ?_⟩
  · obtain ⟨n, _, rfl⟩ := List.mem_map.mp hx
    obtain ⟨m, _, rfl⟩ := List.mem_map.mp hy
    rfl
  · obtain ⟨n, _, rfl⟩ := List.mem_map.mp hx
    intro e
    cases e
theorem depth_ints : ∀ ns : List Int, PyData.depthAll (ns.map PyData.int) = 0
  | [] => rfl
  | n :: ns => by
    rw [List.map_cons]
    simp only [PyData.depthAll, PyData.depth, depth_ints ns]
    rfl
theorem lay_ints : ∀ ns : List Int, PyData.canLayAll0 (ns.map PyData.int) = true
  | [] => by simp [PyData.canLayAll0]
  | n :: ns => by simp [PyData.canLayAll0, PyData.canLay0, lay_ints ns]
section
variable {X : Cx}
/-- max(t), t a tuple of ints -/
theorem call_maxT (hc : X.calm = true) (hu : X.A.units + 64 < cLine) : CallR X (.builtin "max") (fun vs H Q => ∃ a ns, vs = [V.ref a] ∧ SqT X.K H a (ns.map V.int) ∧ ns ≠ [] ∧ Q (.int (mxv ns)) H) := by
  intro pins st σ H vs us Q I r h
  obtain ⟨a, ns, rfl, hT, hne, q⟩ := h
  obtain ⟨its, rv, p, hz⟩ := I.tuple hT
  rw [Vals.ref1 r]
  cases ns with
  | nil => exact absurd rfl hne
  | cons x xs =>
    obtain ⟨as, hr⟩ := Dp.readsAll I ((x :: xs).map PyData.int) _ its (dp_ints (x :: xs)) rv
    have hd : PyData.depthAll (.int x :: xs.map PyData.int) = 0 := depth_ints (x :: xs)
    refine PySem.W.max_tuple_data (I.ok.hd hc) p hr (alike_int (x :: xs)) (by rw [hd]; omega) fun i v h' tk bs hv hR hk => ?_
    rw [PySem.W.maxD_ints] at hR
    cases hR with
    | int m t => exact ⟨.int _, H, I.kept hk, ⟨t, rfl⟩, q⟩
end
def natV (c : List Nat) : List V := c.map fun k : Nat => V.int (k : Int)
end PT

set_option maxHeartbeats 4000000
/-! lists of pairs of ints: data, the least pair -/
namespace PT
open PySem PySem.Spec PyProof.Rows L2
def pD (p : Int × Int) : PyData := .tuple [.int p.1, .int p.2]
/-- a list of pairs of ints -/
structure PairsAt (H : Hp) (l : Addr) (as : List Addr) (ps : List (Int × Int)) : Prop where
  hl : H l = some (.lst (as.map V.ref))
  len : as.length = ps.length
  at_ : ∀ (i : Nat) (a : Addr) (p : Int × Int), as[i]? = some a → ps[i]? = some p → H a = some (.tup [.int p.1, .int p.2])
theorem PairsAt.same {H H' : Hp} {l : Addr} {as : List Addr} {ps : List (Int × Int)} (h : PairsAt H l as ps) (e : Same H H') : PairsAt H' l as ps := ⟨e _ _ h.hl, h.len, fun i a p x y => e _ _ (h.at_ i a p x y)⟩
theorem dpAll_pairs {K : PySem.W.Frag} {H : Hp} : ∀ (as : List Addr) (ps : List (Int × Int)), as.length = ps.length → (∀ (i : Nat) (a : Addr) (p : Int × Int), as[i]? = some a → ps[i]? = some p → H a = some (.tup [.int p.1, .int p.2])) → DpAll K H (as.map V.ref) (ps.map pD)
  | [], [], _, _ => .nil
  | [], _ :: _, h, _ => by simp at h
  | _ :: _, [], h, _ => by simp at h
  | a :: as, p :: ps, h, q => .cons (.tup (.inl (.inl (q 0 a p rfl rfl))) (dp_ints [p.1, p.2])) (dpAll_pairs as ps (by simpa using h) fun i b r e1 e2 => q (i + 1) b r (by simpa using e1) (by simpa using e2))
theorem PairsAt.dp {K : PySem.W.Frag} {H : Hp} {l : Addr} {as : List Addr} {ps : List (Int × Int)} (h : PairsAt H l as ps) : Dp K H (.ref l) (.list (ps.map pD)) := .lst (.inl (.inl h.hl)) (dpAll_pairs as ps h.len h.at_)
theorem depth_pairs : ∀ ps : List (Int × Int), PyData.depthAll (ps.map pD) ≤ 1
  | [] => Nat.zero_le _
  | p :: ps => by
    have ih := depth_pairs ps
    rw [List.map_cons]
    simp only [PyData.depthAll, pD, PyData.depth]
    omega
theorem lay_pairs : ∀ ps : List (Int × Int), PyData.canLayAll0 (ps.map pD) = true
  | [] => by simp [PyData.canLayAll0]
  | p :: ps => by simp [PyData.canLayAll0, PyData.canLay0, pD, lay_pairs ps]
theorem shaped_pairs (ps : List (Int × Int)) : SeqAt.shaped (.list (ps.map pD)) = true := by
  unfold SeqAt.shaped
  have h := depth_pairs ps
  simp only [PyData.canLay0, PyData.depth, lay_pairs, Bool.true_and, decide_eq_true_eq]
  exact decide_eq_true (by omega)
section
variable {X : Cx}
end
/-! ### the least pair is that of the oldest box -/
theorem minOf_mem : ∀ (pr : List (Int × Int)) (p0 : Int × Int), PySem.W.minOf p0 pr ∈ p0 :: pr
  | [], _ => List.mem_cons_self
  | y :: pr, p0 => by
    have ih := minOf_mem pr (if PySem.W.DatumOrd.lt y p0 = true then y else p0)
    show PySem.W.minOf (if PySem.W.DatumOrd.lt y p0 = true then y else p0) pr ∈ _
    rcases List.mem_cons.mp ih with e | e
    · rw [e]
      split
      · simp
      · simp
    · exact List.mem_cons_of_mem _ (List.mem_cons_of_mem _ e)
theorem ltP_fst {p q : Int × Int} (h : ¬ PySem.W.DatumOrd.lt p q = true) : q.1 ≤ p.1 := by
  have e : PySem.W.DatumOrd.lt p q = if p.1 = q.1 then decide (p.2 < q.2) else decide (p.1 < q.1) := rfl
  rw [e] at h
  by_cases c : p.1 = q.1
  · omega
  · rw [if_neg c] at h
    have := of_decide_eq_false (eq_false_of_ne_true h)
    omega
theorem ltP_fst2 {p q : Int × Int} (h : PySem.W.DatumOrd.lt p q = true) : p.1 ≤ q.1 := by
  have e : PySem.W.DatumOrd.lt p q = if p.1 = q.1 then decide (p.2 < q.2) else decide (p.1 < q.1) := rfl
  rw [e] at h
  by_cases c : p.1 = q.1
  · omega
  · rw [if_neg c] at h
    have := of_decide_eq_true h
    omega
theorem minOf_le : ∀ (pr : List (Int × Int)) (p0 : Int × Int), ∀ q ∈ p0 :: pr, (PySem.W.minOf p0 pr).1 ≤ q.1
  | [], p0, q, h => by
    rw [List.mem_singleton.mp h]
    exact Int.le_refl _
  | y :: pr, p0, q, h => by
    have ih := minOf_le pr (if PySem.W.DatumOrd.lt y p0 = true then y else p0)
    show (PySem.W.minOf (if PySem.W.DatumOrd.lt y p0 = true then y else p0) pr).1 ≤ _
    have h0 := ih _ List.mem_cons_self
    rcases List.mem_cons.mp h with e | e
    · rw [e]
      refine Int.le_trans h0 ?_
      split
      · rename_i c
        exact ltP_fst2 c
      · exact Int.le_refl _
    · rcases List.mem_cons.mp e with e | e
      · rw [e]
        refine Int.le_trans h0 ?_
        split
        · exact Int.le_refl _
        · rename_i c
          exact ltP_fst c
      · exact ih q (List.mem_cons_of_mem _ e)
/-- the suppliers with their boxes -/
def supP (pl ss : List Int) (i v : Nat) : List (Int × Int) := (sup pl i v).map fun k => (bx ss k, k)
theorem supP_min {pl ss : List Int} (hP : Plant pl) (hs : ss.length = pl.length + 1) (hn : ss.Nodup) {v : Nat} {p0 : Int × Int} {pr : List (Int × Int)} (e : supP pl ss pl.length v = p0 :: pr) :
    gives pl ss v ∧ PySem.W.minOf p0 pr = (bx ss (bst pl ss v), ((bst pl ss v : Nat) : Int)) := by
  have hm := minOf_mem pr p0
  have hle := minOf_le pr p0
  rw [← e] at hm hle
  unfold supP at hm hle
  obtain ⟨k, hk, ek⟩ := List.mem_map.mp hm
  obtain ⟨kn, rfl, k1, k2⟩ := sup_gt hP hk
  obtain ⟨k0, _, kc⟩ := (sup_cu hP).mp hk
  obtain ⟨g1, g2⟩ := gives_of (ss := ss) hP k0 k2
  rw [kc] at g1 g2
  have g3 := g1
  unfold gives at g3
  have hb : ((bst pl ss v : Nat) : Int) ∈ sup pl pl.length v := (sup_cu hP).mpr ⟨by omega, g3.2, gives_cu hP g1⟩
  have l := hle _ (List.mem_map.mpr ⟨_, hb, rfl⟩)
  rw [← ek] at l
  have l2 : bx ss (kn : Int) ≤ bx ss (bst pl ss v) := l
  have same := bx_inj hn (i := bst pl ss v) (j := kn) (by omega) (by omega) (by omega)
  refine ⟨g1, ?_⟩
  rw [← ek, same]
theorem supP_nil {pl ss : List Int} {v : Nat} (hP : Plant pl) (e : supP pl ss pl.length v = []) : ¬ gives pl ss v := by
  have z : sup pl pl.length v = [] := List.map_eq_nil_iff.mp e
  intro h
  have := bst_nil (ss := ss) z
  unfold gives at h
  omega
theorem supP_step {pl ss : List Int} {i : Nat} {x : Int} (v : Nat) (h : pl[i]? = some x) : supP pl ss (i + 1) v = if x = (v : Int) then supP pl ss i v ++ [(bx ss ((i : Int) + 1), (i : Int) + 1)] else supP pl ss i v := by
  unfold supP
  rw [sup_step v h]
  split
  · rw [List.map_append]
    rfl
  · rfl
theorem supP_len (pl ss : List Int) (i v : Nat) : (supP pl ss i v).length ≤ i := by
  unfold supP
  rw [List.length_map]
  exact sup_len pl i v

theorem PairsAt.snoc {G : Hp} {D t : Addr} {as : List Addr} {ps : List (Int × Int)} {p : Int × Int} (h : PairsAt G D as ps) (n : G t = none) :
    PairsAt (upd (upd G t (.tup [.int p.1, .int p.2])) D (.lst (as.map V.ref ++ [.ref t]))) D (as ++ [t]) (ps ++ [p]) := by
  have tD : t ≠ D := fun z => by
    rw [z, h.hl] at n
    cases n
  refine ⟨by rw [upd_same, List.map_append]; rfl, by rw [List.length_append, List.length_append, h.len]; rfl, fun i a r ea er => ?_⟩
  by_cases hi : i < as.length
  · rw [List.getElem?_append_left hi] at ea
    rw [List.getElem?_append_left (by rw [← h.len]; exact hi)] at er
    have z := h.at_ i a r ea er
    rw [upd_ne (ne_of z h.hl (by intro w; cases w)), upd_ne (ne_of_none z n)]
    exact z
  · have hl := h.len
    have hi2 : i = as.length := by
      have z := (List.getElem?_eq_some_iff.mp ea).1
      rw [List.length_append] at z
      have z2 : i < as.length + 1 := z
      omega
    subst hi2
    rw [List.getElem?_append_right (Nat.le_refl _), Nat.sub_self] at ea
    rw [hl, List.getElem?_append_right (Nat.le_refl _), Nat.sub_self] at er
    cases ea
    cases er
    rw [upd_ne tD, upd_same]
end PT

/-! the words of an ordered stock: what a day does to them -/
namespace PT

/-- the supplier of v at or above s; none where s is not below v -/
def br (pl : List Int) (v s : Nat) : Option Nat := if h : 0 < s then (if cu pl s = v then some s else br pl v (cu pl s)) else none
termination_by s
decreasing_by exact cu_lt pl h
theorem br_zero (pl : List Int) (v : Nat) : br pl v 0 = none := by
  rw [br]
  rfl
theorem br_pos (pl : List Int) (v : Nat) {s : Nat} (h : 0 < s) : br pl v s = if cu pl s = v then some s else br pl v (cu pl s) := by
  rw [br, dif_pos h]
theorem br_some {pl : List Int} {v t : Nat} : ∀ s, br pl v s = some t → 0 < t ∧ t ≤ s ∧ cu pl t = v ∧ v < s := by
  intro s
  induction s using Nat.strongRecOn with
  | ind s ih =>
    intro h
    by_cases h0 : 0 < s
    · have hc := cu_lt pl h0
      rw [br_pos pl v h0] at h
      by_cases e : cu pl s = v
      · rw [if_pos e] at h
        cases h
        exact ⟨h0, Nat.le_refl _, e, by omega⟩
      · rw [if_neg e] at h
        have := ih _ hc h
        omega
    · have e : s = 0 := by omega
      rw [e, br_zero] at h
      cases h
theorem br_ord {pl ss : List Int} (ho : Ord pl ss) {v t : Nat} : ∀ s, s ≤ pl.length → br pl v s = some t → bx ss t ≤ bx ss s := by
  intro s
  induction s using Nat.strongRecOn with
  | ind s ih =>
    intro hs h
    by_cases h0 : 0 < s
    · have hc := cu_lt pl h0
      rw [br_pos pl v h0] at h
      by_cases e : cu pl s = v
      · rw [if_pos e] at h
        cases h
        exact Int.le_refl _
      · rw [if_neg e] at h
        have h1 := ih _ hc (by omega) h
        have h2 := ho s h0 hs
        omega
    · have e : s = 0 := by omega
      rw [e, br_zero] at h
      cases h
/-- all stations, from the oldest box on -/
structure IsOrd (ss : List Int) (L : List Nat) : Prop where
  mem : ∀ k, k ∈ L ↔ k < ss.length
  inc : L.Pairwise fun a b : Nat => bx ss a < bx ss b
theorem inc_unique {ss : List Int} : ∀ {L M : List Nat}, L.Pairwise (fun a b : Nat => bx ss a < bx ss b) → M.Pairwise (fun a b : Nat => bx ss a < bx ss b) → (∀ k, k ∈ L ↔ k ∈ M) → L = M
  | [], [], _, _, _ => rfl
  | [], m :: M, _, _, h => absurd ((h m).mpr List.mem_cons_self) (by simp)
  | l :: L, [], _, _, h => absurd ((h l).mp List.mem_cons_self) (by simp)
  | l :: L, m :: M, h1, h2, h => by
    obtain ⟨a1, a2⟩ := List.pairwise_cons.mp h1
    obtain ⟨b1, b2⟩ := List.pairwise_cons.mp h2
    have e : l = m := by
      rcases List.mem_cons.mp ((h l).mp List.mem_cons_self) with z | z
      · exact z
      · rcases List.mem_cons.mp ((h m).mpr List.mem_cons_self) with y | y
        · exact y.symm
        · have := b1 l z
          have := a1 m y
          omega
    subst e
    have hl : l ∉ L := fun z => by have := a1 l z; omega
    have hm : l ∉ M := fun z => by have := b1 l z; omega
    refine congrArg (l :: ·) (inc_unique a2 b2 fun k => ?_)
    constructor
    · intro z
      rcases List.mem_cons.mp ((h k).mp (List.mem_cons_of_mem _ z)) with y | y
      · rw [y] at z
        exact absurd z hl
      · exact y
    · intro z
      rcases List.mem_cons.mp ((h k).mpr (List.mem_cons_of_mem _ z)) with y | y
      · rw [y] at z
        exact absurd z hm
      · exact y
theorem IsOrd.unique {ss : List Int} {L M : List Nat} (h : IsOrd ss L) (g : IsOrd ss M) : L = M := inc_unique h.inc g.inc fun k => (h.mem k).trans (g.mem k).symm
/-- the word of v -/
def wd (pl : List Int) (L : List Nat) (v : Nat) : List Nat := L.filterMap (br pl v)
theorem wd_maker {pl : List Int} (hP : Plant pl) {v : Nat} (h : sup pl pl.length v = []) : ∀ {L : List Nat}, (∀ k ∈ L, k ≤ pl.length) → wd pl L v = [] := by
  intro L hL
  unfold wd
  rw [List.filterMap_eq_nil_iff]
  intro k hk
  cases e : br pl v k with
  | none => rfl
  | some t =>
    obtain ⟨t0, t1, t2, _⟩ := br_some k e
    have := (sup_cu hP (j := v) (k := t)).mpr ⟨t0, by have := hL k hk; omega, t2⟩
    rw [h] at this
    cases this
theorem wd_mem {pl : List Int} {L : List Nat} {v t : Nat} (hL : ∀ k ∈ L, k ≤ pl.length) (h : t ∈ wd pl L v) : 0 < t ∧ t ≤ pl.length ∧ cu pl t = v := by
  obtain ⟨k, hk, e⟩ := List.mem_filterMap.mp h
  obtain ⟨a, b, c, _⟩ := br_some k e
  exact ⟨a, by have := hL k hk; omega, c⟩
/-! ### the chain -/
theorem chn_br {pl ss : List Int} (hP : Plant pl) : ∀ (n c : Nat), pl.length - c = n → gives pl ss c → ∀ s ∈ chn pl ss (bst pl ss c), br pl c s = some (bst pl ss c) := by
  intro n c hn hg s
  have hd : c < bst pl ss c ∧ bst pl ss c ≤ pl.length := hg
  have hcu := gives_cu hP hg
  induction s using Nat.strongRecOn with
  | ind s ih =>
    intro hs
    have hr := chn_le _ (bst pl ss c) rfl hd.2 s hs
    have h0 : 0 < s := by omega
    rw [br_pos pl c h0]
    rcases chn_up _ (bst pl ss c) rfl s hs with z | ⟨p, hp, gp, ep⟩
    · rw [if_pos (by rw [z]; exact hcu), z]
    · have e2 := gives_cu hP gp
      rw [ep] at e2
      have hp2 := chn_le _ (bst pl ss c) rfl hd.2 p hp
      rw [e2, if_neg (by omega)]
      exact ih p (by unfold gives at gp; omega) hp
/-- the last station of the chain from c on -/
def lst (pl ss : List Int) (c : Nat) : Nat := if h : c < bst pl ss c ∧ bst pl ss c ≤ pl.length then lst pl ss (bst pl ss c) else c
termination_by pl.length - c
decreasing_by omega
theorem lst_on {pl ss : List Int} {c : Nat} (h : gives pl ss c) : lst pl ss c = lst pl ss (bst pl ss c) := by
  rw [lst, dif_pos (show c < bst pl ss c ∧ bst pl ss c ≤ pl.length from h)]
theorem lst_end {pl ss : List Int} {c : Nat} (h : ¬ gives pl ss c) : lst pl ss c = c := by
  rw [lst, dif_neg (show ¬ (c < bst pl ss c ∧ bst pl ss c ≤ pl.length) from h)]
theorem lst_chn {pl ss : List Int} : ∀ (n c : Nat), pl.length - c = n → lst pl ss c ∈ chn pl ss c ∧ ¬ gives pl ss (lst pl ss c) ∧ ∀ k ∈ chn pl ss c, ¬ gives pl ss k → k = lst pl ss c := by
  intro n
  induction n using Nat.strongRecOn with
  | ind n ih =>
    intro c hn
    by_cases h : gives pl ss c
    · have h' : c < bst pl ss c ∧ bst pl ss c ≤ pl.length := h
      obtain ⟨a, b, d⟩ := ih (pl.length - bst pl ss c) (by omega) (bst pl ss c) rfl
      rw [lst_on h, chn_on h]
      refine ⟨List.mem_cons_of_mem _ a, b, fun k hk nk => ?_⟩
      rcases List.mem_cons.mp hk with z | z
      · rw [z] at nk
        exact absurd h nk
      · exact d k z nk
    · rw [lst_end h, chn_end h]
      exact ⟨List.mem_cons_self, h, fun k hk _ => List.mem_singleton.mp hk⟩
theorem lst_br {pl ss : List Int} (hP : Plant pl) : ∀ (n c : Nat), pl.length - c = n → ∀ v ∈ chn pl ss c, gives pl ss v → br pl v (lst pl ss c) = some (bst pl ss v) := by
  intro n
  induction n using Nat.strongRecOn with
  | ind n ih =>
    intro c hn v hv hg
    by_cases h : gives pl ss c
    · have h' : c < bst pl ss c ∧ bst pl ss c ≤ pl.length := h
      rw [chn_on h] at hv
      rw [lst_on h]
      rcases List.mem_cons.mp hv with z | z
      · rw [z]
        exact chn_br hP _ c rfl h _ (lst_chn _ _ rfl).1
      · exact ih (pl.length - bst pl ss c) (by omega) (bst pl ss c) rfl v z hg
    · rw [chn_end h] at hv
      rw [List.mem_singleton.mp hv] at hg
      exact absurd hg h
theorem chn_cu {pl ss : List Int} (hP : Plant pl) {s : Nat} (hs : s ∈ chn pl ss 0) (h0 : 0 < s) : cu pl s ∈ chn pl ss 0 ∧ gives pl ss (cu pl s) ∧ bst pl ss (cu pl s) = s := by
  rcases chn_up _ 0 rfl s hs with z | ⟨p, hp, gp, ep⟩
  · omega
  · have e2 := gives_cu hP gp
    rw [ep] at e2
    rw [e2]
    exact ⟨hp, gp, ep⟩
theorem chn_out {pl ss : List Int} (hP : Plant pl) {v : Nat} (hv : v ∉ chn pl ss 0) : ∀ s, s ∈ chn pl ss 0 → br pl v s = none := by
  intro s
  induction s using Nat.strongRecOn with
  | ind s ih =>
    intro hs
    by_cases h0 : 0 < s
    · obtain ⟨a, _, _⟩ := chn_cu hP hs h0
      rw [br_pos pl v h0, if_neg (fun z : cu pl s = v => hv (z ▸ a))]
      exact ih _ (cu_lt pl h0) a
    · have e : s = 0 := by omega
      rw [e, br_zero]
/-! ### a day -/
/-- where the box of s stands behind the day -/
def mv (pl ss : List Int) (s : Nat) : Nat := if s ∈ chn pl ss 0 then cu pl s else s
theorem mv_bx {pl ss : List Int} (hP : Plant pl) (hs : ss.length = pl.length + 1) {s : Nat} (h0 : 0 < s) (h1 : s ≤ pl.length) : bx (day pl ss 0).2 (mv pl ss s) = bx ss s := by
  have hc := cu_lt pl h0
  unfold mv
  by_cases h : s ∈ chn pl ss 0
  · obtain ⟨a, b, c⟩ := chn_cu hP h h0
    rw [if_pos h, day_at hs (j := cu pl s) (by omega), if_pos a]
    unfold nxt
    rw [if_pos b, c]
  · rw [if_neg h, day_at hs h1, if_neg h]
/-- the order behind the day -/
def dayL (pl ss : List Int) (L : List Nat) : List Nat := L.tail.map (mv pl ss) ++ [lst pl ss 0]
theorem ord_head {pl ss : List Int} (hs : ss.length = pl.length + 1) (ho : Ord pl ss) {L : List Nat} (hL : IsOrd ss L) : ∃ R, L = 0 :: R ∧ ∀ k ∈ R, 0 < k ∧ k ≤ pl.length := by
  have low : ∀ k, k ≤ pl.length → bx ss ((0 : Nat) : Int) ≤ bx ss k := by
    intro k
    induction k using Nat.strongRecOn with
    | ind k ih =>
      intro hk
      by_cases h : 0 < k
      · have hc := cu_lt pl h
        have h1 := ih _ hc (by omega)
        have h2 := ho k h hk
        omega
      · have e : k = 0 := by omega
        rw [e]
        exact Int.le_refl _
  cases L with
  | nil => exact absurd ((hL.mem 0).mpr (by omega)) (by simp)
  | cons x R =>
    obtain ⟨a1, a2⟩ := List.pairwise_cons.mp hL.inc
    have hx : x = 0 := by
      rcases List.mem_cons.mp ((hL.mem 0).mpr (by omega)) with z | z
      · exact z.symm
      · have := a1 0 z
        have := low x (by have := (hL.mem x).mp List.mem_cons_self; omega)
        omega
    refine ⟨R, by rw [hx], fun k hk => ?_⟩
    have := (hL.mem k).mp (List.mem_cons_of_mem _ hk)
    have := a1 k hk
    rw [hx] at this
    refine ⟨?_, by omega⟩
    by_cases z : k = 0
    · rw [z] at this
      omega
    · omega
theorem dayL_ord {pl ss : List Int} (hP : Plant pl) (hs : ss.length = pl.length + 1) (ho : Ord pl ss) {L : List Nat} (hL : IsOrd ss L) : IsOrd (day pl ss 0).2 (dayL pl ss L) := by
  obtain ⟨R, rfl, hR⟩ := ord_head hs ho hL
  obtain ⟨l1, l2, l3⟩ := lst_chn (ss := ss) _ 0 rfl
  have lle := chn_le _ 0 rfl (Nat.zero_le _) _ l1
  have hln : (day pl ss 0).2.length = pl.length + 1 := by
    have z := (go_ok hs _ ss [] 0 (bx ss ((0 : Nat) : Int)) rfl (Nat.zero_le _) (Row.start (pl := pl) (ss := ss) (c := 0) (by omega))).1
    show (go pl ss ss [] 0).2.length = _
    rw [z, hs]
  have enew : bx (day pl ss 0).2 (lst pl ss 0) = mxv ss + 1 := by
    rw [day_at hs lle.2, if_pos l1]
    unfold nxt
    rw [if_neg l2]
  refine ⟨fun k => ?_, ?_⟩
  · rw [hln]
    unfold dayL
    rw [List.tail_cons, List.mem_append, List.mem_singleton, List.mem_map]
    constructor
    · rintro (⟨s, hsR, rfl⟩ | rfl)
      · obtain ⟨a, b⟩ := hR s hsR
        unfold mv
        have := cu_lt pl a
        split <;> omega
      · omega
    · intro hk
      by_cases hc : k ∈ chn pl ss 0
      · by_cases hg : gives pl ss k
        · left
          have hd : k < bst pl ss k ∧ bst pl ss k ≤ pl.length := hg
          refine ⟨bst pl ss k, ?_, ?_⟩
          · rcases List.mem_cons.mp ((hL.mem (bst pl ss k)).mpr (by omega)) with z | z
            · omega
            · exact z
          · unfold mv
            rw [if_pos (chn_down _ 0 rfl k hc hg), gives_cu hP hg]
        · exact .inr (l3 k hc hg)
      · left
        refine ⟨k, ?_, ?_⟩
        · rcases List.mem_cons.mp ((hL.mem k).mpr (by omega)) with z | z
          · rw [z] at hc
            exact absurd (chn_self 0) hc
          · exact z
        · unfold mv
          rw [if_neg hc]
  · unfold dayL
    rw [List.tail_cons]
    obtain ⟨a1, a2⟩ := List.pairwise_cons.mp hL.inc
    refine List.pairwise_append.mpr ⟨?_, List.pairwise_singleton .., fun x hx y hy => ?_⟩
    · rw [List.pairwise_map]
      refine a2.imp_of_mem fun {a b} ha hb h => ?_
      obtain ⟨a3, a4⟩ := hR a ha
      obtain ⟨b3, b4⟩ := hR b hb
      rw [mv_bx hP hs a3 a4, mv_bx hP hs b3 b4]
      exact h
    · rw [List.mem_singleton.mp hy, enew]
      obtain ⟨s, hsR, rfl⟩ := List.mem_map.mp hx
      obtain ⟨a3, a4⟩ := hR s hsR
      rw [mv_bx hP hs a3 a4]
      exact mxv_lt (by omega)
theorem fmap_none {α β : Type} {f : α → Option β} : ∀ {l : List α}, (∀ x ∈ l, f x = none) → l.filterMap f = []
  | [], _ => rfl
  | x :: l, h => by rw [List.filterMap_cons_none (h x List.mem_cons_self), fmap_none fun y hy => h y (List.mem_cons_of_mem _ hy)]
theorem fmap_congr {α β : Type} {f g : α → Option β} : ∀ {l : List α}, (∀ x ∈ l, f x = g x) → l.filterMap f = l.filterMap g
  | [], _ => rfl
  | x :: l, h => by
    have e := h x List.mem_cons_self
    have ih := fmap_congr (l := l) fun y hy => h y (List.mem_cons_of_mem _ hy)
    cases q : g x with
    | none => rw [List.filterMap_cons_none (e.trans q), List.filterMap_cons_none q, ih]
    | some b => rw [List.filterMap_cons_some (e.trans q), List.filterMap_cons_some q, ih]
theorem br_mv {pl ss : List Int} (hP : Plant pl) {v s : Nat} (h0 : 0 < s) (hne : ¬ (s ∈ chn pl ss 0 ∧ cu pl s = v)) : br pl v (mv pl ss s) = br pl v s := by
  unfold mv
  by_cases h : s ∈ chn pl ss 0
  · rw [if_pos h, br_pos pl v h0, if_neg fun z => hne ⟨h, z⟩]
  · rw [if_neg h]
theorem dayL_out {pl ss : List Int} (hP : Plant pl) (hs : ss.length = pl.length + 1) (ho : Ord pl ss) {L : List Nat} (hL : IsOrd ss L) {v : Nat} (hv : v ∉ chn pl ss 0) : wd pl (dayL pl ss L) v = wd pl L v := by
  obtain ⟨R, rfl, hR⟩ := ord_head hs ho hL
  unfold wd dayL
  rw [List.tail_cons, List.filterMap_append, List.filterMap_map, List.filterMap_cons_none (br_zero pl v)]
  have e : [lst pl ss 0].filterMap (br pl v) = [] := fmap_none fun x hx => by
    rw [List.mem_singleton.mp hx]
    exact chn_out hP hv _ (lst_chn _ 0 rfl).1
  rw [e, List.append_nil]
  refine fmap_congr fun s hsR => ?_
  obtain ⟨a, b⟩ := hR s hsR
  refine br_mv hP a fun ⟨z, y⟩ => hv ?_
  rw [← y]
  exact (chn_cu hP z a).1
theorem dayL_in {pl ss : List Int} (hP : Plant pl) (hs : ss.length = pl.length + 1) (ho : Ord pl ss) {L : List Nat} (hL : IsOrd ss L) {v : Nat} (hv : v ∈ chn pl ss 0) (hg : gives pl ss v) :
    ∃ W, wd pl L v = bst pl ss v :: W ∧ wd pl (dayL pl ss L) v = W ++ [bst pl ss v] := by
  obtain ⟨R, rfl, hR⟩ := ord_head hs ho hL
  have hd : v < bst pl ss v ∧ bst pl ss v ≤ pl.length := hg
  have hcu := gives_cu hP hg
  have hbc := chn_down _ 0 rfl v hv hg
  have hmR : bst pl ss v ∈ R := by
    rcases List.mem_cons.mp ((hL.mem (bst pl ss v)).mpr (by omega)) with z | z
    · omega
    · exact z
  obtain ⟨A, B, rfl⟩ := List.append_of_mem hmR
  obtain ⟨_, a2⟩ := List.pairwise_cons.mp hL.inc
  obtain ⟨p1, p2, p3⟩ := List.pairwise_append.mp a2
  have hA : ∀ s ∈ A, br pl v s = none := fun s hsA => by
    cases e : br pl v s with
    | none => rfl
    | some t =>
      obtain ⟨s0, s1⟩ := hR s (List.mem_append_left _ hsA)
      obtain ⟨t0, t1, t2, _⟩ := br_some s e
      have h1 := br_ord ho s s1 e
      have h2 := (gives_of (ss := ss) hP t0 (by omega)).2
      rw [t2] at h2
      have h3 := p3 s hsA _ List.mem_cons_self
      omega
  have hu : br pl v (bst pl ss v) = some (bst pl ss v) := by
    rw [br_pos pl v (by omega), if_pos hcu]
  obtain ⟨q1, q2⟩ := List.pairwise_cons.mp p2
  refine ⟨B.filterMap (br pl v), ?_, ?_⟩
  · unfold wd
    rw [List.filterMap_cons_none (br_zero pl v), List.filterMap_append, fmap_none hA, List.filterMap_cons_some hu]
    rfl
  · unfold wd dayL
    rw [List.tail_cons, List.filterMap_append, List.filterMap_map, List.filterMap_append]
    have e1 : A.filterMap (br pl v ∘ mv pl ss) = [] := fmap_none fun s hsA => by
      obtain ⟨s0, s1⟩ := hR s (List.mem_append_left _ hsA)
      show br pl v (mv pl ss s) = none
      have hne : ¬ (s ∈ chn pl ss 0 ∧ cu pl s = v) := fun ⟨_, y⟩ => by
        have z2 := hA s hsA
        rw [br_pos pl v s0, if_pos y] at z2
        cases z2
      rw [br_mv hP s0 hne]
      exact hA s hsA
    have e2 : (br pl v ∘ mv pl ss) (bst pl ss v) = none := by
      show br pl v (mv pl ss (bst pl ss v)) = none
      unfold mv
      rw [if_pos hbc, hcu]
      cases e : br pl v v with
      | none => rfl
      | some t =>
        have := br_some v e
        omega
    have e3 : B.filterMap (br pl v ∘ mv pl ss) = B.filterMap (br pl v) := fmap_congr fun s hsB => by
      obtain ⟨s0, s1⟩ := hR s (List.mem_append_right _ (List.mem_cons_of_mem _ hsB))
      refine br_mv hP s0 fun ⟨z, y⟩ => ?_
      obtain ⟨_, _, c⟩ := chn_cu hP z s0
      rw [y] at c
      have := q1 s hsB
      rw [c] at this
      omega
    have e4 : [lst pl ss 0].filterMap (br pl v) = [bst pl ss v] := by
      rw [List.filterMap_cons_some (lst_br hP _ 0 rfl v hv hg)]
      rfl
    rw [e1, List.filterMap_cons_none e2, e3, e4]
    rfl

/-! ### the greatest station whose box is older than its customer's -/
def ldis (pl ss : List Int) : Nat → Nat
  | 0 => 0
  | m + 1 => if bx ss ((m + 1 : Nat) : Int) < bx ss ((cu pl (m + 1) : Nat) : Int) then m + 1 else ldis pl ss m
theorem ldis_ord {pl ss : List Int} (h : Ord pl ss) : ∀ m, m ≤ pl.length → ldis pl ss m = 0
  | 0, _ => rfl
  | m + 1, hm => by
    have := h (m + 1) (by omega) hm
    unfold ldis
    rw [if_neg (by omega)]
    exact ldis_ord h m (by omega)
theorem ord_ldis {pl ss : List Int} (hs : ss.length = pl.length + 1) (hn : ss.Nodup) : ∀ m, m ≤ pl.length → ldis pl ss m = 0 → ∀ k : Nat, 0 < k → k ≤ m → bx ss (cu pl k) < bx ss k
  | 0, _, _ => fun k a b => by omega
  | m + 1, hm, h => by
    unfold ldis at h
    intro k k0 k1
    by_cases c : bx ss ((m + 1 : Nat) : Int) < bx ss ((cu pl (m + 1) : Nat) : Int)
    · rw [if_pos c] at h
      omega
    · rw [if_neg c] at h
      by_cases e : k = m + 1
      · subst e
        have hc := cu_lt pl (k := m + 1) (by omega)
        have hne : bx ss ((cu pl (m + 1) : Nat) : Int) ≠ bx ss ((m + 1 : Nat) : Int) := fun z => by
          have := bx_inj hn (by omega) (by omega) z
          omega
        omega
      · exact ord_ldis hs hn m (by omega) h k k0 (by omega)
/-! ### a box's way up, letter by letter -/
theorem br_path {pl : List Int} {s : Nat} (h0 : 0 < s) : ∀ h, s ∈ path pl h → br pl (cu pl s) h = some s := by
  intro h
  induction h using Nat.strongRecOn with
  | ind h ih =>
    intro hs
    by_cases hz : 0 < h
    · rw [path_pos pl hz] at hs
      rw [br_pos pl _ hz]
      rcases List.mem_cons.mp hs with e | e
      · rw [e, if_pos rfl]
      · have c := cu_lt pl hz
        have c2 := cu_lt pl h0
        have l := path_le pl _ _ e
        rw [if_neg (by omega)]
        exact ih _ c e
    · have e : h = 0 := by omega
      rw [e, path_zero] at hs
      have := List.mem_singleton.mp hs
      omega
theorem path_br {pl : List Int} {v t : Nat} : ∀ h, br pl v h = some t → t ∈ path pl h := by
  intro h
  induction h using Nat.strongRecOn with
  | ind h ih =>
    intro e
    by_cases hz : 0 < h
    · rw [br_pos pl v hz] at e
      rw [path_pos pl hz]
      by_cases c : cu pl h = v
      · rw [if_pos c] at e
        cases e
        exact List.mem_cons_self
      · rw [if_neg c] at e
        exact List.mem_cons_of_mem _ (ih _ (cu_lt pl hz) e)
    · have z : h = 0 := by omega
      rw [z, br_zero] at e
      cases e
theorem path_up {pl : List Int} {s : Nat} : ∀ h, s ∈ path pl h → 0 < s → cu pl s ∈ path pl h := by
  intro h
  induction h using Nat.strongRecOn with
  | ind h ih =>
    intro hs h0
    have hz : 0 < h := by have := path_le pl h s hs; omega
    rw [path_pos pl hz] at hs ⊢
    rcases List.mem_cons.mp hs with e | e
    · rw [e]
      exact List.mem_cons_of_mem _ (List.mem_of_getElem? (path_head pl _))
    · exact List.mem_cons_of_mem _ (ih _ (cu_lt pl hz) e h0)
theorem path_gap {pl : List Int} {s t : Nat} : ∀ h, s ∈ path pl h → t ∈ path pl h → cu pl s < t → t ≤ s → t = s := by
  intro h
  induction h using Nat.strongRecOn with
  | ind h ih =>
    intro hs ht h1 h2
    by_cases hz : 0 < h
    · rw [path_pos pl hz] at hs ht
      rcases List.mem_cons.mp hs with e | e <;> rcases List.mem_cons.mp ht with y | y
      · rw [e, y]
      · have := path_le pl _ _ y
        rw [e] at h1
        omega
      · have := path_le pl _ _ e
        have := cu_lt pl hz
        omega
      · exact ih _ (cu_lt pl hz) e y h1 h2
    · have z : h = 0 := by omega
      rw [z, path_zero] at hs ht
      rw [List.mem_singleton.mp hs, List.mem_singleton.mp ht]
/-- what v has got of the box at h when its way up has come to s -/
def upto (pl : List Int) (h s v : Nat) : List Nat := match br pl v h with
  | some t => if s < t then [t] else []
  | none => []
theorem upto_start (pl : List Int) (h v : Nat) : upto pl h h v = [] := by
  unfold upto
  cases e : br pl v h with
  | none => rfl
  | some t =>
    have := br_some h e
    exact if_neg (by omega)
theorem upto_end (pl : List Int) (h v : Nat) : upto pl h 0 v = (br pl v h).toList := by
  unfold upto
  cases e : br pl v h with
  | none => rfl
  | some t =>
    have := br_some h e
    exact if_pos (by omega)
theorem upto_step {pl : List Int} {h s v : Nat} (h0 : 0 < s) (hs : s ∈ path pl h) : upto pl h (cu pl s) v = if v = cu pl s then upto pl h s v ++ [s] else upto pl h s v := by
  have hc := cu_lt pl h0
  unfold upto
  by_cases c : v = cu pl s
  · subst c
    rw [br_path h0 h hs, if_pos rfl]
    show (if cu pl s < s then [s] else []) = (if s < s then [s] else []) ++ [s]
    rw [if_pos hc, if_neg (Nat.lt_irrefl _)]
    rfl
  · rw [if_neg c]
    cases e : br pl v h with
    | none => rfl
    | some t =>
      have ht := path_br h e
      obtain ⟨t0, t1, t2, t3⟩ := br_some h e
      show (if cu pl s < t then [t] else []) = if s < t then [t] else []
      by_cases y : s < t
      · rw [if_pos y, if_pos (by omega)]
      · rw [if_neg y]
        by_cases z : cu pl s < t
        · have := path_gap h hs ht z (by omega)
          rw [this] at t2
          exact absurd t2.symm c
        · rw [if_neg z]
theorem wd_take {pl : List Int} {L : List Nat} {i h : Nat} (v : Nat) (e : L[i]? = some h) : wd pl (L.take (i + 1)) v = wd pl (L.take i) v ++ upto pl h 0 v := by
  unfold wd
  rw [List.take_add_one, e, List.filterMap_append, upto_end]
  congr 1
theorem wd_len (pl : List Int) (L : List Nat) (v : Nat) : (wd pl L v).length ≤ L.length := List.length_filterMap_le ..
def natI (ws : List Nat) : List Int := ws.map fun k : Nat => (k : Int)
theorem natI_app (a b : List Nat) : natI (a ++ b) = natI a ++ natI b := List.map_append
theorem natI_len (a : List Nat) : (natI a).length = a.length := List.length_map ..
theorem natI_count (u : Nat) : ∀ ws : List Nat, (natI ws).count (u : Int) = ws.count u
  | [] => rfl
  | w :: ws => by
    have ih := natI_count u ws
    show ((w : Int) :: natI ws).count (u : Int) = _
    rw [List.count_cons, List.count_cons, ih]
    congr 1
    by_cases c : w = u
    · subst c
      simp
    · have c2 : ¬ (w : Int) = (u : Int) := by omega
      simp [c, c2]
end PT

set_option maxHeartbeats 4000000
/-! letters found by the ways up; stations sorted by their boxes -/
namespace PT
open PySem PySem.Spec PyProof.Rows L2
/-- the pairs of box and station, the stations below i -/
def allP (ss : List Int) (i : Nat) : List (Int × Int) := (List.range i).map fun k : Nat => (bx ss k, (k : Int))
theorem allP_len (ss : List Int) (i : Nat) : (allP ss i).length = i := by
  unfold allP
  rw [List.length_map, List.length_range]
theorem allP_at (ss : List Int) {i k : Nat} (h : k < i) : (allP ss i)[k]? = some (bx ss k, (k : Int)) := by
  unfold allP
  rw [List.getElem?_map, List.getElem?_range h]
  rfl
def pairOf (G : Hp) : V → Int × Int
  | .ref t => match G t with
    | some (.tup [.int a, .int b]) => (a, b)
    | _ => (0, 0)
  | _ => (0, 0)
theorem pairOf_at {G : Hp} {t : Addr} {a b : Int} (h : G t = some (.tup [.int a, .int b])) : pairOf G (.ref t) = (a, b) := by
  simp only [pairOf, h]
theorem PairsAt.mem {G : Hp} {ss : List Int} {as : List Addr} {D : Addr} {n : Nat} (h : PairsAt G D as (allP ss n)) {y : V} (hy : y ∈ as.map V.ref) : ∃ t o, y = .ref t ∧ o < n ∧ G t = some (.tup [.int (bx ss (o : Nat)), .int (o : Nat)]) := by
  obtain ⟨a, ha, rfl⟩ := List.mem_map.mp hy
  obtain ⟨i, hi⟩ := List.mem_iff_getElem?.mp ha
  have hl := h.len
  rw [allP_len] at hl
  have hin := (List.getElem?_eq_some_iff.mp hi).1
  have ho : i < n := by omega
  exact ⟨a, i, rfl, ho, h.at_ i a _ hi (allP_at ss ho)⟩
theorem PairsAt.map {G : Hp} {ss : List Int} {as : List Addr} {D : Addr} {n : Nat} (h : PairsAt G D as (allP ss n)) : (as.map V.ref).map (fun y => (pairOf G y).2.toNat) = List.range n := by
  have hl := h.len
  rw [allP_len] at hl
  apply List.ext_getElem?
  intro i
  rw [List.getElem?_map, List.getElem?_map]
  by_cases hi : i < n
  · have ea : as[i]? = some (as[i]'(by omega)) := List.getElem?_eq_getElem _
    rw [ea, List.getElem?_range hi]
    show some ((pairOf G (.ref _)).2.toNat) = _
    rw [pairOf_at (h.at_ i _ _ ea (allP_at ss hi))]
    rfl
  · rw [List.getElem?_eq_none (by omega), List.getElem?_eq_none (by rw [List.length_range]; omega)]
    rfl
end PT

set_option maxHeartbeats 4000000
/-! rows of letters that stand in the heap, some of them made a moment ago -/
namespace PT
open PySem PySem.Spec PyProof.Rows L2 LamX NdefX
/-- nothing but a table of code objects can have been there -/
def NewN (H : Hp) (a : Addr) : Prop := ∀ o, H a = some o → ∃ ps, o = .tbl ps
theorem newN_of {H : Hp} {a : Addr} (n : H a = none) : NewN H a := fun o e => by
  rw [n] at e
  cases e
theorem NewN.back {H H' : Hp} {a : Addr} (n : NewN H' a) (x : ExtN H H') : NewN H a := fun o e => by
  cases o with
  | tbl ps => exact ⟨ps, rfl⟩
  | _ => exact n _ (x _ _ e fun ps z => by cases z)
theorem NewN.lst {H : Hp} {a c : Addr} {xs : List V} (n : NewN H a) (e : H c = some (.lst xs)) : a ≠ c := fun z => by
  obtain ⟨ps, q⟩ := n _ (z ▸ e)
  cases q
theorem NewN.tup {H : Hp} {a c : Addr} {xs : List V} (n : NewN H a) (e : H c = some (.tup xs)) : a ≠ c := fun z => by
  obtain ⟨ps, q⟩ := n _ (z ▸ e)
  cases q
/-- nothing has changed but the source and the tables of code objects -/
def BarN (b : Addr) (H H' : Hp) : Prop := ∀ c o, c ≠ b → H c = some o → (∀ ps, o ≠ .tbl ps) → H' c = some o
theorem BarN.refl (b : Addr) (H : Hp) : BarN b H H := fun _ _ _ h _ => h
theorem BarN.trans {b : Addr} {H H1 H2 : Hp} (u : BarN b H H1) (v : BarN b H1 H2) : BarN b H H2 := fun c o n h z => v c o n (u c o n h z) z
theorem Bar.barN {b : Addr} {H H1 : Hp} (u : Bar b H H1) : BarN b H H1 := fun c o n h _ => u c o n h
theorem Same.barN {b : Addr} {H H1 : Hp} (u : Same H H1) : BarN b H H1 := fun c o _ h _ => u c o h
theorem BarN.lst {b : Addr} {H H1 : Hp} (u : BarN b H H1) {a : Addr} {xs : List V} (n : a ≠ b) (h : H a = some (.lst xs)) : H1 a = some (.lst xs) := u _ _ n h fun _ z => by cases z
theorem BarN.tup {b : Addr} {H H1 : Hp} (u : BarN b H H1) {a : Addr} {xs : List V} (n : a ≠ b) (h : H a = some (.tup xs)) : H1 a = some (.tup xs) := u _ _ n h fun _ z => by cases z
theorem BarN.extN {b : Addr} {H H1 : Hp} (u : BarN b H H1) (n : NewN H b) : ExtN H H1 := fun c o h z => u c o (fun e => by
  obtain ⟨ps, q⟩ := n o (e ▸ h)
  exact z ps q) h z
theorem BarN.extN' {b : Addr} {H G G2 : Hp} (u : BarN b G G2) (nb : H b = none) (x : ExtN H G) : ExtN H G2 := fun c o h z => u c o (ne_of_none h nb) (x c o h z) z
structure RowsN (G : Hp) (l : Addr) (as : List Addr) (n : Nat) (f : Nat → List Nat) : Prop where
  hl : G l = some (.lst (as.map V.ref))
  len : as.length = n
  out : l ∉ as
  nd : as.Nodup
  at_ : ∀ (j : Nat) (a : Addr), as[j]? = some a → G a = some (.lst ((natI (f j)).map V.int))
theorem RowsN.ext {G G' : Hp} {l : Addr} {as : List Addr} {n : Nat} {f : Nat → List Nat} (R : RowsN G l as n f) (e : ExtN G G') : RowsN G' l as n f :=
  ⟨extN_lst e R.hl, R.len, R.out, R.nd, fun j a h => extN_lst e (R.at_ j a h)⟩
theorem RowsN.same {G G' : Hp} {l : Addr} {as : List Addr} {n : Nat} {f : Nat → List Nat} (R : RowsN G l as n f) (e : Same G G') : RowsN G' l as n f := R.ext (same_extN e)
theorem RowsN.congr {G : Hp} {l : Addr} {as : List Addr} {n : Nat} {f g : Nat → List Nat} (R : RowsN G l as n f) (e : ∀ k, k < n → f k = g k) : RowsN G l as n g :=
  ⟨R.hl, R.len, R.out, R.nd, fun j a h => by
    have := (List.getElem?_eq_some_iff.mp h).1
    rw [← e j (by rw [← R.len]; exact this)]
    exact R.at_ j a h⟩
theorem RowsN.mem {G : Hp} {l : Addr} {as : List Addr} {n : Nat} {f : Nat → List Nat} (R : RowsN G l as n f) {a : Addr} (h : a ∈ as) : ∃ xs, G a = some (.lst xs) := by
  obtain ⟨i, hi⟩ := List.mem_iff_getElem?.mp h
  exact ⟨_, R.at_ i a hi⟩
theorem RowsN.get {G : Hp} {l : Addr} {as : List Addr} {n : Nat} {f : Nat → List Nat} (R : RowsN G l as n f) {i : Nat} (h : i < n) : ∃ a, as[i]? = some a ∧ G a = some (.lst ((natI (f i)).map V.int)) :=
  ⟨_, List.getElem?_eq_getElem (by rw [R.len]; exact h), R.at_ i _ (List.getElem?_eq_getElem (by rw [R.len]; exact h))⟩
theorem RowsN.app {G : Hp} {l : Addr} {as : List Addr} {n c u : Nat} {f : Nat → List Nat} {a : Addr} (R : RowsN G l as n f) (e : as[c]? = some a) :
    RowsN (upd G a (.lst ((natI (f c)).map V.int ++ [.int (u : Int)]))) l as n fun k => if k = c then f c ++ [u] else f k := by
  have hin := List.mem_of_getElem? e
  refine ⟨?_, R.len, R.out, R.nd, fun k b hb => ?_⟩
  · rw [upd_ne (show l ≠ a from fun z => R.out (z ▸ hin))]
    exact R.hl
  · by_cases h : k = c
    · subst h
      have eb : a = b := Option.some.inj (e.symm.trans hb)
      rw [if_pos rfl, ← eb, upd_same, natI_app, List.map_append]
      rfl
    · have ne : b ≠ a := fun z => h (by
        obtain ⟨hk, ek⟩ := List.getElem?_eq_some_iff.mp hb
        obtain ⟨hc, ec⟩ := List.getElem?_eq_some_iff.mp e
        exact (List.getElem_inj R.nd).mp (ek.trans (z.trans ec.symm)))
      rw [if_neg h, upd_ne ne]
      exact R.at_ k b hb
/-- a row is written anew -/
theorem RowsN.put {G : Hp} {l : Addr} {as : List Addr} {n c : Nat} {f : Nat → List Nat} {a : Addr} (R : RowsN G l as n f) (e : as[c]? = some a) (w : List Nat) :
    RowsN (upd G a (.lst ((natI w).map V.int))) l as n fun k => if k = c then w else f k := by
  have hin := List.mem_of_getElem? e
  refine ⟨?_, R.len, R.out, R.nd, fun k b hb => ?_⟩
  · rw [upd_ne (show l ≠ a from fun z => R.out (z ▸ hin))]
    exact R.hl
  · by_cases h : k = c
    · subst h
      have eb : a = b := Option.some.inj (e.symm.trans hb)
      rw [if_pos rfl, ← eb, upd_same]
    · have ne : b ≠ a := fun z => h (by
        obtain ⟨hk, ek⟩ := List.getElem?_eq_some_iff.mp hb
        obtain ⟨hc, ec⟩ := List.getElem?_eq_some_iff.mp e
        exact (List.getElem_inj R.nd).mp (ek.trans (z.trans ec.symm)))
      rw [if_neg h, upd_ne ne]
      exact R.at_ k b hb
theorem RowsN.other {G : Hp} {l a : Addr} {as : List Addr} {n : Nat} {f : Nat → List Nat} {o : HO} (R : RowsN G l as n f) (h1 : a ∉ as) (h2 : a ≠ l) : RowsN (upd G a o) l as n f :=
  ⟨by rw [upd_ne (Ne.symm h2)]; exact R.hl, R.len, R.out, R.nd, fun j b hb => by
    rw [upd_ne (show b ≠ a from fun z => h1 (z ▸ List.mem_of_getElem? hb))]
    exact R.at_ j b hb⟩
theorem RowsN.start {H : Hp} {D : Addr} {f : Nat → List Nat} : RowsN (upd H D (.lst [])) D [] 0 f := ⟨upd_same, rfl, by simp, List.nodup_nil, fun j a e => by cases e⟩
/-- one more row, a new one, at the end -/
theorem RowsN.snoc {G G' : Hp} {D a : Addr} {as : List Addr} {i : Nat} {f : Nat → List Nat} (R : RowsN G D as i f) (x : ExtN G G') (n : NewN G a) (e : G' a = some (.lst ((natI (f i)).map V.int))) :
    RowsN (upd G' D (.lst (as.map V.ref ++ [.ref a]))) D (as ++ [a]) (i + 1) f := by
  have aD : a ≠ D := n.lst R.hl
  have R2 := R.ext x
  refine ⟨by rw [upd_same, List.map_append]; rfl, by rw [List.length_append, R.len]; rfl, fun h => ?_, ?_, fun j b hb => ?_⟩
  · rcases List.mem_append.mp h with z | z
    · exact R.out z
    · exact aD (List.mem_singleton.mp z).symm
  · refine List.nodup_append.mpr ⟨R.nd, by simp, fun b hb c hc => ?_⟩
    rw [List.mem_singleton.mp hc]
    obtain ⟨xs, z⟩ := R.mem hb
    exact Ne.symm (n.lst z)
  · by_cases hj : j < as.length
    · rw [List.getElem?_append_left hj] at hb
      rw [upd_ne (show b ≠ D from fun z => R.out (z ▸ List.mem_of_getElem? hb))]
      exact R2.at_ j b hb
    · have hj2 : j = as.length := by
        have z := (List.getElem?_eq_some_iff.mp hb).1
        rw [List.length_append] at z
        have z2 : j < as.length + 1 := z
        omega
      subst hj2
      rw [List.getElem?_append_right (Nat.le_refl _), Nat.sub_self] at hb
      cases hb
      rw [upd_ne aD, R.len]
      exact e
theorem RowsN.barN {G G' : Hp} {b l : Addr} {as : List Addr} {n : Nat} {f : Nat → List Nat} (R : RowsN G l as n f) (e : BarN b G G') (h1 : l ≠ b) (h2 : b ∉ as) : RowsN G' l as n f :=
  ⟨e.lst h1 R.hl, R.len, R.out, R.nd, fun j a h => e.lst (fun z => h2 (z ▸ List.mem_of_getElem? h)) (R.at_ j a h)⟩
/-- one more row behind what has written to b alone -/
theorem RowsN.snocB {G G' : Hp} {b D a : Addr} {as : List Addr} {i : Nat} {f : Nat → List Nat} (R : RowsN G D as i f) (x : BarN b G G') (h1 : D ≠ b) (h2 : b ∉ as) (n : NewN G a) (e : G' a = some (.lst ((natI (f i)).map V.int))) :
    RowsN (upd G' D (.lst (as.map V.ref ++ [.ref a]))) D (as ++ [a]) (i + 1) f := by
  have R2 := R.barN x h1 h2
  have aD : a ≠ D := n.lst R.hl
  refine ⟨by rw [upd_same, List.map_append]; rfl, by rw [List.length_append, R.len]; rfl, fun h => ?_, ?_, fun j c hc => ?_⟩
  · rcases List.mem_append.mp h with z | z
    · exact R.out z
    · exact aD (List.mem_singleton.mp z).symm
  · refine List.nodup_append.mpr ⟨R.nd, by simp, fun c hc d hd => ?_⟩
    rw [List.mem_singleton.mp hd]
    obtain ⟨xs, z⟩ := R.mem hc
    exact Ne.symm (n.lst z)
  · by_cases hj : j < as.length
    · rw [List.getElem?_append_left hj] at hc
      rw [upd_ne (show c ≠ D from fun z => R.out (z ▸ List.mem_of_getElem? hc))]
      exact R2.at_ j c hc
    · have hj2 : j = as.length := by
        have z := (List.getElem?_eq_some_iff.mp hc).1
        rw [List.length_append] at z
        have z2 : j < as.length + 1 := z
        omega
      subst hj2
      rw [List.getElem?_append_right (Nat.le_refl _), Nat.sub_self] at hc
      cases hc
      rw [upd_ne aD, R.len]
      exact e
/-! ### such rows as data -/
def rowD (r : List Nat) : PyData := .list ((natI r).map PyData.int)
def rowsD (n : Nat) (f : Nat → List Nat) : PyData := .list ((List.range n).map fun k => rowD (f k))
theorem dpAll_rows {K : PySem.W.Frag} {G : Hp} : ∀ (as : List Addr) (g : Nat → List Nat), (∀ (j : Nat) (a : Addr), as[j]? = some a → G a = some (.lst ((natI (g j)).map V.int))) → DpAll K G (as.map V.ref) ((List.range as.length).map fun k => rowD (g k))
  | [], _, _ => .nil
  | a :: as, g, h => by
    rw [List.length_cons, List.range_succ_eq_map, List.map_cons, List.map_cons, List.map_map]
    refine .cons (.lst (.inl (.inl (h 0 a rfl))) (dp_ints _)) ?_
    exact dpAll_rows as (fun k => g (k + 1)) fun j b e => h (j + 1) b (by simpa using e)
theorem RowsN.dp {K : PySem.W.Frag} {G : Hp} {l : Addr} {as : List Addr} {n : Nat} {f : Nat → List Nat} (R : RowsN G l as n f) : Dp K G (.ref l) (rowsD n f) := by
  have z := dpAll_rows (K := K) as f R.at_
  rw [R.len] at z
  exact .lst (.inl (.inl R.hl)) z
end PT

set_option maxHeartbeats 4000000
/-! t.index(n) of a tuple of ints -/
namespace PT
open PySem PySem.Spec PyProof.Rows L2
end PT

set_option maxHeartbeats 4000000
/-! tuples that are known to have no dict of their own: methods of them -/
namespace PT
open PySem PySem.Spec PyProof.Rows L2
/-- a tuple that is known to the object -/
def TupF (H : Hp) (a : Addr) (xs : List V) : Prop := ∃ o : Obj, H a = some (.frz o (.tup xs)) ∧ o.cls = .type "tuple" ∧ o.dict = none
theorem TupF.same {H H' : Hp} (e : Same H H') {a : Addr} {xs : List V} (h : TupF H a xs) : TupF H' a xs := let ⟨o, q, r⟩ := h; ⟨o, e _ _ q, r⟩
theorem TupF.seq {K : PySem.W.Frag} {H : Hp} {a : Addr} {xs : List V} (h : TupF H a xs) : SqT K H a xs := let ⟨o, q, _⟩ := h; .inl (.inr ⟨o, q⟩)
theorem TupF.kept {H H' : Hp} {a : Addr} {xs : List V} (h : TupF H a xs) (e : ∀ o, H a = some o → H' a = some o) : TupF H' a xs := let ⟨o, q, r⟩ := h; ⟨o, e _ q, r⟩
theorem TupF.tyx {K : PySem.W.Frag} {H : Hp} {a : Addr} {xs : List V} (h : TupF H a xs) : TyX K H (.ref a) (.type "tuple") := let ⟨_, q, _⟩ := h; .fTuple q
section
variable {X : Cx}
/-- what a method call of such a tuple asks: the tuple, then the method's own rule -/
def tBMF (r : V → List V → Hp → VK → Prop) (to : TE) (t : TA) : TE := fun σ H Q =>
  to σ H fun x H1 => (∃ a ys, x = .ref a ∧ TupF H1 a ys) ∧ t σ H1 fun vs H2 => r x vs H2 Q
end
end PT

set_option maxHeartbeats 4000000
/-! a stock that stands in the heap: a tuple, known to its object or not -/
namespace PT
open PySem PySem.Spec PyProof.Rows L2 LamX NdefX
def StkAt (H : Hp) (q : Addr) (ss : List Int) : Prop := H q = some (.tup (ss.map V.int)) ∨ ∃ o : Obj, H q = some (.frz o (.tup (ss.map V.int)))
theorem StkAt.seq {K : PySem.W.Frag} {H : Hp} {q : Addr} {ss : List Int} (h : StkAt H q ss) : SqT K H q (ss.map V.int) := by
  rcases h with h | ⟨o, h⟩
  · exact .inl (.inl h)
  · exact .inl (.inr ⟨o, h⟩)
theorem StkAt.tyx {K : PySem.W.Frag} {H : Hp} {q : Addr} {ss : List Int} (h : StkAt H q ss) : TyX K H (.ref q) (.type "tuple") := by
  rcases h with h | ⟨o, h⟩
  · exact .base (.tup h)
  · exact .fTuple h
theorem StkAt.same {H H' : Hp} {q : Addr} {ss : List Int} (e : Same H H') (h : StkAt H q ss) : StkAt H' q ss := by
  rcases h with h | ⟨o, h⟩
  · exact .inl (e _ _ h)
  · exact .inr ⟨o, e _ _ h⟩
theorem StkAt.ext {H H' : Hp} {q : Addr} {ss : List Int} (e : ExtN H H') (h : StkAt H q ss) : StkAt H' q ss := by
  rcases h with h | ⟨o, h⟩
  · exact .inl (e _ _ h fun ps z => by cases z)
  · exact .inr ⟨o, e _ _ h fun ps z => by cases z⟩
theorem StkAt.bar {H H' : Hp} {b q : Addr} {ss : List Int} (e : BarN b H H') (n : q ≠ b) (h : StkAt H q ss) : StkAt H' q ss := by
  rcases h with h | ⟨o, h⟩
  · exact .inl (e _ _ n h fun ps z => by cases z)
  · exact .inr ⟨o, e _ _ n h fun ps z => by cases z⟩
theorem StkAt.ne {H : Hp} {b q : Addr} {ss : List Int} {xs : List V} (h : StkAt H q ss) (e : H b = some (.lst xs)) : q ≠ b := by
  rcases h with h | ⟨o, h⟩
  · exact ne_of h e (by intro z; cases z)
  · exact ne_of h e (by intro z; cases z)
theorem kit_tupT {K : PySem.W.Frag} : PySem.W.kitOne K (.type "tuple") (.type "tuple") = some true := kit_ty (show kitB "tuple" "tuple" = some true by decide +kernel)
end PT

set_option maxHeartbeats 4000000
/-! data of any depth in the heap, empty dicts among them -/
namespace PT
open PySem PySem.Spec PyProof.Rows L2 LamX NdefX
mutual
/-- v stands for d -/
inductive DD (H : Hp) : V → PyData → Prop
  | non : DD H .non .none
  | bl (b : Bool) : DD H (.bl b) (.bool b)
  | int (i : Int) : DD H (.int i) (.int i)
  | str (x : Str) : DD H (.str x) (.str x)
  | dic {a : Addr} : H a = some (.dK []) → DD H (.ref a) (.dict [])
  | lst {a : Addr} {xs : List V} {ds : List PyData} : H a = some (.lst xs) → DDs H xs ds → DD H (.ref a) (.list ds)
  | tup {a : Addr} {xs : List V} {ds : List PyData} : H a = some (.tup xs) → DDs H xs ds → DD H (.ref a) (.tuple ds)
  | frz {a : Addr} {o : Obj} {xs : List V} {ds : List PyData} : H a = some (.frz o (.tup xs)) → DDs H xs ds → DD H (.ref a) (.tuple ds)
inductive DDs (H : Hp) : List V → List PyData → Prop
  | nil : DDs H [] []
  | cons {v : V} {d : PyData} {vs : List V} {ds : List PyData} : DD H v d → DDs H vs ds → DDs H (v :: vs) (d :: ds)
end
mutual
theorem DD.ext {H H' : Hp} (e : ExtN H H') : ∀ (d : PyData) (v : V), DD H v d → DD H' v d
  | .none, _, h => by cases h; exact .non
  | .bool b, _, h => by cases h; exact .bl b
  | .int i, _, h => by cases h; exact .int i
  | .str x, _, h => by cases h; exact .str x
  | .list ds, _, h => by
    cases h with
    | lst a b => exact .lst (extN_lst e a) (DDs.ext e ds _ b)
  | .tuple ds, _, h => by
    cases h with
    | tup a b => exact .tup (e _ _ a fun _ z => by cases z) (DDs.ext e ds _ b)
    | frz a b => exact .frz (e _ _ a fun _ z => by cases z) (DDs.ext e ds _ b)
  | .dict _, _, h => by
    cases h with
    | dic a => exact .dic (e _ _ a fun _ z => by cases z)
theorem DDs.ext {H H' : Hp} (e : ExtN H H') : ∀ (ds : List PyData) (vs : List V), DDs H vs ds → DDs H' vs ds
  | [], _, h => by cases h; exact .nil
  | d :: ds, _, h => by
    cases h with
    | cons a b => exact .cons (DD.ext e d _ a) (DDs.ext e ds _ b)
end
theorem DDs.len {H : Hp} : ∀ {xs : List V} {ds : List PyData}, DDs H xs ds → xs.length = ds.length
  | _, _, .nil => rfl
  | _, _, .cons _ b => by rw [List.length_cons, List.length_cons, b.len]
theorem DDs.app {H : Hp} : ∀ {xs ys : List V} {ds es : List PyData}, DDs H xs ds → DDs H ys es → DDs H (xs ++ ys) (ds ++ es)
  | _, _, _, _, .nil, k => k
  | _, _, _, _, .cons a b, k => .cons a (b.app k)
theorem DDs.take {H : Hp} : ∀ {xs : List V} {ds : List PyData} (n : Nat), DDs H xs ds → DDs H (xs.take n) (ds.take n)
  | _, _, 0, _ => .nil
  | _, _, n + 1, .nil => .nil
  | _, _, n + 1, .cons a b => .cons a (b.take n)
theorem DDs.drop {H : Hp} : ∀ {xs : List V} {ds : List PyData} (n : Nat), DDs H xs ds → DDs H (xs.drop n) (ds.drop n)
  | _, _, 0, h => h
  | _, _, n + 1, .nil => .nil
  | _, _, n + 1, .cons a b => b.drop n
theorem DDs.ints {H : Hp} : ∀ ns : List Int, DDs H (ns.map V.int) (ns.map PyData.int)
  | [] => .nil
  | n :: r => .cons (.int n) (DDs.ints r)
theorem DDs.mem {H : Hp} : ∀ {xs : List V} {ds : List PyData}, DDs H xs ds → ∀ x ∈ xs, ∃ d ∈ ds, DD H x d
  | _, _, .cons a b, x, h => by
    rcases List.mem_cons.mp h with rfl | h
    · exact ⟨_, List.mem_cons_self, a⟩
    · obtain ⟨d, hd, z⟩ := b.mem x h
      exact ⟨d, List.mem_cons_of_mem _ hd, z⟩
/-- its kind, where it is no locked tuple -/
theorem DD.tyx {K : PySem.W.Frag} {H : Hp} {v : V} {d : PyData} (h : DD H v d) : ∃ t, TyX K H v (.type t) := by
  cases h with
  | non => exact ⟨_, Kd.tyx .non⟩
  | bl b => exact ⟨_, Kd.tyx (.bl b)⟩
  | int i => exact ⟨_, Kd.tyx (.int i)⟩
  | str x => exact ⟨_, Kd.tyx (.str x)⟩
  | dic a => exact ⟨_, Kd.tyx (.dic a)⟩
  | lst a b => exact ⟨_, Kd.tyx (.lst a)⟩
  | tup a b => exact ⟨_, Kd.tyx (.tup a)⟩
  | frz a b => exact ⟨_, .fTuple a⟩
section
variable {X : Cx} {pins : List (Addr × Obj)} {σ : List (Option V)} {H : Hp} {st : Shared}
/-- the table of modules stands in the base: no tracked object is it -/
theorem not_sys (k : ∃ mm, X.base.Ns sysModules mm) (I : Inv X pins σ H st) {a : Addr} {o : HO} (h : H a = some o) : sysModules ≠ a := fun z => by
  obtain ⟨mm, u, es, ep, e, _⟩ := k
  have := (I.bs _ _ e).2
  rw [z, h] at this
  cases this
mutual
theorem DD.reads (k : ∃ mm, X.base.Ns sysModules mm) (I : Inv X pins σ H st) : ∀ (d : PyData) (v : V) (u : Value), DD H v d → RelV v u → ∃ as, Reads st.heap u d as ∧ sysModules ∉ as
  | .none, _, _, h, r => by cases h; cases r; exact ⟨_, .none, by simp⟩
  | .bool b, _, _, h, r => by cases h; cases r; exact ⟨_, .bool b, by simp⟩
  | .int i, _, _, h, r => by cases h; obtain ⟨t, rfl⟩ := r; exact ⟨_, .int i t, by simp⟩
  | .str x, _, _, h, r => by cases h; obtain ⟨t, rfl⟩ := r; exact ⟨_, .str x t, by simp⟩
  | .list ds, _, _, h, r => by
    cases h with
    | lst a b =>
      cases r
      obtain ⟨_, its, n, rv, ho⟩ := (show ObjOk X.prog X.w H st.heap _ (.lst _) from I.hok _ _ a)
      obtain ⟨as, z, ne⟩ := DDs.reads k I ds _ _ b rv
      exact ⟨_, .list ho rfl rfl z, by simp [ne, not_sys k I a]⟩
  | .tuple ds, _, _, h, r => by
    cases h with
    | tup a b =>
      cases r
      obtain ⟨its, rv, ⟨o, ho, hc, n, hd⟩, _⟩ := I.tuple (.inl (.inl a))
      obtain ⟨as, z, ne⟩ := DDs.reads k I ds _ _ b rv
      exact ⟨_, .tuple ho hc hd z, ne⟩
    | frz a b =>
      cases r
      obtain ⟨its, rv, ⟨o, ho, hc, n, hd⟩, _⟩ := I.tuple (.inl (.inr ⟨_, a⟩))
      obtain ⟨as, z, ne⟩ := DDs.reads k I ds _ _ b rv
      exact ⟨_, .tuple ho hc hd z, ne⟩
  | .dict _, _, _, h, r => by
    cases h with
    | dic q =>
      cases r
      obtain ⟨z, ne⟩ := dic_reads I q
      exact ⟨_, z, by simp [ne]⟩
theorem DDs.reads (k : ∃ mm, X.base.Ns sysModules mm) (I : Inv X pins σ H st) : ∀ (ds : List PyData) (vs : List V) (us : List Value), DDs H vs ds → Vals vs us → ∃ as, ReadsAll st.heap us ds as ∧ sysModules ∉ as
  | [], _, _, h, r => by cases h; cases r; exact ⟨_, .nil, by simp⟩
  | d :: ds, _, _, h, r => by
    cases h with
    | cons a b =>
      cases r with
      | cons r t =>
        obtain ⟨as, h1, n1⟩ := DD.reads k I d _ _ a r
        obtain ⟨bs, h2, n2⟩ := DDs.reads k I ds _ _ b t
        exact ⟨_, .cons h1 h2, by simp [n1, n2]⟩
end
/-- repr(v) of such data -/
def rReprDD : List V → Hp → VK → Prop := fun xs H Q => ∃ v d W, xs = [v] ∧ DD H v d ∧ Nice W 50 d ∧ W ≤ 270000 ∧ Q (.str d.shown) H
end
end PT

set_option maxHeartbeats 4000000
/-! a list comprehension where an exception is handled -/
namespace PT
open PySem PySem.Spec PyProof.Rows L2 L2H HotX

/-- the block's context; what the def has pinned stays pinned -/
abbrev blkH (X : Cx) (s : Shared) (H : Hp) (scope : Scope) (ce : Env) (fp : List Addr) : Cx := { X.blk s H scope ce fp with pn := X.pn }
section
variable {X : Cx} {pins : List (Addr × Obj)} {σ : L2.St} {H : Hp} {s : Shared}
end
end PT

set_option maxHeartbeats 2000000
/-! len(set(t)), t a tuple of any ints -/
namespace PT
open PySem PySem.Spec PyProof.Rows L2
section
variable {X : Cx}
def tLenSetG (K : PySem.W.Frag) (ta : TE) : TE := fun σ H Q => ta σ H fun x H1 => ∃ (l : Addr) (ns : List Int), x = .ref l ∧ SqT K H1 l (ns.map V.int) ∧ ns.length ≤ 1000 ∧ ∀ c : Nat, (c = ns.length ↔ ns.Nodup) → Q (.int (c : Nat)) H1
end
end PT

set_option maxHeartbeats 4000000
/-! defs that raise (the context of what they raise is none); what a class of errors is -/
namespace PT
open PySem PySem.Spec PyProof.Rows L2 L2H HotX
section
variable {Pg : Program} {wo : World} {K : PySem.W.Frag} {mg : Str → Option Value} {bs : Heap} {at_ : Addr} {fn : FuncData} {ps : List Str} {sp sp' : Sp}
theorem Fun.okN {name qual : Str} {st : Stmt} {N : List Str} {lv : Nat} (F : Fun K name qual st at_ fn) (S : FnScope N ps (defScope st)) (ln : ∀ vs H Q E, sp vs H Q E → vs.length = ps.length)
    (rd : ∀ (cdv : Value) (A : Around) (out : List Env) (s : Shared) (H : Hp) (vs : List V) (Q : VK) (E : XK), Room lv (A.deeper (envOfC qual (defScope st) s.heap.objs.size at_ cdv)) → sp vs H Q E →
      ∃ t, PSs (cxOf (L2N.CX Pg wo) Pg wo K mg bs N qual (defScope st) at_ cdv A out s H E) (defBody st) t ∧ t ⟨fun _ H2 => Q .non H2, Q, fun _ _ => False, fun _ _ => False⟩ (start N vs) H) :
    FnOk Pg wo K mg bs (L2N.CX Pg wo) (lv + 1) at_ fn ps sp := by
  obtain ⟨_, _, _, _, _, _, cdv, _, _, e, lk, cd⟩ := F.ex
  subst e
  exact fn_of lk cd S ln fun A out s H vs Q E room hs => rd cdv A out s H vs Q E room hs
/-- what lets nothing out lets nothing else out -/
theorem FnOk.quiet {CX : CXT} {lv : Nat} (F : FnOk Pg wo K mg bs CX0 lv at_ fn ps sp) : FnOk Pg wo K mg bs CX lv at_ fn ps sp := by
  refine ⟨F.len, fun A out st H given us vs Q E room en bd rv h => codeAny_mono (F.run A out st H given us vs Q E room en bd rv h) ?_⟩
  rintro (er | fl) st2 z
  · exact z.elim
  · cases fl <;> exact z
theorem FnOk.up {CX : CXT} {lv lw : Nat} (F : FnOk Pg wo K mg bs CX lv at_ fn ps sp) (le : lv ≤ lw) : FnOk Pg wo K mg bs CX lw at_ fn ps sp :=
  ⟨F.len, fun A out st H given us vs Q E room => F.run A out st H given us vs Q E (room.mono le)⟩
theorem FnOk.or {CX : CXT} {lv : Nat} (F : FnOk Pg wo K mg bs CX lv at_ fn ps sp) (G : FnOk Pg wo K mg bs CX lv at_ fn ps sp') : FnOk Pg wo K mg bs CX lv at_ fn ps (fun vs H Q E => sp vs H Q E ∨ sp' vs H Q E) :=
  ⟨fun vs H Q E h => h.elim (F.len vs H Q E) (G.len vs H Q E), fun A out st H given us vs Q E room en bd rv h => h.elim (F.run A out st H given us vs Q E room en bd rv) (G.run A out st H given us vs Q E room en bd rv)⟩
end
/-! ### the classes -/
/-- the j-th class, among all: what isinstance says of it, and that except P takes it -/
def errB (K : PySem.W.Frag) (P : Addr) (Cs : List Addr) (j : Nat) : Bool :=
  let D := Cs.getD j 0
  (PySem.W.clsIn K D).isSome && (PySem.W.findIn K (.ref D) "__getattribute__" == some (some (.builtin "BaseException.__getattribute__"))) && (PySem.W.findIn K (.ref D) "__getattr__").isSome && (PySem.W.subIn K (.ref D) (.type "BaseException") == some true) &&
    (PySem.W.findIn K (.ref D) "__class__" == some (some (.builtin "object.__class__"))) && (PySem.W.mroIn K D (.type "object") == some true) && (PySem.W.kitOne K (.ref D) (.type "ValueError") == some true) && (PySem.W.exmOne K (.ref D) (.ref P) == some true) &&
    (PySem.W.kitOne K (.ref D) (.ref P) == some true) && (List.range Cs.length).all fun i => PySem.W.kitOne K (.ref D) (.ref (Cs.getD i 0)) == some (i == j)
/-- what holds of every class object -/
def allB (K : PySem.W.Frag) : Bool :=
  (PySem.W.specialIn K (.builtin "object.__class__") "__get__" == some (some (.builtin "getset_descriptor.__get__"))) && (PySem.W.takesIn K (.builtin "object.__class__") == some true)
/-- all of them -/
structure Errs (K : PySem.W.Frag) (P : Addr) (Cs : List Addr) : Prop where
  all : allB K = true
  each : (List.range Cs.length).all (errB K P Cs) = true
theorem Errs.at {K : PySem.W.Frag} {P : Addr} {Cs : List Addr} (h : Errs K P Cs) {j : Nat} (lt : j < Cs.length) : errB K P Cs j = true := by
  have z := List.all_eq_true.mp h.each j (List.mem_range.mpr lt)
  exact z
theorem Errs.caught {K : PySem.W.Frag} {P : Addr} {Cs : List Addr} (h : Errs K P Cs) {j : Nat} (lt : j < Cs.length) : PySem.W.exmOne K (.ref (Cs.getD j 0)) (.ref P) = some true := by
  have z := h.at lt
  unfold errB at z
  simp only [Bool.and_eq_true, beq_iff_eq] at z
  exact z.1.1.2
theorem Errs.value {K : PySem.W.Frag} {P : Addr} {Cs : List Addr} (h : Errs K P Cs) {j : Nat} (lt : j < Cs.length) : PySem.W.kitOne K (.ref (Cs.getD j 0)) (.type "ValueError") = some true := by
  have z := h.at lt
  unfold errB at z
  simp only [Bool.and_eq_true, beq_iff_eq] at z
  exact z.1.1.1.2
theorem Errs.is {K : PySem.W.Frag} {P : Addr} {Cs : List Addr} (h : Errs K P Cs) {j i : Nat} (lt : j < Cs.length) (li : i < Cs.length) : PySem.W.kitOne K (.ref (Cs.getD j 0)) (.ref (Cs.getD i 0)) = some (i == j) := by
  have z := h.at lt
  unfold errB at z
  simp only [Bool.and_eq_true, beq_iff_eq] at z
  have y := List.all_eq_true.mp z.2 i (List.mem_range.mpr li)
  exact beq_iff_eq.mp y
/-! ### isinstance of the error that is handled -/
section
variable {X : Cx} {P a : Addr} {Cs : List Addr} {oe : Obj} {j : Nat}
/-- what is known of it -/
structure Held (X : Cx) (a : Addr) (oe : Obj) (D : Addr) (d : Option Addr) : Prop where
  pin : (a, oe) ∈ X.pn
  cls : L2N.Zn (.ref D) d oe
  fld : ∃ vs, oe.data = .fields vs
/-- one class -/
def rIsH (K : PySem.W.Frag) (a D : Addr) (d : Option Addr) : List V → Hp → VK → Prop := fun xs H Q => (∀ dx, d = some dx → ∃ fs, H dx = some (.xd fs)) ∧ ∃ (c : V) (cv : Value) (b : Bool), xs = [.ref a, c] ∧ ClsV c cv ∧ PySem.W.kitOne K (.ref D) cv = some b ∧ Q (.bl b) H
/-- a tuple of them, that was just laid -/
def rIsHT (K : PySem.W.Frag) (a D : Addr) (d : Option Addr) : List V → Hp → VK → Prop := fun xs H Q => (∀ dx, d = some dx → ∃ fs, H dx = some (.xd fs)) ∧ ∃ (tp : Addr) (cs : List V) (us : List Value) (b : Bool), xs = [.ref a, .ref tp] ∧ H tp = some (.tup cs) ∧ Paired ClsV cs us ∧ PySem.W.kitAny K (.ref D) us = some b ∧ Q (.bl b) H
end

/-! ### defs that are given the error that is handled -/
/-- what such a def promises: a its address, c its class, d its own dict -/
structure FnE (Pg : Program) (wo : World) (K : PySem.W.Frag) (mg : Str → Option Value) (bs : Heap) (lv : Nat) (at_ : Addr) (fn : FuncData) (ps : List Str) (sp : Addr → Value → Option Addr → Sp) : Prop where
  len : ∀ a c d vs H Q E, sp a c d vs H Q E → vs.length = ps.length
  run : ∀ (A : Around) (out : List Env) (st : Shared) (H : Hp) (given : Args) (us : List Value) (vs : List V) (Q : VK) (E : XK) (p : Addr × Obj) (c : Value) (d : Option Addr),
    RoomH lv A → Hot1 A p → PinOk out H st p → L2N.Zn c d p.2 → Env0 Pg wo K mg bs A out st H → BindsTo st fn given (ps.zip us) → Vals vs us → sp p.1 c d vs H Q E →
      codeAny (model Pg wo) A (.call (.ref at_) given) (CR CX0 out Pg wo H st Q E) st
section
variable {Pg : Program} {wo : World} {K : PySem.W.Frag} {mg : Str → Option Value} {bs : Heap} {at_ : Addr} {fn : FuncData} {ps : List Str}
end
section
variable {X : Cx} {lv : Nat} {at_ : Addr} {fn : FuncData} {ps : List Str} {sp : Addr → Value → Option Addr → Sp}
/-- f(e, ..) in the suite that handles e -/
def tCallE (sp : Addr → Value → Option Addr → Sp) (a : Addr) (c : Value) (d : Option Addr) (t : TA) : TE := fun σ H Q => t σ H fun vs H1 => sp a c d vs H1 Q E0
end
end PT

set_option maxHeartbeats 4000000
/-! an object with three fields: how it looks, a field as a target among several, binding of a keyword-only parameter -/
namespace PT
open PySem PySem.Spec PyProof.Rows L2
/-- what isinstance asks of a class -/
structure IsC (K : PySem.W.Frag) (C : Addr) : Prop where
  cl : Cls K C
  ha : PySem.W.findIn K (.ref C) "__class__" = some (some (.builtin "object.__class__"))
  hn : PySem.W.specialIn K (.builtin "object.__class__") "__get__" = some (some (.builtin "getset_descriptor.__get__"))
  htk : PySem.W.takesIn K (.builtin "object.__class__") = some true
  hm : PySem.W.mroIn K C (.type "object") = some true
  me : PySem.W.kitOne K (.ref C) (.ref C) = some true
/-- a field among several targets -/
def gFld (K : PySem.W.Frag) (to : TE) (f : Str) : TG := fun v σ H Q => to σ H fun x H1 => ∃ a C dx fs, x = .ref a ∧ H1 a = some (.ins C dx fs) ∧ Cls K C ∧ NoAttr K C f ∧ fs.length < 1000 ∧ Q σ (upd H1 a (.ins C dx (putF f v fs)))
theorem pg_fld {X : Cx} {o : Expr} {f : Str} {pos : Pos} {to : TE} (ho : PE X o to) : PG X (.Attribute o f pos) (gFld X.K to f) := by
  refine ⟨fun pins s σ H v u Q I r h => ?_⟩
  rw [assign_Attribute]
  refine wpAny_bind (wpAny_holding (thn (ho.run pins s σ H _ I h) fun ov s1 ⟨x, H1, I1, r1, a, C, dx, fs, ex, ea, c, n, l, q⟩ => ?_))
  subst ex
  obtain rfl : ov = Value.ref a := r1
  refine wpAny_bind (wpAny_standAt (wpAny_bind (wpAny_holding (setattr_ok I1 ea c n l r fun s3 I3 => ?_))))
  exact wpAny_release ⟨σ, _, I3, q⟩
theorem okK {P : Program} {w : World} {K : PySem.W.Frag} {mg : Str → Option Value} {base : Heap} {x qual : Str} {params : Arguments} {body : List Stmt} {scope : Scope} {dvs : List V} {kws : List (Str × V)} {f : Addr} {fd : FuncData} {N ps : List Str} {k : Nat} {sp : Sp} (F : FunD K x qual params body scope dvs kws f fd) (S : FnScope N ps scope) (len : ∀ vs H Q E, sp vs H Q E → vs.length = ps.length)
    (hbody : ∀ (cdv : Value) (A : Around) (outer : List Env) (s : Shared) (H : Hp) (vs : List V) (Q : VK) (E : XK), Room k (A.deeper (envOfC qual scope s.heap.objs.size f cdv)) → sp vs H Q E →
      ∃ t, PSs (cxOf CX0 P w K mg base N qual scope f cdv A outer s H E).nox body t ∧ t { nx := fun _ H' => Q .non H', rt := Q } (start N vs) H) : FnOk P w K mg base CX0 (k + 1) f fd ps sp :=
  F.ok S len fun cdv A outer s H vs Q E hr h => let ⟨t, p, q⟩ := hbody cdv A outer s H vs Q E hr h; ⟨t, p.nox, q⟩
/-! ### the three fields -/
theorem cb_ : ¬ (("customers" : Str) = "boxes") := by decide +kernel
theorem cp_ : ¬ (("customers" : Str) = "past") := by decide +kernel
theorem bp_ : ¬ (("boxes" : Str) = "past") := by decide +kernel
def lvF (p q r : Addr) : List (Str × V) := [("customers", .ref p), ("boxes", .ref q), ("past", .ref r)]
theorem lvF_made (p q r : Addr) : putF "past" (.ref r) (putF "boxes" (.ref q) (putF "customers" (.ref p) [])) = lvF p q r := by
  have e1 : putF "boxes" (.ref q) (putF "customers" (.ref p) []) = [(("customers" : Str), V.ref p), ("boxes", .ref q)] := by
    show (if ("customers" : Str) = "boxes" then [(("customers" : Str), V.ref q)] else (("customers" : Str), V.ref p) :: putF "boxes" (V.ref q) []) = _
    rw [if_neg cb_]
    rfl
  rw [e1]
  show (if ("customers" : Str) = "past" then _ else (("customers" : Str), V.ref p) :: (if ("boxes" : Str) = "past" then _ else (("boxes" : Str), V.ref q) :: [(("past" : Str), V.ref r)])) = _
  rw [if_neg cp_, if_neg bp_]
  rfl
theorem lvF_c (p q r : Addr) : (lvF p q r).lookup ("customers" : Str) = some (.ref p) := by rw [← lvF_made, lookup_putF, if_neg cp_, lookup_putF, if_neg cb_, lookup_putF, if_pos rfl]
theorem lvF_b (p q r : Addr) : (lvF p q r).lookup ("boxes" : Str) = some (.ref q) := by rw [← lvF_made, lookup_putF, if_neg bp_, lookup_putF, if_pos rfl]
theorem lvF_p (p q r : Addr) : (lvF p q r).lookup ("past" : Str) = some (.ref r) := by rw [← lvF_made, lookup_putF, if_pos rfl]
theorem lvF_no (p q r : Addr) {m : Str} (h1 : ¬ m = "past") (h2 : ¬ m = "boxes") (h3 : ¬ m = "customers") : (lvF p q r).lookup m = none := by
  rw [← lvF_made, lookup_putF, if_neg h1, lookup_putF, if_neg h2, lookup_putF, if_neg h3]
  rfl
theorem lvF_putC (p q r z : Addr) : putF "customers" (.ref z) (lvF p q r) = lvF z q r := by
  show (if ("customers" : Str) = "customers" then (("customers" : Str), V.ref z) :: [(("boxes" : Str), V.ref q), ("past", .ref r)] else _) = _
  rw [if_pos rfl]
  rfl
theorem lvF_putB (p q r z : Addr) : putF "boxes" (.ref z) (lvF p q r) = lvF p z r := by
  show (if ("customers" : Str) = "boxes" then _ else (("customers" : Str), V.ref p) :: (if ("boxes" : Str) = "boxes" then (("boxes" : Str), V.ref z) :: [(("past" : Str), V.ref r)] else _)) = _
  rw [if_neg cb_, if_pos rfl]
  rfl
/-! ### what stands beside a live plant is kept -/
/-- all tuples are kept -/
def KT (H H' : Hp) : Prop := ∀ c xs, H c = some (.tup xs) → H' c = some (.tup xs)
theorem KT.refl (H : Hp) : KT H H := fun _ _ h => h
theorem KT.trans {H H1 H2 : Hp} (a : KT H H1) (b : KT H1 H2) : KT H H2 := fun c xs h => b c xs (a c xs h)
theorem Same.kt {H H' : Hp} (e : Same H H') : KT H H' := fun c _ h => e c _ h
theorem KT.plant {H H' : Hp} (k : KT H H') {p : Addr} {pl : List Int} (h : PlantAt H p pl) : PlantAt H' p pl := ⟨k _ _ h.at_, h.ok⟩
/-- an operation: its name and its numbers -/
abbrev Op := Str × List Int
def opV (op : Op) : List V := .str op.1 :: op.2.map V.int
def OpAt (H : Hp) (o : V) (op : Op) : Prop := ∃ a, o = .ref a ∧ H a = some (.tup (opV op))
theorem OpAt.kt {H H' : Hp} (k : KT H H') {o : V} {op : Op} (h : OpAt H o op) : OpAt H' o op := let ⟨a, e, x⟩ := h; ⟨a, e, k _ _ x⟩
/-- what is past: an operation, and what was before it -/
structure Ent where
  op : Op
  pl : List Int
  ss : List Int
/-- a plant and a stock that stand in the heap -/
structure StAt (H : Hp) (p q : Addr) (pl ss : List Int) : Prop where
  P : PlantAt H p pl
  S : H q = some (.tup (ss.map V.int))
  ls : ss.length = pl.length + 1
  nd : ss.Nodup
theorem StAt.kt {H H' : Hp} (k : KT H H') {p q : Addr} {pl ss : List Int} (h : StAt H p q pl ss) : StAt H' p q pl ss := ⟨k.plant h.P, k _ _ h.S, h.ls, h.nd⟩
def EntAt (H : Hp) (v : V) (e : Ent) : Prop := ∃ a o p q, v = .ref a ∧ H a = some (.tup [o, .ref p, .ref q]) ∧ OpAt H o e.op ∧ StAt H p q e.pl e.ss
theorem EntAt.kt {H H' : Hp} (k : KT H H') {v : V} {e : Ent} (h : EntAt H v e) : EntAt H' v e := let ⟨a, o, p, q, h1, h2, h3, h4⟩ := h; ⟨a, o, p, q, h1, k _ _ h2, h3.kt k, h4.kt k⟩
structure PastAt (H : Hp) (vs : List V) (es : List Ent) : Prop where
  len : vs.length = es.length
  at_ : ∀ (i : Nat) (v : V) (e : Ent), vs[i]? = some v → es[i]? = some e → EntAt H v e
theorem PastAt.kt {H H' : Hp} (k : KT H H') {vs : List V} {es : List Ent} (h : PastAt H vs es) : PastAt H' vs es := ⟨h.len, fun i v e a b => (h.at_ i v e a b).kt k⟩
theorem PastAt.nil {H : Hp} : PastAt H [] [] := ⟨rfl, fun i v e h => by simp at h⟩
theorem PastAt.snoc {H : Hp} {vs : List V} {es : List Ent} {v : V} {e : Ent} (h : PastAt H vs es) (x : EntAt H v e) : PastAt H (vs ++ [v]) (es ++ [e]) := by
  refine ⟨by rw [List.length_append, List.length_append, h.len]; rfl, fun i u f a b => ?_⟩
  have lv := h.len
  rcases Nat.lt_or_ge i vs.length with c | c
  · rw [List.getElem?_append_left c] at a
    rw [List.getElem?_append_left (by omega)] at b
    exact h.at_ i u f a b
  · rw [List.getElem?_append_right c] at a
    rw [List.getElem?_append_right (by omega)] at b
    rw [lv] at a
    obtain ⟨z, ez⟩ : ∃ z, z = i - es.length := ⟨_, rfl⟩
    rw [← ez] at a b
    cases z with
    | zero => cases a; cases b; exact x
    | succ z => simp at a
theorem PastAt.dropLast {H : Hp} {vs : List V} {es : List Ent} {e : Ent} (h : PastAt H vs (es ++ [e])) : ∃ us u, vs = us ++ [u] ∧ PastAt H us es ∧ EntAt H u e := by
  have lv := h.len
  rw [List.length_append] at lv
  have ne : vs ≠ [] := fun z => by rw [z] at lv; simp at lv
  have e1 := (List.dropLast_concat_getLast ne).symm
  obtain ⟨us, u, rfl⟩ : ∃ us u, vs = us ++ [u] := ⟨_, _, e1⟩
  have lu : us.length = es.length := by
    rw [List.length_append] at lv
    exact Nat.add_right_cancel lv
  refine ⟨us, u, rfl, ⟨lu, fun i v f a b => h.at_ i v f ?_ ?_⟩, h.at_ us.length u e ?_ ?_⟩
  · rw [List.getElem?_append_left (List.getElem?_eq_some_iff.mp a).1]; exact a
  · rw [List.getElem?_append_left (List.getElem?_eq_some_iff.mp b).1]; exact b
  · rw [List.getElem?_append_right (Nat.le_refl _), Nat.sub_self]; rfl
  · rw [lu, List.getElem?_append_right (Nat.le_refl _), Nat.sub_self]; rfl
/-- a live plant stands at x; what is past stands in the list at r -/
structure LiveAt (C : Addr) (H : Hp) (x r p q : Addr) (pl ss : List Int) (es : List Ent) : Prop where
  ob : ∃ dx, H x = some (.ins C dx (lvF p q r))
  st : StAt H p q pl ss
  pa : ∃ vs, H r = some (.lst vs) ∧ PastAt H vs es
theorem LiveAt.mv {C : Addr} {H H' : Hp} {x r p q : Addr} {pl ss : List Int} {es : List Ent} (h : LiveAt C H x r p q pl ss es) (k : KT H H') (hx : H' x = H x) (hr : H' r = H r) : LiveAt C H' x r p q pl ss es :=
  let ⟨dx, e⟩ := h.ob; let ⟨vs, e2, pa⟩ := h.pa; ⟨⟨dx, hx.trans e⟩, h.st.kt k, ⟨vs, hr.trans e2, pa.kt k⟩⟩
theorem LiveAt.same {C : Addr} {H H' : Hp} {x r p q : Addr} {pl ss : List Int} {es : List Ent} (h : LiveAt C H x r p q pl ss es) (s : Same H H') : LiveAt C H' x r p q pl ss es :=
  let ⟨_, e⟩ := h.ob; let ⟨_, e2, _⟩ := h.pa; h.mv (Same.kt s) ((s _ _ e).trans e.symm) ((s _ _ e2).trans e2.symm)
/-- all but the object and its list is kept -/
def Bar2 (x r : Addr) (H H' : Hp) : Prop := ∀ c o, c ≠ x → c ≠ r → H c = some o → H' c = some o
theorem Bar2.refl (x r : Addr) (H : Hp) : Bar2 x r H H := fun _ _ _ _ h => h
theorem Bar2.trans {x r : Addr} {H H1 H2 : Hp} (a : Bar2 x r H H1) (b : Bar2 x r H1 H2) : Bar2 x r H H2 := fun c o h1 h2 h => b c o h1 h2 (a c o h1 h2 h)
theorem Same.bar2 {x r : Addr} {H H' : Hp} (e : Same H H') : Bar2 x r H H' := fun c o _ _ h => e c o h
theorem LiveAt.neT {C : Addr} {H : Hp} {x r p q a : Addr} {pl ss : List Int} {es : List Ent} {xs : List V} (h : LiveAt C H x r p q pl ss es) (e : H a = some (.tup xs)) : a ≠ x ∧ a ≠ r :=
  let ⟨_, e1⟩ := h.ob; let ⟨_, e2, _⟩ := h.pa; ⟨ne_of e e1 (by intro z; cases z), ne_of e e2 (by intro z; cases z)⟩
theorem LiveAt.xr {C : Addr} {H : Hp} {x r p q : Addr} {pl ss : List Int} {es : List Ent} (h : LiveAt C H x r p q pl ss es) : x ≠ r :=
  let ⟨_, e1⟩ := h.ob; let ⟨_, e2, _⟩ := h.pa; ne_of e1 e2 (by intro z; cases z)
theorem Bar2.kt {C : Addr} {H H' : Hp} {x r p q : Addr} {pl ss : List Int} {es : List Ent} (b : Bar2 x r H H') (h : LiveAt C H x r p q pl ss es) : KT H H' := fun c xs e => b c _ (h.neT e).1 (h.neT e).2 e
end PT

set_option maxHeartbeats 4000000
/-! len(x) where the class has its own __len__; == and != where it has its own __eq__ -/
namespace PT
open PySem PySem.Spec PyProof.Rows L2
section
variable {X : Cx} {CX : CXT} {C f : Addr} {fd : FuncData} {ps : List Str} {k : Nat} {sp : Sp} {E : XK}
end
end PT

set_option maxHeartbeats 4000000
/-! a method that may raise, called where that is caught -/
namespace PT
open PySem PySem.Spec PyProof.Rows L2
section
variable {X : Cx} {CX : CXT} {k : Nat} {f C : Addr} {fd : FuncData} {ps : List Str} {sp : Sp} {E : L2.St → XK} {m : Str} {pos apos : Pos} {e o : Expr} {es : List Expr} {ta : TE} {t : TA}
theorem run_fnX {pins : List (Addr × Obj)} {σ : L2.St} {H : Hp} {s : Shared} {Q : VK} {us : List Value} {vs : List V} (F : FnOk X.prog X.w X.K X.mg X.base CX k f fd ps sp) (hr : Room k X.A) (hb : Binds X.K fd ps []) (hx : PassesAt CX X σ (E σ))
    (I : Inv X pins σ H s) (r : Vals vs us) (h : sp vs H Q (E σ)) : wpAny (model X.prog X.w) X.A (call (.ref f) us) (EP X pins σ Q) X.xe s := by
  have hl : us.length = ps.length := by rw [← r.length]; exact F.len _ _ _ _ h
  have b := hb s us I.kIn (by rw [List.append_nil]; exact hl)
  rw [List.append_nil] at b
  refine wpAny_call (codeAny_mono (F.run X.A X.stack s H ⟨us, []⟩ us vs Q (E σ) hr I.env0 b r h) fun r s' hq => ?_)
  cases r with
  | error e => exact hx pins H s e s' I hq
  | ok fl =>
    cases fl with
    | ret u => exact I.after hq
    | next => exact False.elim hq
    | brk => exact False.elim hq
    | cont => exact False.elim hq
def tMethX0 (C : Addr) (m : Str) (sp : Sp) (E : L2.St → XK) (ta : TE) : TE := fun σ H Q => ta σ H fun x H1 => ∃ a dx fs, x = .ref a ∧ H1 a = some (.ins C dx fs) ∧ fs.lookup m = none ∧ sp [x] H1 Q (E σ)
def tMethX (C : Addr) (m : Str) (sp : Sp) (E : L2.St → XK) (ta : TE) (t : TA) : TE := fun σ H Q => ta σ H fun x H1 => ∃ a dx fs, x = .ref a ∧ H1 a = some (.ins C dx fs) ∧ fs.lookup m = none ∧ t σ H1 fun vs H2 => sp (x :: vs) H2 Q (E σ)
end
end PT

set_option maxHeartbeats 4000000
/-! the text of the law, by places -/
namespace PT
open PySem PySem.Spec PyProof.Rows L2
def topS (i : Nat) : Stmt := PySem.Challenge.pw_pulltree_k56_console_operations.main.body.getD i (.Pass ⟨0, 0, 0, 0⟩)
abbrev sIsInteger : Stmt := topS 15
theorem scIsInteger : FnScope ["value"] ["value"] (defScope sIsInteger) := ⟨rfl, rfl, rfl, by decide +kernel, rfl, by decide +kernel, by decide +kernel⟩
abbrev sIsWithin : Stmt := topS 16
theorem scIsWithin : FnScope ["value", "least", "most"] ["value", "least", "most"] (defScope sIsWithin) := ⟨rfl, rfl, rfl, by decide +kernel, rfl, by decide +kernel, by decide +kernel⟩
abbrev sIsDecimal : Stmt := topS 17
theorem scIsDecimal : FnScope ["text", "most"] ["text", "most"] (defScope sIsDecimal) := ⟨rfl, rfl, rfl, by decide +kernel, rfl, by decide +kernel, by decide +kernel⟩
abbrev sFitsPlant : Stmt := topS 18
theorem scFitsPlant : FnScope ["value", "greatest", "above"] ["value"] (defScope sFitsPlant) := ⟨rfl, rfl, rfl, by decide +kernel, rfl, by decide +kernel, by decide +kernel⟩
abbrev sFitsStation : Stmt := topS 19
theorem scFitsStation : FnScope ["plant", "value"] ["plant", "value"] (defScope sFitsStation) := ⟨rfl, rfl, rfl, by decide +kernel, rfl, by decide +kernel, by decide +kernel⟩
abbrev sFitsStock : Stmt := topS 20
theorem scFitsStock : FnScope ["plant", "value", "box"] ["plant", "value"] (defScope sFitsStock) := ⟨rfl, rfl, rfl, by decide +kernel, rfl, by decide +kernel, by decide +kernel⟩
abbrev sCheckPlant : Stmt := topS 21
theorem scCheckPlant : FnScope ["plant"] ["plant"] (defScope sCheckPlant) := ⟨rfl, rfl, rfl, by decide +kernel, rfl, by decide +kernel, by decide +kernel⟩
abbrev sCheckStation : Stmt := topS 22
theorem scCheckStation : FnScope ["plant", "station"] ["plant", "station"] (defScope sCheckStation) := ⟨rfl, rfl, rfl, by decide +kernel, rfl, by decide +kernel, by decide +kernel⟩
abbrev sCheckStock : Stmt := topS 23
theorem scCheckStock : FnScope ["plant", "stock"] ["plant", "stock"] (defScope sCheckStock) := ⟨rfl, rfl, rfl, by decide +kernel, rfl, by decide +kernel, by decide +kernel⟩
abbrev sCheckDays : Stmt := topS 24
theorem scCheckDays : FnScope ["days", "least", "most"] ["days", "least", "most"] (defScope sCheckDays) := ⟨rfl, rfl, rfl, by decide +kernel, rfl, by decide +kernel, by decide +kernel⟩
abbrev sSupplierLists : Stmt := topS 26
theorem scSupplierLists : FnScope ["plant", "lists", "at", "above", "station"] ["plant"] (defScope sSupplierLists) := ⟨rfl, rfl, rfl, by decide +kernel, rfl, by decide +kernel, by decide +kernel⟩
abbrev sRun : Stmt := topS 29
theorem scRun : FnScope ["plant", "stock", "days", "rows", "later"] ["plant", "stock", "days"] (defScope sRun) := ⟨rfl, rfl, rfl, by decide +kernel, rfl, by decide +kernel, by decide +kernel⟩
abbrev sFirstDays : Stmt := topS 30
theorem scFirstDays : FnScope ["plant", "stock", "days", "givers", "boxes", "rows", "day", "sold", "chain"] ["plant", "stock", "days"] (defScope sFirstDays) := ⟨rfl, rfl, rfl, by decide +kernel, rfl, by decide +kernel, by decide +kernel⟩
abbrev sPassDay : Stmt := topS 31
theorem scPassDay : FnScope ["givers", "boxes", "first", "fresh", "sold", "empty", "chain", "giver"] ["givers", "boxes", "first"] (defScope sPassDay) := ⟨rfl, rfl, rfl, by decide +kernel, rfl, by decide +kernel, by decide +kernel⟩
abbrev sOldestGiver : Stmt := topS 32
theorem scOldestGiver : FnScope ["stations", "boxes"] ["stations", "boxes"] (defScope sOldestGiver) := ⟨rfl, rfl, rfl, by decide +kernel, rfl, by decide +kernel, by decide +kernel⟩
abbrev sDaysUntilOrdered : Stmt := topS 34
abbrev sLastDisorder : Stmt := topS 35
theorem scLastDisorder : FnScope ["plant", "boxes", "lower", "upper"] ["plant", "boxes"] (defScope sLastDisorder) := ⟨rfl, rfl, rfl, by decide +kernel, rfl, by decide +kernel, by decide +kernel⟩
abbrev sDaysToOrder : Stmt := topS 36
theorem scDaysToOrder : FnScope ["plant", "stock", "givers", "boxes", "chains", "sold", "chain"] ["plant", "stock"] (defScope sDaysToOrder) := ⟨rfl, rfl, rfl, by decide +kernel, rfl, by decide +kernel, by decide +kernel⟩
abbrev sCheckOrdered : Stmt := topS 37
abbrev sWord : Stmt := topS 39
abbrev sWordsByAge : Stmt := topS 40
theorem scWordsByAge : FnScope ["plant", "stock", "words", "holder", "supplier", "above", "box"] ["plant", "stock"] (defScope sWordsByAge) := ⟨rfl, rfl, rfl, by decide +kernel, rfl, by decide +kernel, by decide +kernel⟩
abbrev sRanksByWords : Stmt := topS 41
theorem scRanksByWords : FnScope ["words", "ranks", "used", "rank", "station", "supplier"] ["words"] (defScope sRanksByWords) := ⟨rfl, rfl, rfl, by decide +kernel, rfl, by decide +kernel, by decide +kernel⟩
abbrev sTurnedWords : Stmt := topS 42
theorem scTurnedWords : FnScope ["plant", "words", "days", "letters", "many"] ["plant", "words", "days"] (defScope sTurnedWords) := ⟨rfl, rfl, rfl, by decide +kernel, rfl, by decide +kernel, by decide +kernel⟩
abbrev sTurned : Stmt := topS 43
theorem scTurned : FnScope ["letters", "many", "first"] ["letters", "many"] (defScope sTurned) := ⟨rfl, rfl, rfl, by decide +kernel, rfl, by decide +kernel, by decide +kernel⟩
abbrev sEmptiedByWords : Stmt := topS 44
theorem scEmptiedByWords : FnScope ["plant", "words", "days", "times", "supplier", "station"] ["plant", "words", "days"] (defScope sEmptiedByWords) := ⟨rfl, rfl, rfl, by decide +kernel, rfl, by decide +kernel, by decide +kernel⟩
abbrev sTimesGiven : Stmt := topS 45
theorem scTimesGiven : FnScope ["letters", "supplier", "many", "rounds", "rest"] ["letters", "supplier", "many"] (defScope sTimesGiven) := ⟨rfl, rfl, rfl, by decide +kernel, rfl, by decide +kernel, by decide +kernel⟩
abbrev sCommonDivisor : Stmt := topS 47
abbrev sCycleLength : Stmt := topS 49
abbrev sPeriodOf : Stmt := topS 50
abbrev sLengthOfCycle : Stmt := topS 51
abbrev sCommonMultiple : Stmt := topS 52
abbrev sMakerOn : Stmt := topS 54
abbrev sFarStock : Stmt := topS 55
theorem scFarStock : FnScope ["plant", "stock", "days", "chains", "ordered", "words", "oldest", "rank"] ["plant", "stock", "days"] (defScope sFarStock) := ⟨rfl, rfl, rfl, by decide +kernel, rfl, by decide +kernel, by decide +kernel⟩
abbrev sFarChain : Stmt := topS 56
abbrev sSoldOn : Stmt := topS 60
abbrev sSalesOfFirst : Stmt := topS 61
abbrev sReadPlant : Stmt := topS 64
theorem scReadPlant : FnScope ["text", "rows", "plant", "stock", "line", "row"] ["text"] (defScope sReadPlant) := ⟨rfl, rfl, rfl, by decide +kernel, rfl, by decide +kernel, by decide +kernel⟩
abbrev sCheckText : Stmt := topS 65
theorem scCheckText : FnScope ["holds"] ["holds"] (defScope sCheckText) := ⟨rfl, rfl, rfl, by decide +kernel, rfl, by decide +kernel, by decide +kernel⟩
abbrev sNumberIn : Stmt := topS 66
theorem scNumberIn : FnScope ["text"] ["text"] (defScope sNumberIn) := ⟨rfl, rfl, rfl, by decide +kernel, rfl, by decide +kernel, by decide +kernel⟩
abbrev sSayDay : Stmt := topS 70
theorem scSayDay : FnScope ["live"] ["live"] (defScope sSayDay) := ⟨rfl, rfl, rfl, by decide +kernel, rfl, by decide +kernel, by decide +kernel⟩
abbrev sSayRemove : Stmt := topS 71
theorem scSayRemove : FnScope ["live"] ["live"] (defScope sSayRemove) := ⟨rfl, rfl, rfl, by decide +kernel, rfl, by decide +kernel, by decide +kernel⟩
abbrev sSayUndo : Stmt := topS 72
theorem scSayUndo : FnScope ["live"] ["live"] (defScope sSayUndo) := ⟨rfl, rfl, rfl, by decide +kernel, rfl, by decide +kernel, by decide +kernel⟩
abbrev sSayStock : Stmt := topS 73
theorem scSayStock : FnScope ["live"] ["live"] (defScope sSayStock) := ⟨rfl, rfl, rfl, by decide +kernel, rfl, by decide +kernel, by decide +kernel⟩
abbrev sSayWait : Stmt := topS 74
abbrev sSayCycle : Stmt := topS 75
abbrev sSaySell : Stmt := topS 76
theorem scSaySell : FnScope ["live", "station"] ["live", "station"] (defScope sSaySell) := ⟨rfl, rfl, rfl, by decide +kernel, rfl, by decide +kernel, by decide +kernel⟩
abbrev sSayDays : Stmt := topS 77
theorem scSayDays : FnScope ["live", "many"] ["live", "many"] (defScope sSayDays) := ⟨rfl, rfl, rfl, by decide +kernel, rfl, by decide +kernel, by decide +kernel⟩
abbrev sSayAdd : Stmt := topS 78
theorem scSayAdd : FnScope ["live", "station"] ["live", "station"] (defScope sSayAdd) := ⟨rfl, rfl, rfl, by decide +kernel, rfl, by decide +kernel, by decide +kernel⟩
abbrev sSayWord : Stmt := topS 79
abbrev sSaySold : Stmt := topS 80
abbrev sSayMaker : Stmt := topS 81
abbrev sSpaced : Stmt := topS 82
theorem scSpaced : FnScope ["numbers", "number"] ["numbers"] (defScope sSpaced) := ⟨rfl, rfl, rfl, by decide +kernel, rfl, by decide +kernel, by decide +kernel⟩
abbrev sLivePlantOf : Stmt := topS 86
theorem scLivePlantOf : FnScope ["text", "plant", "stock"] ["text"] (defScope sLivePlantOf) := ⟨rfl, rfl, rfl, by decide +kernel, rfl, by decide +kernel, by decide +kernel⟩
abbrev sAnswer : Stmt := topS 87
theorem scAnswer : FnScope ["live", "parts", "act"] ["live", "parts"] (defScope sAnswer) := ⟨rfl, rfl, rfl, by decide +kernel, rfl, by decide +kernel, by decide +kernel⟩
abbrev sCheckRow : Stmt := topS 88
theorem scCheckRow : FnScope ["holds"] ["holds"] (defScope sCheckRow) := ⟨rfl, rfl, rfl, by decide +kernel, rfl, by decide +kernel, by decide +kernel⟩
abbrev sLawFount : Stmt := topS 90
theorem scLawFount : FnScope ["script", "k", "cell"] ["script", "k"] (defScope sLawFount) := ⟨rfl, rfl, rfl, by decide +kernel, rfl, by decide +kernel, by decide +kernel⟩
abbrev sLawSip : Stmt := topS 91
theorem scLawSip : FnScope ["fount", "many", "found", "mixed"] ["fount", "many"] (defScope sLawSip) := ⟨rfl, rfl, rfl, by decide +kernel, rfl, by decide +kernel, by decide +kernel⟩
abbrev sLawMixed : Stmt := topS 92
theorem scLawMixed : FnScope ["fount", "items", "left", "turn"] ["fount", "items"] (defScope sLawMixed) := ⟨rfl, rfl, rfl, by decide +kernel, rfl, by decide +kernel, by decide +kernel⟩
abbrev sLawGrown : Stmt := topS 93
theorem scLawGrown : FnScope ["fount", "most", "count", "way", "found", "station", "any_one"] ["fount", "most"] (defScope sLawGrown) := ⟨rfl, rfl, rfl, by decide +kernel, rfl, by decide +kernel, by decide +kernel⟩
abbrev sLawFilled : Stmt := topS 94
theorem scLawFilled : FnScope ["fount", "plant", "count", "style", "way", "last", "at", "found", "wide"] ["fount", "plant"] (defScope sLawFilled) := ⟨rfl, rfl, rfl, by decide +kernel, rfl, by decide +kernel, by decide +kernel⟩
abbrev sLawSold : Stmt := topS 95
theorem scLawSold : FnScope ["plant", "boxes", "station", "found", "here", "at", "under", "box"] ["plant", "boxes", "station"] (defScope sLawSold) := ⟨rfl, rfl, rfl, by decide +kernel, rfl, by decide +kernel, by decide +kernel⟩
abbrev sLawDays : Stmt := topS 96
theorem scLawDays : FnScope ["plant", "boxes", "many", "count", "early", "turn", "least", "rows", "left", "box"] ["plant", "boxes", "many"] (defScope sLawDays) := ⟨rfl, rfl, rfl, by decide +kernel, rfl, by decide +kernel, by decide +kernel⟩
abbrev sLawStep : Stmt := topS 97
theorem scLawStep : FnScope ["state", "operation", "plant", "boxes"] ["state", "operation"] (defScope sLawStep) := ⟨rfl, rfl, rfl, by decide +kernel, rfl, by decide +kernel, by decide +kernel⟩
abbrev sLawOperation : Stmt := topS 98
theorem scLawOperation : FnScope ["fount", "state", "most", "great", "count", "way"] ["fount", "state", "most", "great"] (defScope sLawOperation) := ⟨rfl, rfl, rfl, by decide +kernel, rfl, by decide +kernel, by decide +kernel⟩
abbrev sLawRow : Stmt := topS 99
theorem scLawRow : FnScope ["operation", "part"] ["operation"] (defScope sLawRow) := ⟨rfl, rfl, rfl, by decide +kernel, rfl, by decide +kernel, by decide +kernel⟩
abbrev sLawText : Stmt := topS 100
theorem scLawText : FnScope ["plant", "boxes", "lines", "boss", "box", "line"] ["plant", "boxes"] (defScope sLawText) := ⟨rfl, rfl, rfl, by decide +kernel, rfl, by decide +kernel, by decide +kernel⟩
abbrev sLawOpen : Stmt := topS 101
theorem scLawOpen : FnScope ["plant", "boxes"] ["plant", "boxes"] (defScope sLawOpen) := ⟨rfl, rfl, rfl, by decide +kernel, rfl, by decide +kernel, by decide +kernel⟩
abbrev sLawOpened : Stmt := topS 102
theorem scLawOpened : FnScope ["fount", "console", "plant", "boxes"] ["fount", "console"] (defScope sLawOpened) := ⟨rfl, rfl, rfl, by decide +kernel, rfl, by decide +kernel, by decide +kernel⟩
abbrev sLawUndone : Stmt := topS 103
theorem scLawUndone : FnScope ["console", "states"] ["console", "states"] (defScope sLawUndone) := ⟨rfl, rfl, rfl, by decide +kernel, rfl, by decide +kernel, by decide +kernel⟩
abbrev sLaw : Stmt := topS 104
theorem scLaw : FnScope ["script", "k", "fount", "consoles_here", "console", "there", "turn", "which", "way", "states", "operation", "due", "state", "one", "some", "box"] ["script"] (defScope sLaw) := ⟨rfl, rfl, rfl, by decide +kernel, rfl, by decide +kernel, by decide +kernel⟩
abbrev sLvInit : Stmt := inClass (topS 58) 0
theorem scLvInit : FnScope ["self", "plant", "stock"] ["self", "plant", "stock"] (defScope sLvInit) := ⟨rfl, rfl, rfl, by decide +kernel, rfl, by decide +kernel, by decide +kernel⟩
abbrev sLvEq : Stmt := inClass (topS 58) 1
abbrev sLvLen : Stmt := inClass (topS 58) 2
abbrev sLvDay : Stmt := inClass (topS 58) 3
theorem scLvDay : FnScope ["self"] ["self"] (defScope sLvDay) := ⟨rfl, rfl, rfl, by decide +kernel, rfl, by decide +kernel, by decide +kernel⟩
abbrev sLvDays : Stmt := inClass (topS 58) 4
theorem scLvDays : FnScope ["self", "days"] ["self", "days"] (defScope sLvDays) := ⟨rfl, rfl, rfl, by decide +kernel, rfl, by decide +kernel, by decide +kernel⟩
abbrev sLvSell : Stmt := inClass (topS 58) 5
theorem scLvSell : FnScope ["self", "station"] ["self", "station"] (defScope sLvSell) := ⟨rfl, rfl, rfl, by decide +kernel, rfl, by decide +kernel, by decide +kernel⟩
abbrev sLvAdd : Stmt := inClass (topS 58) 6
theorem scLvAdd : FnScope ["self", "station"] ["self", "station"] (defScope sLvAdd) := ⟨rfl, rfl, rfl, by decide +kernel, rfl, by decide +kernel, by decide +kernel⟩
abbrev sLvRemove : Stmt := inClass (topS 58) 7
theorem scLvRemove : FnScope ["self"] ["self"] (defScope sLvRemove) := ⟨rfl, rfl, rfl, by decide +kernel, rfl, by decide +kernel, by decide +kernel⟩
abbrev sLvUndo : Stmt := inClass (topS 58) 8
theorem scLvUndo : FnScope ["self", "operation"] ["self"] (defScope sLvUndo) := ⟨rfl, rfl, rfl, by decide +kernel, rfl, by decide +kernel, by decide +kernel⟩
abbrev sLvPlant : Stmt := inClass (topS 58) 9
abbrev sLvStock : Stmt := inClass (topS 58) 10
theorem scLvStock : FnScope ["self"] ["self"] (defScope sLvStock) := ⟨rfl, rfl, rfl, by decide +kernel, rfl, by decide +kernel, by decide +kernel⟩
abbrev sLvPull : Stmt := inClass (topS 58) 12
theorem scLvPull : FnScope ["self", "operation", "first", "boxes", "sold", "chain"] ["self", "operation", "first"] (defScope sLvPull) := ⟨rfl, rfl, rfl, by decide +kernel, rfl, by decide +kernel, by decide +kernel⟩
abbrev sLvChange : Stmt := inClass (topS 58) 13
theorem scLvChange : FnScope ["self", "operation", "customers", "boxes"] ["self", "operation", "customers", "boxes"] (defScope sLvChange) := ⟨rfl, rfl, rfl, by decide +kernel, rfl, by decide +kernel, by decide +kernel⟩
abbrev sCoInit : Stmt := inClass (topS 85) 0
theorem scCoInit : FnScope ["self"] ["self"] (defScope sCoInit) := ⟨rfl, rfl, rfl, by decide +kernel, rfl, by decide +kernel, by decide +kernel⟩
abbrev sCoSay : Stmt := inClass (topS 85) 1
theorem scCoSay : FnScope ["self", "row"] ["self", "row"] (defScope sCoSay) := ⟨rfl, rfl, rfl, by decide +kernel, rfl, by decide +kernel, by decide +kernel⟩
set_option genInjectivity false
set_option genSizeOf false
set_option genSizeOfSpec false
/-- where the defs stand behind the top, and which names are still the built-in ones -/
structure Tx (K : PySem.W.Frag) (mg : Str → Option Value) where
  f_is_integer : Addr
  d_is_integer : FuncData
  f_is_within : Addr
  d_is_within : FuncData
  f_is_decimal : Addr
  d_is_decimal : FuncData
  f_fits_plant : Addr
  d_fits_plant : FuncData
  f_fits_station : Addr
  d_fits_station : FuncData
  f_fits_stock : Addr
  d_fits_stock : FuncData
  f_check_plant : Addr
  d_check_plant : FuncData
  f_check_station : Addr
  d_check_station : FuncData
  f_check_stock : Addr
  d_check_stock : FuncData
  f_check_days : Addr
  d_check_days : FuncData
  f_supplier_lists : Addr
  d_supplier_lists : FuncData
  f_run : Addr
  d_run : FuncData
  f_first_days : Addr
  d_first_days : FuncData
  f_pass_day : Addr
  d_pass_day : FuncData
  f_oldest_giver : Addr
  d_oldest_giver : FuncData
  c_oldest_giver : Addr
  P_oldest_giver : Addr
  f_days_until_ordered : Addr
  d_days_until_ordered : FuncData
  f_last_disorder : Addr
  d_last_disorder : FuncData
  f_days_to_order : Addr
  d_days_to_order : FuncData
  f_check_ordered : Addr
  d_check_ordered : FuncData
  f_word : Addr
  d_word : FuncData
  f_words_by_age : Addr
  d_words_by_age : FuncData
  c_words_by_age : Addr
  P_words_by_age : Addr
  f_ranks_by_words : Addr
  d_ranks_by_words : FuncData
  f_turned_words : Addr
  d_turned_words : FuncData
  f_turned : Addr
  d_turned : FuncData
  f_emptied_by_words : Addr
  d_emptied_by_words : FuncData
  f_times_given : Addr
  d_times_given : FuncData
  f_common_divisor : Addr
  d_common_divisor : FuncData
  f_cycle_length : Addr
  d_cycle_length : FuncData
  f_period_of : Addr
  d_period_of : FuncData
  f_length_of_cycle : Addr
  d_length_of_cycle : FuncData
  f_common_multiple : Addr
  d_common_multiple : FuncData
  f_maker_on : Addr
  d_maker_on : FuncData
  f_far_stock : Addr
  d_far_stock : FuncData
  f_far_chain : Addr
  d_far_chain : FuncData
  f_sold_on : Addr
  d_sold_on : FuncData
  f_sales_of_first : Addr
  d_sales_of_first : FuncData
  f_read_plant : Addr
  d_read_plant : FuncData
  f_check_text : Addr
  d_check_text : FuncData
  f_number_in : Addr
  d_number_in : FuncData
  f_say_day : Addr
  d_say_day : FuncData
  f_say_remove : Addr
  d_say_remove : FuncData
  f_say_undo : Addr
  d_say_undo : FuncData
  f_say_stock : Addr
  d_say_stock : FuncData
  f_say_wait : Addr
  d_say_wait : FuncData
  f_say_cycle : Addr
  d_say_cycle : FuncData
  f_say_sell : Addr
  d_say_sell : FuncData
  f_say_days : Addr
  d_say_days : FuncData
  f_say_add : Addr
  d_say_add : FuncData
  f_say_word : Addr
  d_say_word : FuncData
  f_say_sold : Addr
  d_say_sold : FuncData
  f_say_maker : Addr
  d_say_maker : FuncData
  f_spaced : Addr
  d_spaced : FuncData
  f_live_plant_of : Addr
  d_live_plant_of : FuncData
  f_answer : Addr
  d_answer : FuncData
  f_check_row : Addr
  d_check_row : FuncData
  f__law_fount : Addr
  d__law_fount : FuncData
  f__law_sip : Addr
  d__law_sip : FuncData
  f__law_mixed : Addr
  d__law_mixed : FuncData
  f__law_grown : Addr
  d__law_grown : FuncData
  f__law_filled : Addr
  d__law_filled : FuncData
  f__law_sold : Addr
  d__law_sold : FuncData
  f__law_days : Addr
  d__law_days : FuncData
  f__law_step : Addr
  d__law_step : FuncData
  f__law_operation : Addr
  d__law_operation : FuncData
  f__law_row : Addr
  d__law_row : FuncData
  f__law_text : Addr
  d__law_text : FuncData
  f__law_open : Addr
  d__law_open : FuncData
  f__law_opened : Addr
  d__law_opened : FuncData
  f__law_undone : Addr
  d__law_undone : FuncData
  t_MOST_STATIONS : Tok
  t_FARTHEST_DAY : Tok
  t_MOST_DAYS : Tok
  t_MOST_DIGITS_texts : Tok
  t_MOST_DIGITS_console : Tok
  t_DONE : Tok
  A_ALONE : Addr
  A_WITH_NUMBER : Addr
  x_PlantError : Addr
  x_NoPlant : Addr
  x_NoStation : Addr
  x_NoStock : Addr
  x_NoDays : Addr
  x_NotOrdered : Addr
  x_Full : Addr
  x_Nothing : Addr
  x_NoText : Addr
  x_NoRow : Addr
  x_LivePlant : Addr
  x_Console : Addr
  f_lv_init : Addr
  d_lv_init : FuncData
  f_lv_eq : Addr
  d_lv_eq : FuncData
  f_lv_len : Addr
  d_lv_len : FuncData
  f_lv_day : Addr
  d_lv_day : FuncData
  f_lv_days : Addr
  d_lv_days : FuncData
  f_lv_sell : Addr
  d_lv_sell : FuncData
  f_lv_add : Addr
  d_lv_add : FuncData
  f_lv_remove : Addr
  d_lv_remove : FuncData
  f_lv_undo : Addr
  d_lv_undo : FuncData
  f_lv_plant : Addr
  d_lv_plant : FuncData
  f_lv_stock : Addr
  d_lv_stock : FuncData
  f_lv_pull : Addr
  d_lv_pull : FuncData
  f_lv_change : Addr
  d_lv_change : FuncData
  f_co_init : Addr
  d_co_init : FuncData
  f_co_say : Addr
  d_co_say : FuncData
  F_lv_init : FunD K "__init__" "LivePlant.__init__" (defArgs sLvInit) (defBody sLvInit) (defScope sLvInit) [] [("stock", V.non)] f_lv_init d_lv_init
  v_lv_init : List Value
  V_lv_init : Vals [V.non] v_lv_init
  b_lv_init : Binds K d_lv_init ["self", "plant", "stock"] v_lv_init
  k_lv_init : KBn K d_lv_init ["self", "plant", "stock"] 2 ["stock"] (fun us ws => us ++ ws) (fun vs zs => vs ++ zs)
  M_lv_init : Meth K x_LivePlant "__init__" f_lv_init
  M_LivePlant : Mk K x_LivePlant f_lv_init
  F_lv_eq : Fun K "__eq__" "LivePlant.__eq__" sLvEq f_lv_eq d_lv_eq
  b_lv_eq : Binds K d_lv_eq ["self", "other"] []
  M_lv_eq : Meth K x_LivePlant "__eq__" f_lv_eq
  F_lv_len : Fun K "__len__" "LivePlant.__len__" sLvLen f_lv_len d_lv_len
  b_lv_len : Binds K d_lv_len ["self"] []
  M_lv_len : Meth K x_LivePlant "__len__" f_lv_len
  F_lv_day : Fun K "day" "LivePlant.day" sLvDay f_lv_day d_lv_day
  b_lv_day : Binds K d_lv_day ["self"] []
  M_lv_day : Meth K x_LivePlant "day" f_lv_day
  F_lv_days : Fun K "days" "LivePlant.days" sLvDays f_lv_days d_lv_days
  b_lv_days : Binds K d_lv_days ["self", "days"] []
  M_lv_days : Meth K x_LivePlant "days" f_lv_days
  F_lv_sell : Fun K "sell" "LivePlant.sell" sLvSell f_lv_sell d_lv_sell
  b_lv_sell : Binds K d_lv_sell ["self", "station"] []
  M_lv_sell : Meth K x_LivePlant "sell" f_lv_sell
  F_lv_add : Fun K "add" "LivePlant.add" sLvAdd f_lv_add d_lv_add
  b_lv_add : Binds K d_lv_add ["self", "station"] []
  M_lv_add : Meth K x_LivePlant "add" f_lv_add
  F_lv_remove : Fun K "remove" "LivePlant.remove" sLvRemove f_lv_remove d_lv_remove
  b_lv_remove : Binds K d_lv_remove ["self"] []
  M_lv_remove : Meth K x_LivePlant "remove" f_lv_remove
  F_lv_undo : Fun K "undo" "LivePlant.undo" sLvUndo f_lv_undo d_lv_undo
  b_lv_undo : Binds K d_lv_undo ["self"] []
  M_lv_undo : Meth K x_LivePlant "undo" f_lv_undo
  F_lv_plant : Fun K "plant" "LivePlant.plant" sLvPlant f_lv_plant d_lv_plant
  b_lv_plant : Binds K d_lv_plant ["self"] []
  M_lv_plant : Meth K x_LivePlant "plant" f_lv_plant
  F_lv_stock : Fun K "stock" "LivePlant.stock" sLvStock f_lv_stock d_lv_stock
  b_lv_stock : Binds K d_lv_stock ["self"] []
  M_lv_stock : Meth K x_LivePlant "stock" f_lv_stock
  F_lv_pull : Fun K "pull" "LivePlant.pull" sLvPull f_lv_pull d_lv_pull
  b_lv_pull : Binds K d_lv_pull ["self", "operation", "first"] []
  M_lv_pull : Meth K x_LivePlant "pull" f_lv_pull
  F_lv_change : Fun K "change" "LivePlant.change" sLvChange f_lv_change d_lv_change
  b_lv_change : Binds K d_lv_change ["self", "operation", "customers", "boxes"] []
  M_lv_change : Meth K x_LivePlant "change" f_lv_change
  F_co_init : Fun K "__init__" "Console.__init__" sCoInit f_co_init d_co_init
  b_co_init : Binds K d_co_init ["self"] []
  M_co_init : Meth K x_Console "__init__" f_co_init
  M_Console : Mk K x_Console f_co_init
  F_co_say : Fun K "say" "Console.say" sCoSay f_co_say d_co_say
  b_co_say : Binds K d_co_say ["self", "row"] []
  M_co_say : Meth K x_Console "say" f_co_say
  g_LivePlant : mg "LivePlant" = some (.ref x_LivePlant)
  C_LivePlant : Cls K x_LivePlant
  I_LivePlant : IsC K x_LivePlant
  N_LivePlant : (["NoneType", "bool", "int", "str", "list", "tuple", "dict"].all fun n => PySem.W.kitOne K (.type n) (.ref x_LivePlant) == some false) = true
  a_customers : NoAttr K x_LivePlant "customers"
  a_boxes : NoAttr K x_LivePlant "boxes"
  a_past : NoAttr K x_LivePlant "past"
  g_Console : mg "Console" = some (.ref x_Console)
  C_Console : Cls K x_Console
  I_Console : IsC K x_Console
  N_Console : (["NoneType", "bool", "int", "str", "list", "tuple", "dict"].all fun n => PySem.W.kitOne K (.type n) (.ref x_Console) == some false) = true
  a_live : NoAttr K x_Console "live"
  F_is_integer : Fun K "is_integer" "is_integer" sIsInteger f_is_integer d_is_integer
  b_is_integer : Binds K d_is_integer ["value"] []
  g_is_integer : mg "is_integer" = some (.ref f_is_integer)
  F_is_within : Fun K "is_within" "is_within" sIsWithin f_is_within d_is_within
  b_is_within : Binds K d_is_within ["value", "least", "most"] []
  g_is_within : mg "is_within" = some (.ref f_is_within)
  F_is_decimal : Fun K "is_decimal" "is_decimal" sIsDecimal f_is_decimal d_is_decimal
  b_is_decimal : Binds K d_is_decimal ["text", "most"] []
  g_is_decimal : mg "is_decimal" = some (.ref f_is_decimal)
  F_fits_plant : Fun K "fits_plant" "fits_plant" sFitsPlant f_fits_plant d_fits_plant
  b_fits_plant : Binds K d_fits_plant ["value"] []
  g_fits_plant : mg "fits_plant" = some (.ref f_fits_plant)
  F_fits_station : Fun K "fits_station" "fits_station" sFitsStation f_fits_station d_fits_station
  b_fits_station : Binds K d_fits_station ["plant", "value"] []
  g_fits_station : mg "fits_station" = some (.ref f_fits_station)
  F_fits_stock : Fun K "fits_stock" "fits_stock" sFitsStock f_fits_stock d_fits_stock
  b_fits_stock : Binds K d_fits_stock ["plant", "value"] []
  g_fits_stock : mg "fits_stock" = some (.ref f_fits_stock)
  F_check_plant : Fun K "check_plant" "check_plant" sCheckPlant f_check_plant d_check_plant
  b_check_plant : Binds K d_check_plant ["plant"] []
  g_check_plant : mg "check_plant" = some (.ref f_check_plant)
  F_check_station : Fun K "check_station" "check_station" sCheckStation f_check_station d_check_station
  b_check_station : Binds K d_check_station ["plant", "station"] []
  g_check_station : mg "check_station" = some (.ref f_check_station)
  F_check_stock : Fun K "check_stock" "check_stock" sCheckStock f_check_stock d_check_stock
  b_check_stock : Binds K d_check_stock ["plant", "stock"] []
  g_check_stock : mg "check_stock" = some (.ref f_check_stock)
  F_check_days : Fun K "check_days" "check_days" sCheckDays f_check_days d_check_days
  b_check_days : Binds K d_check_days ["days", "least", "most"] []
  g_check_days : mg "check_days" = some (.ref f_check_days)
  F_supplier_lists : Fun K "supplier_lists" "supplier_lists" sSupplierLists f_supplier_lists d_supplier_lists
  b_supplier_lists : Binds K d_supplier_lists ["plant"] []
  g_supplier_lists : mg "supplier_lists" = some (.ref f_supplier_lists)
  F_run : Fun K "run" "run" sRun f_run d_run
  b_run : Binds K d_run ["plant", "stock", "days"] []
  g_run : mg "run" = some (.ref f_run)
  F_first_days : Fun K "first_days" "first_days" sFirstDays f_first_days d_first_days
  b_first_days : Binds K d_first_days ["plant", "stock", "days"] []
  g_first_days : mg "first_days" = some (.ref f_first_days)
  F_pass_day : FunD K "pass_day" "pass_day" (defArgs sPassDay) (defBody sPassDay) (defScope sPassDay) [.int 0] [] f_pass_day d_pass_day
  v_pass_day : List Value
  V_pass_day : Vals [.int 0] v_pass_day
  b_pass_day : Binds K d_pass_day ["givers", "boxes", "first"] v_pass_day
  w_pass_day : Binds K d_pass_day ["givers", "boxes", "first"] []
  g_pass_day : mg "pass_day" = some (.ref f_pass_day)
  F_oldest_giver : Fun K "oldest_giver" "oldest_giver" sOldestGiver f_oldest_giver d_oldest_giver
  C_oldest_giver : FunC K "oldest_giver" "oldest_giver" sOldestGiver f_oldest_giver d_oldest_giver c_oldest_giver
  b_oldest_giver : Binds K d_oldest_giver ["stations", "boxes"] []
  g_oldest_giver : mg "oldest_giver" = some (.ref f_oldest_giver)
  F_days_until_ordered : Fun K "days_until_ordered" "days_until_ordered" sDaysUntilOrdered f_days_until_ordered d_days_until_ordered
  b_days_until_ordered : Binds K d_days_until_ordered ["plant", "stock"] []
  g_days_until_ordered : mg "days_until_ordered" = some (.ref f_days_until_ordered)
  F_last_disorder : Fun K "last_disorder" "last_disorder" sLastDisorder f_last_disorder d_last_disorder
  b_last_disorder : Binds K d_last_disorder ["plant", "boxes"] []
  g_last_disorder : mg "last_disorder" = some (.ref f_last_disorder)
  F_days_to_order : Fun K "days_to_order" "days_to_order" sDaysToOrder f_days_to_order d_days_to_order
  b_days_to_order : Binds K d_days_to_order ["plant", "stock"] []
  g_days_to_order : mg "days_to_order" = some (.ref f_days_to_order)
  F_check_ordered : Fun K "check_ordered" "check_ordered" sCheckOrdered f_check_ordered d_check_ordered
  b_check_ordered : Binds K d_check_ordered ["plant", "stock"] []
  g_check_ordered : mg "check_ordered" = some (.ref f_check_ordered)
  F_word : Fun K "word" "word" sWord f_word d_word
  b_word : Binds K d_word ["plant", "stock", "station"] []
  g_word : mg "word" = some (.ref f_word)
  F_words_by_age : Fun K "words_by_age" "words_by_age" sWordsByAge f_words_by_age d_words_by_age
  C_words_by_age : FunC K "words_by_age" "words_by_age" sWordsByAge f_words_by_age d_words_by_age c_words_by_age
  b_words_by_age : Binds K d_words_by_age ["plant", "stock"] []
  g_words_by_age : mg "words_by_age" = some (.ref f_words_by_age)
  F_ranks_by_words : Fun K "ranks_by_words" "ranks_by_words" sRanksByWords f_ranks_by_words d_ranks_by_words
  b_ranks_by_words : Binds K d_ranks_by_words ["words"] []
  g_ranks_by_words : mg "ranks_by_words" = some (.ref f_ranks_by_words)
  F_turned_words : Fun K "turned_words" "turned_words" sTurnedWords f_turned_words d_turned_words
  b_turned_words : Binds K d_turned_words ["plant", "words", "days"] []
  g_turned_words : mg "turned_words" = some (.ref f_turned_words)
  F_turned : Fun K "turned" "turned" sTurned f_turned d_turned
  b_turned : Binds K d_turned ["letters", "many"] []
  g_turned : mg "turned" = some (.ref f_turned)
  F_emptied_by_words : Fun K "emptied_by_words" "emptied_by_words" sEmptiedByWords f_emptied_by_words d_emptied_by_words
  b_emptied_by_words : Binds K d_emptied_by_words ["plant", "words", "days"] []
  g_emptied_by_words : mg "emptied_by_words" = some (.ref f_emptied_by_words)
  F_times_given : Fun K "times_given" "times_given" sTimesGiven f_times_given d_times_given
  b_times_given : Binds K d_times_given ["letters", "supplier", "many"] []
  g_times_given : mg "times_given" = some (.ref f_times_given)
  F_common_divisor : Fun K "common_divisor" "common_divisor" sCommonDivisor f_common_divisor d_common_divisor
  b_common_divisor : Binds K d_common_divisor ["one", "other"] []
  g_common_divisor : mg "common_divisor" = some (.ref f_common_divisor)
  F_cycle_length : Fun K "cycle_length" "cycle_length" sCycleLength f_cycle_length d_cycle_length
  b_cycle_length : Binds K d_cycle_length ["plant", "stock"] []
  g_cycle_length : mg "cycle_length" = some (.ref f_cycle_length)
  F_period_of : Fun K "period_of" "period_of" sPeriodOf f_period_of d_period_of
  b_period_of : Binds K d_period_of ["letters"] []
  g_period_of : mg "period_of" = some (.ref f_period_of)
  F_length_of_cycle : Fun K "length_of_cycle" "length_of_cycle" sLengthOfCycle f_length_of_cycle d_length_of_cycle
  b_length_of_cycle : Binds K d_length_of_cycle ["plant", "stock"] []
  g_length_of_cycle : mg "length_of_cycle" = some (.ref f_length_of_cycle)
  F_common_multiple : Fun K "common_multiple" "common_multiple" sCommonMultiple f_common_multiple d_common_multiple
  b_common_multiple : Binds K d_common_multiple ["one", "other"] []
  g_common_multiple : mg "common_multiple" = some (.ref f_common_multiple)
  F_maker_on : Fun K "maker_on" "maker_on" sMakerOn f_maker_on d_maker_on
  b_maker_on : Binds K d_maker_on ["plant", "stock", "day"] []
  g_maker_on : mg "maker_on" = some (.ref f_maker_on)
  F_far_stock : Fun K "far_stock" "far_stock" sFarStock f_far_stock d_far_stock
  b_far_stock : Binds K d_far_stock ["plant", "stock", "days"] []
  g_far_stock : mg "far_stock" = some (.ref f_far_stock)
  F_far_chain : Fun K "far_chain" "far_chain" sFarChain f_far_chain d_far_chain
  b_far_chain : Binds K d_far_chain ["plant", "stock", "day"] []
  g_far_chain : mg "far_chain" = some (.ref f_far_chain)
  F_sold_on : Fun K "sold_on" "sold_on" sSoldOn f_sold_on d_sold_on
  b_sold_on : Binds K d_sold_on ["plant", "stock", "day"] []
  g_sold_on : mg "sold_on" = some (.ref f_sold_on)
  F_sales_of_first : Fun K "sales_of_first" "sales_of_first" sSalesOfFirst f_sales_of_first d_sales_of_first
  b_sales_of_first : Binds K d_sales_of_first ["plant", "stock"] []
  g_sales_of_first : mg "sales_of_first" = some (.ref f_sales_of_first)
  F_read_plant : Fun K "read_plant" "read_plant" sReadPlant f_read_plant d_read_plant
  b_read_plant : Binds K d_read_plant ["text"] []
  g_read_plant : mg "read_plant" = some (.ref f_read_plant)
  F_check_text : Fun K "check_text" "check_text" sCheckText f_check_text d_check_text
  b_check_text : Binds K d_check_text ["holds"] []
  g_check_text : mg "check_text" = some (.ref f_check_text)
  F_number_in : Fun K "number_in" "number_in" sNumberIn f_number_in d_number_in
  b_number_in : Binds K d_number_in ["text"] []
  g_number_in : mg "number_in" = some (.ref f_number_in)
  F_say_day : Fun K "say_day" "say_day" sSayDay f_say_day d_say_day
  b_say_day : Binds K d_say_day ["live"] []
  g_say_day : mg "say_day" = some (.ref f_say_day)
  F_say_remove : Fun K "say_remove" "say_remove" sSayRemove f_say_remove d_say_remove
  b_say_remove : Binds K d_say_remove ["live"] []
  g_say_remove : mg "say_remove" = some (.ref f_say_remove)
  F_say_undo : Fun K "say_undo" "say_undo" sSayUndo f_say_undo d_say_undo
  b_say_undo : Binds K d_say_undo ["live"] []
  g_say_undo : mg "say_undo" = some (.ref f_say_undo)
  F_say_stock : Fun K "say_stock" "say_stock" sSayStock f_say_stock d_say_stock
  b_say_stock : Binds K d_say_stock ["live"] []
  g_say_stock : mg "say_stock" = some (.ref f_say_stock)
  F_say_wait : Fun K "say_wait" "say_wait" sSayWait f_say_wait d_say_wait
  b_say_wait : Binds K d_say_wait ["live"] []
  g_say_wait : mg "say_wait" = some (.ref f_say_wait)
  F_say_cycle : Fun K "say_cycle" "say_cycle" sSayCycle f_say_cycle d_say_cycle
  b_say_cycle : Binds K d_say_cycle ["live"] []
  g_say_cycle : mg "say_cycle" = some (.ref f_say_cycle)
  F_say_sell : Fun K "say_sell" "say_sell" sSaySell f_say_sell d_say_sell
  b_say_sell : Binds K d_say_sell ["live", "station"] []
  g_say_sell : mg "say_sell" = some (.ref f_say_sell)
  F_say_days : Fun K "say_days" "say_days" sSayDays f_say_days d_say_days
  b_say_days : Binds K d_say_days ["live", "many"] []
  g_say_days : mg "say_days" = some (.ref f_say_days)
  F_say_add : Fun K "say_add" "say_add" sSayAdd f_say_add d_say_add
  b_say_add : Binds K d_say_add ["live", "station"] []
  g_say_add : mg "say_add" = some (.ref f_say_add)
  F_say_word : Fun K "say_word" "say_word" sSayWord f_say_word d_say_word
  b_say_word : Binds K d_say_word ["live", "station"] []
  g_say_word : mg "say_word" = some (.ref f_say_word)
  F_say_sold : Fun K "say_sold" "say_sold" sSaySold f_say_sold d_say_sold
  b_say_sold : Binds K d_say_sold ["live", "day"] []
  g_say_sold : mg "say_sold" = some (.ref f_say_sold)
  F_say_maker : Fun K "say_maker" "say_maker" sSayMaker f_say_maker d_say_maker
  b_say_maker : Binds K d_say_maker ["live", "day"] []
  g_say_maker : mg "say_maker" = some (.ref f_say_maker)
  F_spaced : Fun K "spaced" "spaced" sSpaced f_spaced d_spaced
  b_spaced : Binds K d_spaced ["numbers"] []
  g_spaced : mg "spaced" = some (.ref f_spaced)
  F_live_plant_of : Fun K "live_plant_of" "live_plant_of" sLivePlantOf f_live_plant_of d_live_plant_of
  b_live_plant_of : Binds K d_live_plant_of ["text"] []
  g_live_plant_of : mg "live_plant_of" = some (.ref f_live_plant_of)
  F_answer : Fun K "answer" "answer" sAnswer f_answer d_answer
  b_answer : Binds K d_answer ["live", "parts"] []
  g_answer : mg "answer" = some (.ref f_answer)
  F_check_row : Fun K "check_row" "check_row" sCheckRow f_check_row d_check_row
  b_check_row : Binds K d_check_row ["holds"] []
  g_check_row : mg "check_row" = some (.ref f_check_row)
  F__law_fount : Fun K "_law_fount" "_law_fount" sLawFount f__law_fount d__law_fount
  b__law_fount : Binds K d__law_fount ["script", "k"] []
  g__law_fount : mg "_law_fount" = some (.ref f__law_fount)
  F__law_sip : Fun K "_law_sip" "_law_sip" sLawSip f__law_sip d__law_sip
  b__law_sip : Binds K d__law_sip ["fount", "many"] []
  g__law_sip : mg "_law_sip" = some (.ref f__law_sip)
  F__law_mixed : Fun K "_law_mixed" "_law_mixed" sLawMixed f__law_mixed d__law_mixed
  b__law_mixed : Binds K d__law_mixed ["fount", "items"] []
  g__law_mixed : mg "_law_mixed" = some (.ref f__law_mixed)
  F__law_grown : Fun K "_law_grown" "_law_grown" sLawGrown f__law_grown d__law_grown
  b__law_grown : Binds K d__law_grown ["fount", "most"] []
  g__law_grown : mg "_law_grown" = some (.ref f__law_grown)
  F__law_filled : Fun K "_law_filled" "_law_filled" sLawFilled f__law_filled d__law_filled
  b__law_filled : Binds K d__law_filled ["fount", "plant"] []
  g__law_filled : mg "_law_filled" = some (.ref f__law_filled)
  F__law_sold : Fun K "_law_sold" "_law_sold" sLawSold f__law_sold d__law_sold
  b__law_sold : Binds K d__law_sold ["plant", "boxes", "station"] []
  g__law_sold : mg "_law_sold" = some (.ref f__law_sold)
  F__law_days : Fun K "_law_days" "_law_days" sLawDays f__law_days d__law_days
  b__law_days : Binds K d__law_days ["plant", "boxes", "many"] []
  g__law_days : mg "_law_days" = some (.ref f__law_days)
  F__law_step : Fun K "_law_step" "_law_step" sLawStep f__law_step d__law_step
  b__law_step : Binds K d__law_step ["state", "operation"] []
  g__law_step : mg "_law_step" = some (.ref f__law_step)
  F__law_operation : Fun K "_law_operation" "_law_operation" sLawOperation f__law_operation d__law_operation
  b__law_operation : Binds K d__law_operation ["fount", "state", "most", "great"] []
  g__law_operation : mg "_law_operation" = some (.ref f__law_operation)
  F__law_row : Fun K "_law_row" "_law_row" sLawRow f__law_row d__law_row
  b__law_row : Binds K d__law_row ["operation"] []
  g__law_row : mg "_law_row" = some (.ref f__law_row)
  F__law_text : Fun K "_law_text" "_law_text" sLawText f__law_text d__law_text
  b__law_text : Binds K d__law_text ["plant", "boxes"] []
  g__law_text : mg "_law_text" = some (.ref f__law_text)
  F__law_open : Fun K "_law_open" "_law_open" sLawOpen f__law_open d__law_open
  b__law_open : Binds K d__law_open ["plant", "boxes"] []
  g__law_open : mg "_law_open" = some (.ref f__law_open)
  F__law_opened : Fun K "_law_opened" "_law_opened" sLawOpened f__law_opened d__law_opened
  b__law_opened : Binds K d__law_opened ["fount", "console"] []
  g__law_opened : mg "_law_opened" = some (.ref f__law_opened)
  F__law_undone : Fun K "_law_undone" "_law_undone" sLawUndone f__law_undone d__law_undone
  b__law_undone : Binds K d__law_undone ["console", "states"] []
  g__law_undone : mg "_law_undone" = some (.ref f__law_undone)
  g_MOST_STATIONS : mg "MOST_STATIONS" = some (.int 40 t_MOST_STATIONS)
  g_FARTHEST_DAY : mg "FARTHEST_DAY" = some (.int 1000000000000000000000000000000 t_FARTHEST_DAY)
  g_MOST_DAYS : mg "MOST_DAYS" = some (.int 2000 t_MOST_DAYS)
  g_MOST_DIGITS_texts : mg "MOST_DIGITS_texts" = some (.int 40 t_MOST_DIGITS_texts)
  g_MOST_DIGITS_console : mg "MOST_DIGITS_console" = some (.int 31 t_MOST_DIGITS_console)
  g_DONE : mg "DONE" = some (.str "ok" t_DONE)
  g_ALONE : mg "ALONE" = some (.ref A_ALONE)
  y_ALONE_day : PySem.W.nsIn K A_ALONE "day" = some (some (.ref f_say_day))
  y_ALONE_remove : PySem.W.nsIn K A_ALONE "remove" = some (some (.ref f_say_remove))
  y_ALONE_undo : PySem.W.nsIn K A_ALONE "undo" = some (some (.ref f_say_undo))
  y_ALONE_stock : PySem.W.nsIn K A_ALONE "stock" = some (some (.ref f_say_stock))
  y_ALONE_wait : PySem.W.nsIn K A_ALONE "wait" = some (some (.ref f_say_wait))
  y_ALONE_cycle : PySem.W.nsIn K A_ALONE "cycle" = some (some (.ref f_say_cycle))
  g_WITH_NUMBER : mg "WITH_NUMBER" = some (.ref A_WITH_NUMBER)
  y_WITH_NUMBER_sell : PySem.W.nsIn K A_WITH_NUMBER "sell" = some (some (.ref f_say_sell))
  y_WITH_NUMBER_days : PySem.W.nsIn K A_WITH_NUMBER "days" = some (some (.ref f_say_days))
  y_WITH_NUMBER_add : PySem.W.nsIn K A_WITH_NUMBER "add" = some (some (.ref f_say_add))
  y_WITH_NUMBER_word : PySem.W.nsIn K A_WITH_NUMBER "word" = some (some (.ref f_say_word))
  y_WITH_NUMBER_sold : PySem.W.nsIn K A_WITH_NUMBER "sold" = some (some (.ref f_say_sold))
  y_WITH_NUMBER_maker : PySem.W.nsIn K A_WITH_NUMBER "maker" = some (some (.ref f_say_maker))
  n_all : mg "all" = none
  n_bool : mg "bool" = none
  n_divmod : mg "divmod" = none
  n_enumerate : mg "enumerate" = none
  n_int : mg "int" = none
  n_isinstance : mg "isinstance" = none
  n_len : mg "len" = none
  n_list : mg "list" = none
  n_max : mg "max" = none
  n_min : mg "min" = none
  n_range : mg "range" = none
  n_set : mg "set" = none
  n_sorted : mg "sorted" = none
  n_str : mg "str" = none
  n_tuple : mg "tuple" = none
  n_zip : mg "zip" = none
  X_PlantError : ExcC K mg "PlantError" x_PlantError
  X_NoPlant : ExcC K mg "NoPlant" x_NoPlant
  X_NoStation : ExcC K mg "NoStation" x_NoStation
  X_NoStock : ExcC K mg "NoStock" x_NoStock
  X_NoDays : ExcC K mg "NoDays" x_NoDays
  X_NotOrdered : ExcC K mg "NotOrdered" x_NotOrdered
  X_Full : ExcC K mg "Full" x_Full
  X_Nothing : ExcC K mg "Nothing" x_Nothing
  X_NoText : ExcC K mg "NoText" x_NoText
  X_NoRow : ExcC K mg "NoRow" x_NoRow
  E_all : Errs K x_PlantError [x_NoPlant, x_NoStation, x_NoStock, x_NoDays, x_NotOrdered, x_Full, x_Nothing, x_NoText, x_NoRow]
  E_nothing : PySem.W.exmOne K (.ref x_Nothing) (.ref x_Nothing) = some true
  q_oldest_giver_words_by_age : P_oldest_giver ≠ P_words_by_age
/-- the tables that grow -/
abbrev Tx.tabW {K : PySem.W.Frag} {mg : Str → Option Value} (T : Tx K mg) : List (Addr × Str) := [(T.P_oldest_giver, ("oldest_giver" : Str) ++ ".<locals>." ++ "<lambda>"), (T.P_words_by_age, ("words_by_age" : Str) ++ ".<locals>." ++ "<lambda>")]
theorem Tx.memW_oldest_giver {K : PySem.W.Frag} {mg : Str → Option Value} (T : Tx K mg) : (T.P_oldest_giver, ("oldest_giver" : Str) ++ ".<locals>." ++ "<lambda>") ∈ T.tabW := by simp [Tx.tabW]
theorem Tx.uniW_oldest_giver {K : PySem.W.Frag} {mg : Str → Option Value} (T : Tx K mg) : ∀ z ∈ T.tabW, z.1 = T.P_oldest_giver → z.2 = ("oldest_giver" : Str) ++ ".<locals>." ++ "<lambda>" := by
  intro z hz e
  simp only [Tx.tabW, List.mem_cons, List.not_mem_nil, or_false] at hz
  rcases hz with rfl | rfl
  · rfl
  · exact absurd e.symm T.q_oldest_giver_words_by_age
theorem Tx.memW_words_by_age {K : PySem.W.Frag} {mg : Str → Option Value} (T : Tx K mg) : (T.P_words_by_age, ("words_by_age" : Str) ++ ".<locals>." ++ "<lambda>") ∈ T.tabW := by simp [Tx.tabW]
theorem Tx.uniW_words_by_age {K : PySem.W.Frag} {mg : Str → Option Value} (T : Tx K mg) : ∀ z ∈ T.tabW, z.1 = T.P_words_by_age → z.2 = ("words_by_age" : Str) ++ ".<locals>." ++ "<lambda>" := by
  intro z hz e
  simp only [Tx.tabW, List.mem_cons, List.not_mem_nil, or_false] at hz
  rcases hz with rfl | rfl
  · exact absurd e T.q_oldest_giver_words_by_age
  · rfl
/-- written dicts of defs -/
structure TxD {K : PySem.W.Frag} {mg : Str → Option Value} (w : World) (T : Tx K mg) : Prop where
  D_ALONE : ∃ es n, L2.KDict K w T.A_ALONE es n
  D_WITH_NUMBER : ∃ es n, L2.KDict K w T.A_WITH_NUMBER es n
/-- all classes of errors, in their order -/
abbrev Tx.errs {K : PySem.W.Frag} {mg : Str → Option Value} (T : Tx K mg) : List Addr := [T.x_NoPlant, T.x_NoStation, T.x_NoStock, T.x_NoDays, T.x_NotOrdered, T.x_Full, T.x_Nothing, T.x_NoText, T.x_NoRow]
end PT


set_option maxHeartbeats 4000000
/-! the checks of the program -/
namespace PT
open PySem PySem.Spec PyProof.Rows L2

theorem FitsIs.kd {H : Hp} {v : V} {r : Bool} (h : FitsIs H v r) : ∃ n, Kd H v n := by
  cases h with
  | no k _ => exact ⟨_, k⟩
  | tup a _ _ => exact ⟨_, .tup a⟩
theorem fitsV_no {xs : List V} {i : Nat} {x : V} (h : xs[i]? = some x) (c : okV 0 (i : Nat) x = false) : fitsV xs = false := by
  unfold fitsV
  have e := okVs_at h
  rw [c] at e
  have z : (okVs xs).all id = false := by
    rw [List.all_eq_false]
    exact ⟨false, List.mem_of_getElem? e, by decide⟩
  rw [z, Bool.and_false]
theorem okVs_next {xs : List V} {i : Nat} {x : V} (h : xs[i]? = some x) (a : ((okVs xs).take i).all id = true) (c : okV 0 (i : Nat) x = true) : ((okVs xs).take (i + 1)).all id = true := by
  rw [take_next (okVs_at h), List.all_append, a, c]
  rfl
section
variable {P : Program} {w : World} {K : PySem.W.Frag} {mg : Str → Option Value} {base : Heap}
def spIsInteger : Sp := fun vs H Q _ => ∃ v n, vs = [v] ∧ Kd H v n ∧ Q (.bl (isI v)) H
theorem Tx.isInteger (T : Tx K mg) {k : Nat} : FnOk P w K mg base CX0 (k + 1) T.f_is_integer T.d_is_integer ["value"] spIsInteger := by
  refine T.F_is_integer.ok scIsInteger (fun vs H Q E h => ?_) (fun cdv A outer s H vs Q E hr h => ?_)
  · obtain ⟨v, n, rfl, _⟩ := h
    rfl
  · obtain ⟨v, n, rfl, hk, q⟩ := h
    refine ⟨_, pss_one (ps_ret (pe_and (pe_callB call_isi (by rfl) T.n_isinstance (by decide +kernel) (pa_cons (pv 0) (pa_cons (pe_bltn (v := .ty "int") (by rfl) T.n_int (by decide +kernel) rfl) pa_nil)))
      (pe_one (pe_not (pe_callB call_isi (by rfl) T.n_isinstance (by decide +kernel) (pa_cons (pv 0) (pa_cons (pe_bltn (v := .ty "bool") (by rfl) T.n_bool (by decide +kernel) rfl) pa_nil))))))), ?_⟩
    refine ⟨v, rfl, v, .ty "int", _, _, _, rfl, .ty _, hk.tyx, kd_int hk, _, rfl, ?_⟩
    refine ite2 (fun e => ⟨v, rfl, v, .ty "bool", _, _, _, rfl, .ty _, hk.tyx, kd_bool hk, _, rfl, ?_⟩) fun e => ?_
    · cases v <;> first | exact q | (simp [isI, isB] at e)
    · cases v <;> first | exact q | (simp [isI, isB] at e)
def spIsWithin : Sp := fun vs H Q _ => ∃ v n lo hi, vs = [v, .int lo, .int hi] ∧ Kd H v n ∧ Q (.bl (okV lo hi v)) H
theorem Tx.isWithin (T : Tx K mg) {k : Nat} : FnOk P w K mg base CX0 (k + 2) T.f_is_within T.d_is_within ["value", "least", "most"] spIsWithin := by
  refine T.F_is_within.ok scIsWithin (fun vs H Q E h => ?_) (fun cdv A outer s H vs Q E hr h => ?_)
  · obtain ⟨v, n, lo, hi, rfl, _⟩ := h
    rfl
  · obtain ⟨v, n, lo, hi, rfl, hk, q⟩ := h
    refine ⟨_, pss_one (ps_ret (pe_and (pe_call T.isInteger hr (by rfl) T.g_is_integer T.F_is_integer.kp T.b_is_integer .nil pass0 (pa_cons (pv 0) pa_nil)) (pe_one (pe_chain op_le op_le (pv 1) (pv 0) (pv 2))))), ?_⟩
    refine ⟨v, rfl, v, n, rfl, hk, _, rfl, ?_⟩
    refine ite2 (fun e => ?_) fun e => ?_
    · cases v with
      | int j =>
        refine ⟨_, rfl, _, rfl, lo, j, rfl, rfl, _, rfl, ite2 (fun e1 => ⟨_, rfl, j, hi, rfl, rfl, ?_⟩) fun e1 => ?_⟩
        · show Q (.bl (decide (j ≤ hi))) H
          have e2 : okV lo hi (.int j) = decide (j ≤ hi) := by
            show (decide (lo ≤ j) && decide (j ≤ hi)) = _
            rw [e1, Bool.true_and]
          rw [← e2]
          exact q
        · show Q (.bl false) H
          have e2 : okV lo hi (.int j) = false := by
            show (decide (lo ≤ j) && decide (j ≤ hi)) = _
            rw [eq_false_of_ne_true e1, Bool.false_and]
          rw [← e2]
          exact q
      | _ => simp [isI] at e
    · cases v with
      | int j => exact absurd rfl e
      | _ => exact q
/-! ### fits_plant -/
def spFits : Sp := fun vs H Q _ => ∃ v r, vs = [v] ∧ FitsIs H v r ∧ ∀ H', Same H H' → Q (.bl r) H'
theorem Tx.fits (T : Tx K mg) {k : Nat} : FnOk P w K mg base CX0 (k + 1) T.f_fits_plant T.d_fits_plant ["value"] spFits := by
  refine T.F_fits_plant.ok scFitsPlant (fun vs H Q E h => ?_) (fun cdv A outer s H vs Q E hr h => ?_)
  · obtain ⟨v, r, rfl, _⟩ := h
    rfl
  · obtain ⟨v, r, rfl, hf, q⟩ := h
    have nd := scFitsPlant.nd
    refine ⟨_, pss_cons (ps_if (PW.pt (pw_or (pt_not (pt_val (pe_callB call_isi (by rfl) T.n_isinstance (by decide +kernel) (pa_cons (pv 0) (pa_cons (pe_bltn (v := .ty "tuple") (by rfl) T.n_tuple (by decide +kernel) rfl) pa_nil)))))
        (pw_or1 (pt_cmpR op_ge (pe_callB call_len_seq (by rfl) T.n_len PySem.boot_len (pa_cons (pv 0) pa_nil)) (pe_glob (v := .int 40) rfl T.g_MOST_STATIONS ⟨_, rfl⟩) (nomark _)))))
        (pss_one (ps_ret pe_bl)) pss_nil)
      (pss_cons (ps_set (i := 1) nd rfl (.inl rfl) pe_int)
      (pss_cons (ps_for PassesOwn.never rfl (pi_tup (pv 0)) (pg_name (i := 2) nd rfl (.inl rfl))
        (pss_cons (ps_if (PW.pt (pw_or (pt_not (pt_val (pe_callB call_isi (by rfl) T.n_isinstance (by decide +kernel) (pa_cons (pv 2) (pa_cons (pe_bltn (v := .ty "int") (by rfl) T.n_int (by decide +kernel) rfl) pa_nil)))))
            (pw_or (pt_cmpR op_isK (pv 2) pe_bl (nomark _)) (pw_or (pt_cmpR op_isK (pv 2) pe_bl (nomark _)) (pw_or (pt_cmpR op_lt (pv 2) pe_int (nomark _)) (pw_or1 (pt_cmpR op_gt (pv 2) (pv 1) (nomark _))))))))
          (pss_one (ps_ret pe_bl)) pss_nil)
        (pss_one (ps_aug (i := 1) nd rfl (.inl rfl) pe_int ip_add))))
      (pss_one (ps_ret pe_bl)))), ?_⟩
    cases hf with
    | no hk hn =>
      refine ⟨_, rfl, _, .ty "tuple", _, _, _, rfl, .ty _, hk.tyx, kd_tuple hk, _, rfl, ?_⟩
      rw [show (_ == "tuple") = false from beq_eq_false_iff_ne.mpr hn]
      exact iteT (iteT (q _ (Same.refl H)))
    | @tup a xs ha hl hx =>
      refine ⟨_, rfl, _, .ty "tuple", _, _, _, rfl, .ty _, (Kd.tup ha).tyx, kd_tuple (.tup ha), _, rfl, ?_⟩
      have hT : SqT K H a xs := .inl (.inl ha)
      refine iteF ⟨_, rfl, a, xs, rfl, .inr hT, (xs.length : Int), 40, rfl, rfl, _, rfl, ite2 (fun e => ?_) fun e => ?_⟩
      · have z : fitsV xs = false := by
          unfold fitsV
          rw [decide_eq_false (by have := of_decide_eq_true e; omega), Bool.false_and]
        rw [z] at q
        exact q _ (Same.refl H)
      · have lt : xs.length < 40 := by
          have := of_decide_eq_false (eq_false_of_ne_true e)
          omega
        have z : fitsV xs = (okVs xs).all id := by
          unfold fitsV
          rw [decide_eq_true lt, Bool.true_and]
        refine ⟨_, rfl, a, rfl, ⟨_, hT⟩, ?_⟩
        refine for_tup (xs := xs) (fun i σ H' => H' = H ∧ ((okVs xs).take i).all id = true ∧ ∃ o, σ = [some (.ref a), some (.int (i : Nat)), o]) ⟨rfl, rfl, none, rfl⟩ (fun i σ H' _ p => by rw [p.1]; exact hT) (fun i x σ H' ex p => ?_) (fun σ H' p => ?_)
        · obtain ⟨rfl, al, o, rfl⟩ := p
          obtain ⟨m, km⟩ := hx x (List.mem_of_getElem? ex)
          have bad : okV 0 (i : Nat) x = false → Q (.bl false) H' := fun c => by
            have y := q H' (Same.refl H')
            rw [fitsV_no ex c] at y
            exact y
          refine ⟨x, rfl, x, .ty "int", _, _, _, rfl, .ty _, km.tyx, kd_int km, _, rfl, ?_⟩
          by_cases c1 : (isI x || isB x) = true
          · rw [c1]
            have kb : (∃ a, x = V.bl a) ∨ ∃ i, x = V.int i := by
              cases x <;> first | exact .inl ⟨_, rfl⟩ | exact .inr ⟨_, rfl⟩ | exact nomatch (show false = true from c1)
            refine iteF ⟨x, rfl, true, rfl, kb, _, rfl, ?_⟩
            rcases kb with ⟨b, rfl⟩ | ⟨j, rfl⟩
            · cases b with
              | true => exact iteT (iteT (bad rfl))
              | false => exact iteF ⟨_, rfl, false, rfl, .inl ⟨_, rfl⟩, _, rfl, iteT (iteT (bad rfl))⟩
            · refine iteF ⟨_, rfl, false, rfl, .inr ⟨_, rfl⟩, _, rfl, iteF ⟨_, rfl, j, 0, rfl, rfl, _, rfl, ite2 (fun e1 => iteT ?ca) fun e1 => ⟨_, rfl, _, rfl, j, (i : Nat), rfl, rfl, _, rfl, ite2 (fun e2 => ?cb) fun e2 => ?cc⟩⟩⟩
              case ca =>
                refine bad ?_
                show (decide (0 ≤ j) && decide (j ≤ ((i : Nat) : Int))) = false
                rw [decide_eq_false (by have := of_decide_eq_true e1; omega), Bool.false_and]
              case cb =>
                refine bad ?_
                show (decide (0 ≤ j) && decide (j ≤ ((i : Nat) : Int))) = false
                rw [decide_eq_false (show ¬ j ≤ ((i : Nat) : Int) by have := of_decide_eq_true e2; omega), Bool.and_false]
              case cc =>
                have g1 := of_decide_eq_false (eq_false_of_ne_true e1)
                have g2 := of_decide_eq_false (eq_false_of_ne_true e2)
                have ok1 : okV 0 (i : Nat) (.int j) = true := by
                  show (decide (0 ≤ j) && decide (j ≤ ((i : Nat) : Int))) = true
                  rw [decide_eq_true (by omega), decide_eq_true (by omega)]
                  rfl
                refine ⟨_, rfl, _, _, rfl, rfl, rfl, okVs_next ex al ok1, _, rfl⟩
          · have c2 := eq_false_of_ne_true c1
            rw [c2]
            refine iteT (iteT (bad ?_))
            cases x <;> first | rfl | exact nomatch (show true = false from c2)
        · obtain ⟨rfl, al, o, rfl⟩ := p
          rw [List.take_of_length_le (by rw [okVs_len]; omega)] at al
          rw [z, al] at q
          exact q _ (Same.refl _)
/-! ### check_plant, check_station, is_plant -/
def spIsPlant : Sp := spFits
def spCheckPlant : Sp := fun vs H Q _ => ∃ v, vs = [v] ∧ FitsIs H v true ∧ ∀ H', Same H H' → Q .non H'
theorem Tx.checkPlant (T : Tx K mg) {k : Nat} : FnOk P w K mg base CX0 (k + 2) T.f_check_plant T.d_check_plant ["plant"] spCheckPlant := by
  refine T.F_check_plant.ok scCheckPlant (fun vs H Q E h => ?_) (fun cdv A outer s H vs Q E hr h => ?_)
  · obtain ⟨v, rfl, _⟩ := h
    rfl
  · obtain ⟨v, rfl, hf, q⟩ := h
    refine ⟨_, pss_one (ps_if (pt_not (pt_val (pe_call T.fits hr (by rfl) T.g_fits_plant T.F_fits_plant.kp T.b_fits_plant .nil pass0 (pa_cons (pv 0) pa_nil)))) (pss_one ps_never) pss_nil), ?_⟩
    exact ⟨v, rfl, v, true, rfl, hf, fun H' sm => ⟨true, rfl, iteF (q H' sm)⟩⟩
def spFitsStation : Sp := fun vs H Q _ => ∃ (p : Addr) (xs : List V) (v : V) (n : String), vs = [.ref p, v] ∧ SqT K H p xs ∧ Kd H v n ∧ Q (.bl (okV 0 (xs.length : Nat) v)) H
theorem Tx.fitsStation (T : Tx K mg) {k : Nat} : FnOk P w K mg base CX0 (k + 2) T.f_fits_station T.d_fits_station ["plant", "value"] (spFitsStation (K := K)) := by
  refine T.F_fits_station.ok scFitsStation (fun vs H Q E h => ?_) (fun cdv A outer s H vs Q E hr h => ?_)
  · obtain ⟨p, xs, v, n, rfl, _⟩ := h
    rfl
  · obtain ⟨p, xs, v, n, rfl, hT, hk, q⟩ := h
    refine ⟨_, pss_one (ps_ret (pe_and (pe_call T.isInteger hr (by rfl) T.g_is_integer T.F_is_integer.kp T.b_is_integer .nil pass0 (pa_cons (pv 1) pa_nil)) (pe_one (pe_chain op_le op_le pe_int (pv 1) (pe_callB call_len_seq (by rfl) T.n_len PySem.boot_len (pa_cons (pv 0) pa_nil)))))), ?_⟩
    refine ⟨v, rfl, v, n, rfl, hk, _, rfl, ?_⟩
    refine ite2 (fun e => ?_) fun e => ?_
    · cases v with
      | int j =>
        refine ⟨_, rfl, 0, j, rfl, rfl, _, rfl, ite2 (fun e1 => ⟨_, rfl, p, xs, rfl, .inr hT, j, (xs.length : Nat), rfl, rfl, ?_⟩) fun e1 => ?_⟩
        · show Q (.bl (decide (j ≤ ((xs.length : Nat) : Int)))) H
          have e2 : okV 0 (xs.length : Nat) (.int j) = decide (j ≤ ((xs.length : Nat) : Int)) := by
            show (decide (0 ≤ j) && decide (j ≤ ((xs.length : Nat) : Int))) = _
            rw [e1, Bool.true_and]
          rw [← e2]
          exact q
        · show Q (.bl false) H
          have e2 : okV 0 (xs.length : Nat) (.int j) = false := by
            show (decide (0 ≤ j) && decide (j ≤ ((xs.length : Nat) : Int))) = _
            rw [eq_false_of_ne_true e1, Bool.false_and]
          rw [← e2]
          exact q
      | _ => simp [isI] at e
    · cases v with
      | int j => exact absurd rfl e
      | _ => exact q
def spCheckStation : Sp := fun vs H Q _ => ∃ (p : Addr) (xs : List V) (j : Int), vs = [.ref p, .int j] ∧ SqT K H p xs ∧ 0 ≤ j ∧ j ≤ xs.length ∧ Q .non H
theorem Tx.checkStation (T : Tx K mg) {k : Nat} : FnOk P w K mg base CX0 (k + 3) T.f_check_station T.d_check_station ["plant", "station"] (spCheckStation (K := K)) := by
  refine T.F_check_station.ok scCheckStation (fun vs H Q E h => ?_) (fun cdv A outer s H vs Q E hr h => ?_)
  · obtain ⟨p, xs, j, rfl, _⟩ := h
    rfl
  · obtain ⟨p, xs, j, rfl, hT, h0, h1, q⟩ := h
    refine ⟨_, pss_one (ps_if (pt_not (pt_val (pe_call T.fitsStation hr (by rfl) T.g_fits_station T.F_fits_station.kp T.b_fits_station .nil pass0 (pa_cons (pv 0) (pa_cons (pv 1) pa_nil))))) (pss_one ps_never) pss_nil), ?_⟩
    refine ⟨.ref p, rfl, .int j, rfl, p, xs, .int j, "int", rfl, hT, .int j, true, ?_, iteF q⟩
    show V.bl (decide (0 ≤ j) && decide (j ≤ ((xs.length : Nat) : Int))) = _
    rw [decide_eq_true h0, decide_eq_true h1]
    rfl
/-! ### fits_stock, check_stock, check_supplier, check_days -/
def spFitsStock : Sp := fun vs H Q _ => ∃ (p q : Addr) (xs : List V) (ss : List Int), vs = [.ref p, .ref q] ∧ SqT K H p xs ∧ H q = some (.tup (ss.map V.int)) ∧ ss.length = xs.length + 1 ∧ ss.length ≤ 100 ∧ ss.Nodup ∧ ∀ H', Same H H' → Q (.bl true) H'
theorem Tx.fitsStock (T : Tx K mg) {k : Nat} : FnOk P w K mg base CX0 (k + 2) T.f_fits_stock T.d_fits_stock ["plant", "value"] (spFitsStock (K := K)) := by
  refine T.F_fits_stock.ok scFitsStock (fun vs H Q E h => ?_) (fun cdv A outer s H vs Q E hr h => ?_)
  · obtain ⟨p, q, xs, ss, rfl, _⟩ := h
    rfl
  · obtain ⟨p, q, xs, ss, rfl, hT, hq, hl, hs, nd, qq⟩ := h
    refine ⟨_, pss_cons (ps_if (PW.pt (pw_or (pt_not (pt_val (pe_callB call_isi (by rfl) T.n_isinstance (by decide +kernel) (pa_cons (pv 1) (pa_cons (pe_bltn (v := .ty "tuple") (by rfl) T.n_tuple (by decide +kernel) rfl) pa_nil)))))
        (pw_or1 (pt_cmpR op_ne (pe_callB call_len_seq (by rfl) T.n_len PySem.boot_len (pa_cons (pv 1) pa_nil)) (pe_op op_add (pe_callB call_len_seq (by rfl) T.n_len PySem.boot_len (pa_cons (pv 0) pa_nil)) pe_int) (nomark _)))))
        (pss_one (ps_ret pe_bl)) pss_nil)
      (pss_cons (ps_if (pt_not (pt_val (pe_callB (cr_all rfl) (by rfl) T.n_all (by decide +kernel) (pa_cons
          (pe_lc (own := [("box", 2)]) (g := gName 2) (tt := tYes) (te := tCall spIsInteger [] E0 (tCons (tVar 2) tNil)) rfl scFitsStock.nd (pi_tup (pv 1)) (blkOk_by (N := ["plant", "value", "box"]) (sc := defScope sFitsStock) (by decide +kernel))
            (fun _ _ _ _ _ => pg_name (i := 2) scFitsStock.nd rfl (.inl rfl)) (fun _ _ _ _ _ => pts_nil)
            (fun _ _ _ _ _ => pe_call T.isInteger hr (by rfl) T.g_is_integer T.F_is_integer.kp T.b_is_integer .nil pass0 (pa_cons (pv 2) pa_nil))) pa_nil)))) (pss_one (ps_ret pe_bl)) pss_nil)
      (pss_one (ps_ret (pe_cmpR op_eq (pe_lenSetT (by rfl) T.n_len (by rfl) T.n_set (pv 1)) (pe_callB call_len_seq (by rfl) T.n_len PySem.boot_len (pa_cons (pv 1) pa_nil)) (nomark _))))), ?_⟩
    have hv : SqT K H q (ss.map V.int) := .inl (.inl hq)
    refine ⟨_, rfl, _, .ty "tuple", _, _, _, rfl, .ty _, (Kd.tup hq).tyx, kd_tuple (.tup hq), _, rfl, ?_⟩
    refine iteF ⟨_, rfl, q, _, rfl, .inr hv, .ref p, rfl, p, xs, rfl, .inr hT, _, 1, rfl, rfl, rfl, _, rfl, ?_⟩
    rw [show ((ss.map V.int).length : Int) = (xs.length : Int) + 1 by rw [List.length_map, hl]; rfl]
    rw [show (!decide (V.int ((xs.length : Int) + 1) = V.int ((xs.length : Int) + 1))) = false by rw [decide_eq_true rfl]; rfl]
    refine iteF ⟨.ref q, rfl, q, rfl, ⟨_, hv⟩, fun D nD => ?_⟩
    refine lc_tup (xs := ss.map V.int) (fun i H' => Same H H' ∧ H' D = some (.lst ((List.replicate i true).map V.bl))) ⟨same_new nD, upd_same⟩ (fun i H' _ p1 => seqT p1.1 hv) (fun i x H1 ex p1 => ?_) (fun H' p1 => ?_)
    · obtain ⟨sm, eD⟩ := p1
      obtain ⟨n, en, rfl⟩ : ∃ n, ss[i]? = some n ∧ V.int n = x := by
        rw [List.getElem?_map] at ex
        cases z : ss[i]? with
        | none => rw [z] at ex; cases ex
        | some n => rw [z] at ex; cases ex; exact ⟨n, rfl, rfl⟩
      have hi := (List.getElem?_eq_some_iff.mp en).1
      refine ⟨rfl, tyes_if ⟨.int n, rfl, .int n, "int", rfl, .int n, _, eD, ?_, fun b o hb => ?_, ?_⟩⟩
      · rw [List.length_map, List.length_replicate]
        exact small300 (by omega)
      · rw [upd_ne (ne_of_none hb nD)]
        exact sm _ _ hb
      · rw [upd_same, List.replicate_succ', List.map_append]
        rfl
    · obtain ⟨sm, eD⟩ := p1
      have ea : (List.replicate (ss.map V.int).length true).all id = true := by
        rw [List.all_replicate]
        simp
      refine ⟨D, _, rfl, .inl (.inl eD), _, rfl, ?_⟩
      rw [ea]
      refine iteF ⟨.ref q, rfl, q, ss, rfl, seqT sm hv, nd, by omega, .ref q, rfl, q, _, rfl, .inr (seqT sm hv), rfl, ?_⟩
      rw [show ((ss.map V.int).length : Int) = ((ss.length : Nat) : Int) by rw [List.length_map], decide_eq_true rfl]
      exact qq H' sm
def spCheckStock : Sp := spFitsStock (K := K)
theorem Tx.checkStock (T : Tx K mg) {k : Nat} : FnOk P w K mg base CX0 (k + 3) T.f_check_stock T.d_check_stock ["plant", "stock"] (fun vs H Q E => spFitsStock (K := K) vs H (fun _ H' => Q .non H') E) := by
  refine T.F_check_stock.ok scCheckStock (fun vs H Q E h => ?_) (fun cdv A outer s H vs Q E hr h => ?_)
  · obtain ⟨p, q, xs, ss, rfl, _⟩ := h
    rfl
  · obtain ⟨p, q, xs, ss, rfl, hT, hq, hl, hs, nd, qq⟩ := h
    refine ⟨_, pss_one (ps_if (pt_not (pt_val (pe_call T.fitsStock hr (by rfl) T.g_fits_stock T.F_fits_stock.kp T.b_fits_stock .nil pass0 (pa_cons (pv 0) (pa_cons (pv 1) pa_nil))))) (pss_one ps_never) pss_nil), ?_⟩
    exact ⟨.ref p, rfl, .ref q, rfl, p, q, xs, ss, rfl, hT, hq, hl, hs, nd, fun H' sm => ⟨true, rfl, iteF (qq H' sm)⟩⟩
def spCheckSupplier : Sp := fun vs H Q _ => ∃ (p : Addr) (pl : List Int) (v u : Nat), vs = [.ref p, .int (v : Int), .int (u : Int)] ∧ PlantAt H p pl ∧ 0 < u ∧ u ≤ pl.length ∧ cu pl u = v ∧ Q .non H
def spCheckDays : Sp := fun vs H Q _ => ∃ d lo hi : Int, vs = [.int d, .int lo, .int hi] ∧ lo ≤ d ∧ d ≤ hi ∧ Q .non H
theorem Tx.checkDays (T : Tx K mg) {k : Nat} : FnOk P w K mg base CX0 (k + 3) T.f_check_days T.d_check_days ["days", "least", "most"] spCheckDays := by
  refine T.F_check_days.ok scCheckDays (fun vs H Q E h => ?_) (fun cdv A outer s H vs Q E hr h => ?_)
  · obtain ⟨d, lo, hi, rfl, _⟩ := h
    rfl
  · obtain ⟨d, lo, hi, rfl, h0, h1, q⟩ := h
    refine ⟨_, pss_one (ps_if (pt_not (pt_val (pe_call T.isWithin hr (by rfl) T.g_is_within T.F_is_within.kp T.b_is_within .nil pass0 (pa_cons (pv 0) (pa_cons (pv 1) (pa_cons (pv 2) pa_nil)))))) (pss_one ps_never) pss_nil), ?_⟩
    refine ⟨.int d, rfl, .int lo, rfl, .int hi, rfl, .int d, "int", lo, hi, rfl, .int d, true, ?_, iteF q⟩
    show V.bl (decide (lo ≤ d) && decide (d ≤ hi)) = _
    rw [decide_eq_true h0, decide_eq_true h1]
    rfl
end
end PT


set_option maxHeartbeats 4000000
/-! the check of a stock that its object knows -/
namespace PT
open PySem PySem.Spec PyProof.Rows L2
section
variable {P : Program} {w : World} {K : PySem.W.Frag} {mg : Str → Option Value} {base : Heap}
def spFitsStockF : Sp := fun vs H Q _ => ∃ (p q : Addr) (xs : List V) (ss : List Int), vs = [.ref p, .ref q] ∧ SqT K H p xs ∧ StkAt H q ss ∧ ss.length = xs.length + 1 ∧ ss.length ≤ 100 ∧ ss.Nodup ∧ ∀ H', Same H H' → Q (.bl true) H'
theorem Tx.fitsStockF (T : Tx K mg) {k : Nat} : FnOk P w K mg base CX0 (k + 2) T.f_fits_stock T.d_fits_stock ["plant", "value"] (spFitsStockF (K := K)) := by
  refine T.F_fits_stock.ok scFitsStock (fun vs H Q E h => ?_) (fun cdv A outer s H vs Q E hr h => ?_)
  · obtain ⟨p, q, xs, ss, rfl, _⟩ := h
    rfl
  · obtain ⟨p, q, xs, ss, rfl, hT, hq, hl, hs, nd, qq⟩ := h
    refine ⟨_, pss_cons (ps_if (PW.pt (pw_or (pt_not (pt_val (pe_callB call_isi (by rfl) T.n_isinstance (by decide +kernel) (pa_cons (pv 1) (pa_cons (pe_bltn (v := .ty "tuple") (by rfl) T.n_tuple (by decide +kernel) rfl) pa_nil)))))
        (pw_or1 (pt_cmpR op_ne (pe_callB call_len_seq (by rfl) T.n_len PySem.boot_len (pa_cons (pv 1) pa_nil)) (pe_op op_add (pe_callB call_len_seq (by rfl) T.n_len PySem.boot_len (pa_cons (pv 0) pa_nil)) pe_int) (nomark _)))))
        (pss_one (ps_ret pe_bl)) pss_nil)
      (pss_cons (ps_if (pt_not (pt_val (pe_callB (cr_all rfl) (by rfl) T.n_all (by decide +kernel) (pa_cons
          (pe_lc (own := [("box", 2)]) (g := gName 2) (tt := tYes) (te := tCall spIsInteger [] E0 (tCons (tVar 2) tNil)) rfl scFitsStock.nd (pi_tup (pv 1)) (blkOk_by (N := ["plant", "value", "box"]) (sc := defScope sFitsStock) (by decide +kernel))
            (fun _ _ _ _ _ => pg_name (i := 2) scFitsStock.nd rfl (.inl rfl)) (fun _ _ _ _ _ => pts_nil)
            (fun _ _ _ _ _ => pe_call T.isInteger hr (by rfl) T.g_is_integer T.F_is_integer.kp T.b_is_integer .nil pass0 (pa_cons (pv 2) pa_nil))) pa_nil)))) (pss_one (ps_ret pe_bl)) pss_nil)
      (pss_one (ps_ret (pe_cmpR op_eq (pe_lenSetT (by rfl) T.n_len (by rfl) T.n_set (pv 1)) (pe_callB call_len_seq (by rfl) T.n_len PySem.boot_len (pa_cons (pv 1) pa_nil)) (nomark _))))), ?_⟩
    have hv : SqT K H q (ss.map V.int) := hq.seq
    refine ⟨_, rfl, _, .ty "tuple", _, _, _, rfl, .ty _, hq.tyx, kit_tupT, _, rfl, ?_⟩
    refine iteF ⟨_, rfl, q, _, rfl, .inr hv, .ref p, rfl, p, xs, rfl, .inr hT, _, 1, rfl, rfl, rfl, _, rfl, ?_⟩
    rw [show ((ss.map V.int).length : Int) = (xs.length : Int) + 1 by rw [List.length_map, hl]; rfl]
    rw [show (!decide (V.int ((xs.length : Int) + 1) = V.int ((xs.length : Int) + 1))) = false by rw [decide_eq_true rfl]; rfl]
    refine iteF ⟨.ref q, rfl, q, rfl, ⟨_, hv⟩, fun D nD => ?_⟩
    refine lc_tup (xs := ss.map V.int) (fun i H' => Same H H' ∧ H' D = some (.lst ((List.replicate i true).map V.bl))) ⟨same_new nD, upd_same⟩ (fun i H' _ p1 => seqT p1.1 hv) (fun i x H1 ex p1 => ?_) (fun H' p1 => ?_)
    · obtain ⟨sm, eD⟩ := p1
      obtain ⟨n, en, rfl⟩ : ∃ n, ss[i]? = some n ∧ V.int n = x := by
        rw [List.getElem?_map] at ex
        cases z : ss[i]? with
        | none => rw [z] at ex; cases ex
        | some n => rw [z] at ex; cases ex; exact ⟨n, rfl, rfl⟩
      have hi := (List.getElem?_eq_some_iff.mp en).1
      refine ⟨rfl, tyes_if ⟨.int n, rfl, .int n, "int", rfl, .int n, _, eD, ?_, fun b o hb => ?_, ?_⟩⟩
      · rw [List.length_map, List.length_replicate]
        exact small300 (by omega)
      · rw [upd_ne (ne_of_none hb nD)]
        exact sm _ _ hb
      · rw [upd_same, List.replicate_succ', List.map_append]
        rfl
    · obtain ⟨sm, eD⟩ := p1
      have ea : (List.replicate (ss.map V.int).length true).all id = true := by
        rw [List.all_replicate]
        simp
      refine ⟨D, _, rfl, .inl (.inl eD), _, rfl, ?_⟩
      rw [ea]
      refine iteF ⟨.ref q, rfl, q, ss, rfl, seqT sm hv, nd, by omega, .ref q, rfl, q, _, rfl, .inr (seqT sm hv), rfl, ?_⟩
      rw [show ((ss.map V.int).length : Int) = ((ss.length : Nat) : Int) by rw [List.length_map], decide_eq_true rfl]
      exact qq H' sm
def spCheckStockF : Sp := spFitsStockF (K := K)
theorem Tx.checkStockF (T : Tx K mg) {k : Nat} : FnOk P w K mg base CX0 (k + 3) T.f_check_stock T.d_check_stock ["plant", "stock"] (fun vs H Q E => spFitsStockF (K := K) vs H (fun _ H' => Q .non H') E) := by
  refine T.F_check_stock.ok scCheckStock (fun vs H Q E h => ?_) (fun cdv A outer s H vs Q E hr h => ?_)
  · obtain ⟨p, q, xs, ss, rfl, _⟩ := h
    rfl
  · obtain ⟨p, q, xs, ss, rfl, hT, hq, hl, hs, nd, qq⟩ := h
    refine ⟨_, pss_one (ps_if (pt_not (pt_val (pe_call (T.fitsStockF (k := k)) hr (by rfl) T.g_fits_stock T.F_fits_stock.kp T.b_fits_stock .nil pass0 (pa_cons (pv 0) (pa_cons (pv 1) pa_nil))))) (pss_one ps_never) pss_nil), ?_⟩
    exact ⟨.ref p, rfl, .ref q, rfl, p, q, xs, ss, rfl, hT, hq, hl, hs, nd, fun H' sm => ⟨true, rfl, iteF (qq H' sm)⟩⟩
end
end PT


set_option maxHeartbeats 4000000
/-! ordered or not -/
namespace PT
open PySem PySem.Spec PyProof.Rows L2
section
variable {P : Program} {w : World} {K : PySem.W.Frag} {mg : Str → Option Value} {base : Heap}
def spLast (K : PySem.W.Frag) : Sp := fun vs H Q _ => ∃ (p b : Addr) (pl ss : List Int), vs = [.ref p, .ref b] ∧ PlantAt H p pl ∧ (SqL K H b (ss.map V.int) ∨ SqT K H b (ss.map V.int)) ∧ ss.length = pl.length + 1 ∧
  (ldis pl ss pl.length = 0 → Q .non H) ∧ ∀ k, ldis pl ss pl.length = k + 1 → ∀ t, H t = none → Q (.ref t) (upd H t (.tup [.int ((cu pl (k + 1) : Nat) : Int), .int ((k + 1 : Nat) : Int)]))
theorem Tx.lastDisorder (T : Tx K mg) {k : Nat} : FnOk P w K mg base CX0 (k + 1) T.f_last_disorder T.d_last_disorder ["plant", "boxes"] (spLast K) := by
  refine T.F_last_disorder.ok scLastDisorder (fun vs H Q E h => ?_) (fun cdv A outer s H vs Q E hr h => ?_)
  · obtain ⟨p, b, pl, ss, rfl, _⟩ := h
    rfl
  · obtain ⟨p, b, pl, ss, rfl, hP, hb, hl, q0, q1⟩ := h
    have nd := scLastDisorder.nd
    have hlen := hP.ok.len
    have el : ((pl.map V.int).length : Int) = (pl.length : Int) := by rw [List.length_map]
    have atB : ∀ k : Nat, k < ss.length → atI (ss.map V.int) (k : Int) = some (.int (bx ss k)) := fun k hk => atI_nat (by rw [List.getElem?_map, bx_at hk]; rfl)
    refine ⟨_, pss_cons (ps_for PassesOwn.never rfl (pi_range3 rfl T.n_range (pa_cons (pe_callB call_len_seq (by rfl) T.n_len PySem.boot_len (pa_cons (pv 0) pa_nil)) (pa_cons pe_int (pa_cons (pe_un un_neg pe_int) pa_nil))))
        (pg_name (i := 2) nd rfl (.inl rfl))
        (pss_cons (ps_set (i := 3) nd rfl (.inl rfl) (pe_ix ix_tup (pv 0) (pe_op op_sub (pv 2) pe_int) (fun _ _ => rfl)))
        (pss_one (ps_if (pt_cmpR op_lt (pe_ix ix_lt (pv 1) (pv 2) (fun _ _ => rfl)) (pe_ix ix_lt (pv 1) (pv 3) (fun _ _ => rfl)) (nomark _)) (pss_one (ps_ret (pe_tup (pa_cons (pv 3) (pa_cons (pv 2) pa_nil))))) pss_nil))))
      (pss_one (ps_ret pe_non)), ?_⟩
    refine ⟨.ref p, rfl, p, pl.map V.int, rfl, .inr hP.seq, 1, rfl, (pl.length : Int), 0, -1, pl.length, by rw [el], ?_, ?_⟩
    · have z := RgC.neg (i := (pl.length : Int)) (j := 0) (by omega) (by omega) (by omega) (by omega)
      have z2 : ((pl.length : Int) - 0).toNat = pl.length := by omega
      rw [z2] at z
      exact z
    refine for_rangeC (lo := (pl.length : Int)) (c := -1) (n := pl.length) (fun i σ H' => H' = H ∧ (∃ y2 y3, σ = [some (.ref p), some (.ref b), y2, y3]) ∧ ldis pl ss (pl.length - i) = ldis pl ss pl.length) ⟨rfl, ⟨none, none, rfl⟩, rfl⟩ (fun i σ H' hi p1 => ?_) (fun σ H' p1 => ?_)
    · obtain ⟨rfl, ⟨y2, y3, rfl⟩, hd⟩ := p1
      obtain ⟨m, em⟩ : ∃ m : Nat, pl.length - i = m + 1 := ⟨pl.length - i - 1, by omega⟩
      have hm : m < pl.length := by omega
      have ev : (pl.length : Int) + (i : Nat) * (-1) = ((m + 1 : Nat) : Int) := by omega
      have ei : ((m + 1 : Nat) : Int) - 1 = (m : Int) := by omega
      have hc : cu pl (m + 1) < m + 1 := cu_lt pl (by omega)
      rw [em] at hd
      rw [ev]
      refine ⟨.ref p, rfl, .int ((m + 1 : Nat) : Int), rfl, _, 1, rfl, rfl, p, pl.map V.int, (m : Int), .int ((cu pl (m + 1) : Nat) : Int), rfl, congrArg V.int ei, hP.seq, atI_nat (by rw [List.getElem?_map, hP.ok.at hm]; rfl), ?_⟩
      refine ⟨.ref b, rfl, .int ((m + 1 : Nat) : Int), rfl, item_lt hb (atB (m + 1) (by omega)) ⟨.ref b, rfl, .int ((cu pl (m + 1) : Nat) : Int), rfl, item_lt hb (atB _ (by omega)) ⟨_, _, rfl, rfl, _, rfl, ite2 (fun e => ?ca) fun e => ?cb⟩⟩⟩
      case ca =>
        refine ⟨.int ((cu pl (m + 1) : Nat) : Int), rfl, .int ((m + 1 : Nat) : Int), rfl, (by show 2 ≤ sizeLine; decide), fun t nt => ?_⟩
        refine q1 m ?_ t nt
        rw [← hd]
        show (if _ then m + 1 else _) = m + 1
        rw [if_pos (of_decide_eq_true e)]
      case cb =>
        refine ⟨rfl, ⟨_, _, rfl⟩, ?_⟩
        rw [← hd, show pl.length - (i + 1) = m by omega]
        show _ = (if _ then m + 1 else _)
        rw [if_neg fun z => e (decide_eq_true z)]
    · obtain ⟨rfl, _, hd⟩ := p1
      rw [Nat.sub_self] at hd
      exact q0 hd.symm
def spCheckOrdered (K : PySem.W.Frag) : Sp := fun vs H Q _ => ∃ (p b : Addr) (pl ss : List Int), vs = [.ref p, .ref b] ∧ PlantAt H p pl ∧ (SqL K H b (ss.map V.int) ∨ SqT K H b (ss.map V.int)) ∧ ss.length = pl.length + 1 ∧ Ord pl ss ∧ Q .non H
end
end PT


set_option maxHeartbeats 4000000
/-! the lists of suppliers, the sizes -/
namespace PT
open PySem PySem.Spec PyProof.Rows L2

section
variable {P : Program} {w : World} {K : PySem.W.Frag} {mg : Str → Option Value} {base : Heap}
def spLists : Sp := fun vs H Q _ => ∃ p pl, vs = [.ref p] ∧ PlantAt H p pl ∧ ∀ H' l as, ListsAt H H' l as pl pl.length → Q (.ref l) H'
theorem ok_lists (T : Tx K mg) : FnOk P w K mg base CX0 1 T.f_supplier_lists T.d_supplier_lists ["plant"] spLists := by
  refine T.F_supplier_lists.ok scSupplierLists (fun vs H Q E h => ?_) (fun cdv A outer s H vs Q E hr h => ?_)
  · obtain ⟨p, pl, rfl, _⟩ := h
    rfl
  · obtain ⟨p, pl, rfl, hP, q⟩ := h
    have hlen := hP.ok.len
    have hT : SqT K H p (pl.map V.int) := hP.seq
    refine ⟨_, pss_cons (ps_setLc (i := 1) (own := [("station", 4)]) (g := gName 4) (tt := tYes) (by rfl) scSupplierLists.nd rfl rfl (sw_true rfl rfl rfl (by decide +kernel))
        (pi_range1 rfl T.n_range (pa_cons (pe_op op_add (pe_callB call_len_seq (by rfl) T.n_len PySem.boot_len (pa_cons (pv 0) pa_nil)) pe_int) pa_nil)) (blkOk_by (N := ["plant", "lists", "at", "above", "station"]) (sc := defScope sSupplierLists) (by decide +kernel))
        (fun _ _ _ _ _ => pg_name (i := 4) scSupplierLists.nd rfl (Or.inl rfl)) (fun _ _ _ _ _ => pts_nil) (fun _ _ _ _ _ => pe_lst pa_nil))
      (pss_cons (ps_for PassesOwn.never rfl (pi_E (by rfl) T.n_enumerate (pa_cons (pv 0) pa_nil))
        (pg_tup rfl (pgs_cons (pg_name (i := 2) scSupplierLists.nd rfl (.inl rfl)) (pgs_cons (pg_name (i := 3) scSupplierLists.nd rfl (.inl rfl)) pgs_nil)))
        (pss_one (ps_expr (pe_bm PySem.F.plainAttrs_list PySem.F.slot_list_append PySem.F.type_list_append mt_append (pe_ix ix_list (pv 1) (pv 3) (fun _ _ => rfl)) (pa_cons (pe_op op_add (pv 2) pe_int) pa_nil)))))
      (pss_one (ps_ret (pv 1)))), ?_⟩
    -- lists = [[] for ..]
    refine ⟨.ref p, rfl, p, pl.map V.int, rfl, .inr hT, _, 1, rfl, rfl, ((pl.length + 1 : Nat) : Int), ?_, by omega, by omega, ?_⟩
    · rw [List.length_map]
      rfl
    rw [Int.toNat_natCast]
    intro D nD
    refine lc_range (lo := 0) (n := pl.length + 1) (fun i H' => ∃ as : List Addr, Same H H' ∧ H' D = some (.lst (as.map V.ref)) ∧ as.length = i ∧ (∀ a ∈ as, H a = none) ∧ D ∉ as ∧ as.Nodup ∧ ∀ a ∈ as, H' a = some (.lst []))
      ⟨[], same_new nD, upd_same, rfl, fun _ z => absurd z (by simp), by simp, List.nodup_nil, fun _ z => absurd z (by simp)⟩ (fun i H1 hi p1 => ?_) (fun H1 p1 => ?_)
    · obtain ⟨as, sm, eD, la, na, oa, nda, ha⟩ := p1
      refine ⟨rfl, tyes_if ⟨Nat.zero_le _, fun c nc => ⟨_, upd_at eD nc, ?_, as ++ [c], ?_, ?_, ?_, ?_, ?_, ?_, ?_⟩⟩⟩
      · rw [List.length_map, la]
        exact small300 (by omega)
      · intro b o hb
        rw [upd_ne (ne_of_none hb nD)]
        exact same_new nc _ _ (sm _ _ hb)
      · rw [upd_same, List.map_append]
        rfl
      · rw [List.length_append, la]
        rfl
      · intro a hm
        rcases List.mem_append.mp hm with z | z
        · exact na a z
        · rw [List.mem_singleton.mp z]
          exact sm.free nc
      · intro hm
        rcases List.mem_append.mp hm with z | z
        · exact oa z
        · exact ne_of_none eD nc (List.mem_singleton.mp z)
      · refine List.nodup_append.mpr ⟨nda, List.nodup_cons.mpr ⟨fun z => (by cases z), List.nodup_nil⟩, fun a hm b hb => ?_⟩
        rw [List.mem_singleton.mp hb]
        exact ne_of_none (ha a hm) nc
      · intro a hm
        rcases List.mem_append.mp hm with z | z
        · rw [upd_ne (show a ≠ D from fun e => oa (e ▸ z))]
          exact upd_at (ha a z) nc
        · rw [List.mem_singleton.mp z, upd_ne (Ne.symm (ne_of_none eD nc)), upd_same]
    · obtain ⟨as, sm, eD, la, na, oa, nda, ha⟩ := p1
      have L0 : ListsAt H H1 D as pl 0 := ⟨sm, nD, eD, la, na, oa, nda, fun j a e => ha a (List.mem_of_getElem? e)⟩
      -- for at, above in enumerate(plant)
      refine ⟨.ref p, rfl, p, pl.map V.int, rfl, seqT sm hT, ?_⟩
      refine for_it (walk_E (xs := pl.map V.int)) (fun i σ H2 => ∃ y2 y3, σ = [some (.ref p), some (.ref D), y2, y3, none] ∧ ListsAt H H2 D as pl i) ⟨none, none, rfl, L0⟩ (fun i σ H2 _ p2 => ?_) (fun i x σ H2 H3 hi p2 y => ?_) (fun σ H2 p2 => ?_)
      · obtain ⟨y2, y3, _, L⟩ := p2
        exact seqT L.sm hT
      · obtain ⟨y2, y3, rfl, L⟩ := p2
        obtain ⟨Tt, x1, x2, rfl, nT, rfl, e1, e2⟩ := y
        cases e1
        have hi2 : i < pl.length := by rw [List.length_map] at hi; exact hi
        obtain ⟨u, eu, rfl⟩ : ∃ u, pl[i]? = some u ∧ V.int u = x2 := by
          have z : (pl.map V.int)[i]? = some x2 := e2
          rw [List.getElem?_map] at z
          cases q2 : pl[i]? with
          | none => rw [q2] at z; cases z
          | some u => rw [q2] at z; cases z; exact ⟨u, rfl, rfl⟩
        obtain ⟨h0, h1⟩ := hP.ok.ok i u eu
        obtain ⟨j, rfl⟩ : ∃ j : Nat, u = (j : Int) := ⟨u.toNat, by omega⟩
        have hj : j < as.length := by rw [L.len]; omega
        have ej : as[j]? = some as[j] := List.getElem?_eq_getElem hj
        have sT : Same H2 (upd H2 Tt (.tup [.int (i : Nat), .int (j : Int)])) := same_new nT
        have hl2 : (upd H2 Tt (.tup [.int (i : Nat), .int (j : Int)])) D = some (.lst (as.map V.ref)) := sT _ _ L.hl
        have ha2 : (upd H2 Tt (.tup [.int (i : Nat), .int (j : Int)])) as[j] = some (.lst ((sup pl i j).map V.int)) := sT _ _ (L.at_ j _ ej)
        refine ⟨Tt, [.int (i : Nat), .int (j : Int)], rfl, .inl (.inl upd_same), rfl, _, _, rfl, _, _, rfl, rfl, ?_⟩
        refine ⟨.ref D, rfl, .int (j : Int), rfl, D, as.map V.ref, (j : Int), .ref as[j], rfl, rfl, .inl (.inl hl2), atI_nat (by rw [List.getElem?_map, ej]; rfl), .inl ⟨rfl, _, .inl (.inl ha2)⟩, .int (i : Nat), rfl, (i : Nat), 1, rfl, rfl, as[j], _, _, rfl, rfl, ha2, ?_, ?_⟩
        · rw [List.length_map]
          exact small300 (Nat.le_trans (sup_len pl i j) (by omega))
        · refine ⟨_, _, rfl, ?_⟩
          have hin : as[j] ∈ as := List.getElem_mem hj
          refine ⟨fun b o hb => ?_, L.nl, ?_, L.len, L.new, L.out, L.nd, fun k a e => ?_⟩
          · rw [upd_ne (ne_of_none hb (L.new _ hin))]
            exact sT _ _ (L.sm _ _ hb)
          · rw [upd_ne (show D ≠ as[j] from fun z => L.out (z ▸ hin))]
            exact hl2
          · rw [sup_step k eu]
            by_cases c : k = j
            · subst c
              have ea : as[k] = a := Option.some.inj (ej.symm.trans e)
              rw [if_pos rfl, ← ea, upd_same, List.map_append]
              rfl
            · have ne : a ≠ as[j] := fun z => c (by
                obtain ⟨hk, ek⟩ := List.getElem?_eq_some_iff.mp e
                exact (List.getElem_inj L.nd).mp (ek.trans z))
              rw [if_neg (by omega), upd_ne ne]
              exact sT _ _ (L.at_ k a e)
      · obtain ⟨y2, y3, rfl, L⟩ := p2
        rw [List.length_map] at L
        exact ⟨.ref D, rfl, q H2 D as L⟩

/-! ### the sizes -/
def spSizes : Sp := fun vs H Q _ => ∃ p pl, vs = [.ref p] ∧ PlantAt H p pl ∧ ∀ H' l, Same H H' → H l = none → H' l = some (.lst ((szs pl 0).map V.int)) → Q (.ref l) H'
end
end PT

set_option maxHeartbeats 4000000
/-! min(xs, key=lambda k: ys[k]), xs a list of stations -/
namespace PT
open PySem PySem.Spec PyProof.Rows L2 LamX NdefX
section
variable {prog : Program} {w : World} {A : Around} {E : Value → Shared → Prop} {s : Shared}
theorem min_key_list {l q : Addr} {vs : Array Value} {Q : Value → Shared → Prop} (k : Nat → Int) (hh : A.handled = none) (hl : s.heap.IsList l vs) (hn : 0 < vs.size)
    (turn : ∀ (i : Nat) (v : Value), vs[i]? = some v → ∀ (h : Heap) (tk : Nat), (∀ b o, s.heap.get? b = some o → h.get? b = some o) →
      wpAny (model prog w) A.in1 (call (.ref q) [v]) (fun r s' => ∃ h' tk', s' = { s with heap := h', toks := tk' } ∧ (∀ b o, h.get? b = some o → h'.get? b = some o) ∧ ∃ t', r = .int (k i) t') (fun _ _ => False) { s with heap := h, toks := tk })
    (fin : ∀ v h' tk', vs[argBest (fun i j => decide (k i < k j)) (vs.size - 1)]? = some v → (∀ b o, s.heap.get? b = some o → h'.get? b = some o) → Q v { s with heap := h', toks := tk' }) :
    wpAny (model prog w) A (call (.builtin "min") [.ref l] [(Str.ofString "key", .ref q)]) Q E s := by
  refine call_min_walkK (PySem.W.iter_listW (A := A.in1) (by simpa using hh) hl fun s₂ e W st hfp hw hk => ?_)
  refine ⟨_, _, _, _, _, _, _, (fun s' => ∃ h tk, s' = { s with heap := h, toks := tk } ∧ ∀ b o, s.heap.get? b = some o → h.get? b = some o), (fun i kv _ => ∃ t, kv = .int (k i) t), (fun i j => decide (k i < k j)), rfl, W, st, hfp, hn, ?_, ?_, ?_⟩
  · refine ⟨?_, fun _ _ _ _ h _ => h, ?_, ?_⟩
    · rintro a b ⟨h, tk, rfl, kp⟩ m
      refine ⟨b.heap, b.toks, ?_, fun c o eo => m.heap c o (fun hc => ?_) (kp c o eo)⟩
      · obtain ⟨hp, g, d, t2, os⟩ := b
        have h1 : g = s.gens := m.gens
        have h2 : d = s.drawn := m.drawn
        have h3 : os = s.os := m.os
        subst h1 h2 h3
        rfl
      · have lt := Heap.lt_size eo
        rcases List.mem_cons.mp hc with z | z
        · have l2 : s.heap.objs.size ≤ s₂.heap.objs.size := by
            rw [e]
            show _ ≤ (s.heap.push _).objs.size
            rw [Heap.size_push]
            exact Nat.le_succ _
          rw [z] at lt
          exact absurd lt (Nat.not_lt.mpr l2)
        · rw [List.mem_singleton.mp z] at lt
          exact absurd lt (Nat.lt_irrefl _)
    · rintro i v a o Q2 E2 hi hP ⟨h, tk, rfl, kp⟩ hst hS q2
      refine wpAny_mono (turn i v hP h tk kp) (fun r s' z => ?_) fun _ _ (z : False) => False.elim z
      obtain ⟨h', tk', rfl, kp', t', rfl⟩ := z
      exact q2 _ _ ⟨h', tk', rfl, fun b o eo => kp' b o (kp b o eo)⟩ ⟨hst.1.at fun o q => kp' _ o q, hst.2.at fun o q => kp' _ o q⟩ (kp' _ _ hS) ⟨t', rfl⟩ fun _ _ z => z
    · rintro i j ki kj a Q2 E2 _ ⟨t, rfl⟩ ⟨t2, rfl⟩ q2
      exact CmpOf.ints_lt (P := fun i v => ∃ t, v = .int (k i) t) k (fun i v h => h) i j _ _ _ _ _ ⟨t, rfl⟩ ⟨t2, rfl⟩ q2
  · subst e
    exact ⟨_, _, rfl, hk⟩
  · rintro v s' hP ⟨h, tk, rfl, kp⟩
    exact fin v h tk hP kp
end
end PT
namespace PT
open PySem PySem.Spec PyProof.Rows L2 LamX NdefX
/-- the first station with the least number -/
def minK (js : List Nat) (f : Nat → Int) : Nat := js.getD (argBest (fun i j => decide (f (js.getD i 0) < f (js.getD j 0))) (js.length - 1)) 0
theorem extN_seqL {K : PySem.W.Frag} {H H' : Hp} (e : ExtN H H') {a : Addr} {xs : List V} (h : SqL K H a xs) : SqL K H' a xs := by
  rcases h with (h | ⟨o, h⟩) | h
  · exact .inl (.inl (e _ _ h fun ps z => by cases z))
  · exact .inl (.inr ⟨o, e _ _ h fun ps z => by cases z⟩)
  · exact .inr h
def tMinLam (K : PySem.W.Frag) (T : List (Addr × Str)) (j : Nat) (ta : TA) : TE := fun σ H Q => ta σ H fun vs H1 => ∃ (p a : Addr) (js : List Nat) (ns : List Int), vs = [.ref p] ∧ SqL K H1 p (js.map fun k : Nat => V.int (k : Int)) ∧ js ≠ [] ∧ σ[j]? = some (some (.ref a)) ∧ (SqL K H1 a (ns.map V.int) ∨ SqT K H1 a (ns.map V.int)) ∧ (∀ k ∈ js, k < ns.length) ∧ Tabs T H1 ∧
  ∀ (H2 : Hp), ExtN H1 H2 → Tabs T H2 → Q (.int (minK js fun k => ns.getD k 0 : Nat)) H2
theorem pe_minLam {X : Cx} {T : List (Addr × Str)} {c P : Addr} {j : Nat} {x y : Str} {e : Expr} {ta : TA} {params : Arguments} {scope : Scope} {p pos p1 p2 p3 lp kp : Pos} (TB : TabB X.base X.mg c P) (hcode : X.env.code = .ref c)
    (hmT : (P, X.env.qual ++ "<lambda>") ∈ T) (hu : ∀ z ∈ T, z.1 = P → z.2 = X.env.qual ++ "<lambda>") (room : Room 4 X.A) (hc : X.calm = true) (hg : Gl X "min") (hm : X.mg "min" = none) (ha : PA X [e] ta)
    (S : NScope [y, x] [y] [x] scope) (hj : X.N[j]? = some x) (hcell : X.env.scope.names.lookup x = some .cell ∨ X.env.scope.names.lookup x = some .free) (hfr : (x, NameKind.free) ∈ scope.names)
    (hb : ∀ (cl : List (Str × Addr)) (pm cdv ctv v : Value), bindArgs (PySem.W.kla_fn "<lambda>" (X.env.qual ++ "<lambda>") params (.Subscript (.Name x p1) (.Name y p2) p3) scope cl pm cdv ctv) ⟨[v], []⟩ = pure [(y, v)])
    (hdef : defaultsOf params X.env = ([], []))
    (dx : (x == ("__debug__" : Str)) = false := by decide) (cx : (x == ("__classdict__" : Str)) = false := by decide) (dy : (y == ("__debug__" : Str)) = false := by decide) (cy : (y == ("__classdict__" : Str)) = false := by decide)
    (na : backTo pos (starEach [e] X.env) = (false, eval e X.env) :: backTo pos (starEach [] X.env) := by rfl) (hpl : (backTo pos (starEach [e] X.env)).any (·.1) = false := by rfl) :
    PE X (.Call (.Name "min" p) [e] [⟨some "key", .Lambda params (.Subscript (.Name x p1) (.Name y p2) p3) scope lp, kp⟩] pos) (tMinLam X.K T j ta) := by
  refine ⟨fun pins s σ H Q I h => ?_⟩
  have hfree : ∀ z ∈ scope.names, z.2 = .free → X.env.scope.names.lookup z.1 = some .cell ∨ X.env.scope.names.lookup z.1 = some .free := fun z hz e => by
    have := S.free z hz e
    rw [List.mem_singleton.mp this]
    exact hcell
  have hfree2 : ∀ z ∈ scope.names, z.2 = .free → ∃ c, X.env.cells.lookup z.1 = some c := fun z hz e => (hfree z hz e).elim (fun q => I.ok.has _ (.inl q)) fun q => I.ok.has _ (.inr q)
  refine wpAny_Call_Name_kw (ld_blt I hg hm (show bootBuiltins (Str.ofString "min") = some (.builtin "min") by decide +kernel) ?_)
  refine PyProof.Rows.callWith_kw (thn (ha.run pos pins s σ H _ I h) fun us s1 ⟨vs, H1, I1, r1, q1⟩ => ?_) na hpl rfl rfl
  obtain ⟨r, a, js, ns, rfl, hr, hne, hs, hq, hlt, hT, q⟩ := q1
  obtain rfl := Vals.ref1 r1
  refine wpAny_evalAll_cons (wpAny_bind (lam_make2 I1 TB hcode hmT hu hT hdef hfree2 fun f c' pm ctv H2 s2 I2 ex tb hf hfn hfr2 hco => wpAny_bind (wpAny_standAt (wpAny_pure ?_))))
  refine wpAny_evalAll_nil ?_
  have hq2 := ExtN.seq ex hq
  obtain ⟨its, rv, pl, hz⟩ := I2.list (extN_seqL ex hr)
  obtain ⟨⟨oc, vs2, t2, h1, h2, h3⟩, _, _⟩ := I2.hok c' _ hco
  have hlen := rv.length
  rw [List.length_map] at hlen
  have hpos : 0 < js.length := List.length_pos_iff.mpr hne
  have at_ : ∀ (i : Nat) (v : Value), its.toArray[i]? = some v → i < js.length ∧ ∃ t, v = .int ((js.getD i 0 : Nat) : Int) t := fun i v e => by
    have e1 : its[i]? = some v := by simpa using e
    have hi : i < js.length := by
      have := (List.getElem?_eq_some_iff.mp e1).1
      omega
    obtain ⟨u, eu, ru⟩ := rv.get (i := i) (x := .int ((js.getD i 0 : Nat) : Int)) (by
      rw [List.getElem?_map, List.getElem?_eq_getElem hi, List.getD_eq_getElem?_getD, List.getElem?_eq_getElem hi]
      rfl)
    obtain rfl := Option.some.inj (eu.symm.trans e1)
    obtain ⟨t, rfl⟩ := ru
    exact ⟨hi, t, rfl⟩
  refine min_key_list (fun i => ns.getD (js.getD i 0) 0) (I2.ok.hd hc) pl.isList (by rw [List.size_toArray]; omega) (fun i v hv h tk kp => ?_) fun v h' tk hv kp => ?_
  · obtain ⟨hi, t, rfl⟩ := at_ i v hv
    have I3 : Inv X pins σ H2 { s2 with heap := h, toks := tk } := I2.kept kp
    have C := cells_of I3 (Caps.made (fr := [x]) (js := [j]) I3.ok hfree (fun z hz => by rw [List.mem_singleton.mp hz]; exact hfr) (by rw [List.map_cons, hj]; rfl))
    rw [List.map_cons, slotAt_of hs] at C
    have hm2 : js.getD i 0 ∈ js := by
      rw [List.getD_eq_getElem?_getD, List.getElem?_eq_getElem hi]
      exact List.getElem_mem hi
    have hk : ns[js.getD i 0]? = some (ns.getD (js.getD i 0) 0) := by
      rw [List.getD_eq_getElem?_getD (l := ns), List.getElem?_eq_getElem (hlt _ hm2)]
      rfl
    refine wpAny_mono (key_call (m := 2) I3 I3.env0.in1 room.in1 S C (kp _ _ hf) ⟨c', oc, vs2, t2, rfl, kp _ _ h1, h2, h3⟩ (hb _ _ _ _) hq2 hk dx cx dy cy) (fun r2 s' z => ?_) fun _ _ z => z
    obtain ⟨h4, tk4, rfl, kp4, t', rfl⟩ := z
    exact ⟨h4, tk4, rfl, kp4, t', rfl⟩
  · obtain ⟨hi, t, rfl⟩ := at_ _ v hv
    refine ⟨.int (minK js fun k => ns.getD k 0 : Nat), H2, I2.kept kp, ⟨t, ?_⟩, q H2 ex tb⟩
    unfold minK
    rw [List.size_toArray, ← hlen]
/-! ### the oldest box -/
theorem minK_bst {pl ss : List Int} (hP : Plant pl) {v : Nat} {js : List Nat} (e : (js.map fun k : Nat => (k : Int)) = sup pl pl.length v) (hne : js ≠ []) : minK js (fun k => ss.getD k 0) = bst pl ss v := by
  obtain ⟨x, xs, rfl⟩ := List.exists_cons_of_ne_nil hne
  have e2 : sup pl pl.length v = (x : Int) :: xs.map fun k : Nat => (k : Int) := e.symm
  obtain ⟨b1, _⟩ := bst_cons (ss := ss) hP e2
  have f := (PySem.W.argBest_fold (fun a b : Nat => decide (ss.getD a 0 < ss.getD b 0)) 0 x xs xs.length (Nat.le_refl _)).2
  rw [List.take_length] at f
  have g : minK (x :: xs) (fun k => ss.getD k 0) = xs.foldl (fun a y => if decide (ss.getD y 0 < ss.getD a 0) = true then y else a) x := f
  have h : ∀ (l : List Nat) (b : Nat), pickB ss (b : Int) (l.map fun k : Nat => (k : Int)) = ((l.foldl (fun a y => if decide (ss.getD y 0 < ss.getD a 0) = true then y else a) b : Nat) : Int) := by
    intro l
    induction l with
    | nil => intro b; rfl
    | cons y l ih =>
      intro b
      have z : pickB ss (b : Int) ((y :: l).map fun k : Nat => (k : Int)) = pickB ss (if bx ss (y : Int) < bx ss (b : Int) then (y : Int) else (b : Int)) (l.map fun k : Nat => (k : Int)) := rfl
      rw [z, List.foldl_cons]
      have e1 : bx ss (y : Int) = ss.getD y 0 := by unfold bx; rw [Int.toNat_natCast]
      have e2 : bx ss (b : Int) = ss.getD b 0 := by unfold bx; rw [Int.toNat_natCast]
      rw [e1, e2]
      by_cases c : ss.getD y 0 < ss.getD b 0
      · rw [if_pos c, if_pos (decide_eq_true c), ih]
      · rw [if_neg c, if_neg (by simpa using c), ih]
  have k1 : pickB ss (x : Int) ((x : Int) :: xs.map fun k : Nat => (k : Int)) = pickB ss (x : Int) (xs.map fun k : Nat => (k : Int)) := by
    show pickB ss (if bx ss (x : Int) < bx ss (x : Int) then (x : Int) else (x : Int)) _ = _
    rw [if_neg (Int.lt_irrefl _)]
  rw [k1, h] at b1
  rw [g]
  exact Int.ofNat.inj b1
end PT

/-! boxes laid from the oldest on, each below its customer's: what comes out is ordered -/
namespace PT
def supN (pl : List Int) (j : Nat) : List Nat := ((List.range pl.length).filter fun k => decide (pl.getD k 0 = (j : Int))).map (· + 1)
theorem supN_sup (pl : List Int) (j : Nat) : natI (supN pl j) = sup pl pl.length j := by
  unfold natI supN sup
  rw [List.map_map]
  rfl
theorem supN_mem {pl : List Int} (hP : Plant pl) {j k : Nat} : k ∈ supN pl j ↔ 0 < k ∧ k ≤ pl.length ∧ cu pl k = j := by
  rw [← sup_cu hP, ← supN_sup]
  unfold natI
  rw [List.mem_map]
  constructor
  · intro h
    exact ⟨k, h, rfl⟩
  · rintro ⟨a, ha, e⟩
    have : a = k := by omega
    rw [← this]
    exact ha
theorem supN_nodup (pl : List Int) (j : Nat) : (supN pl j).Nodup := by
  unfold supN
  rw [List.Nodup, List.pairwise_map]
  exact (List.nodup_range.sublist List.filter_sublist).imp fun h z => h (by omega)
theorem pick_perm {α : Type} : ∀ {l : List α} {i : Nat} {x : α}, l[i]? = some x → (x :: l.eraseIdx i).Perm l
  | [], _, _, h => by simp at h
  | y :: r, 0, x, h => by
    have e : y = x := Option.some.inj h
    subst e
    exact .refl _
  | y :: r, i + 1, x, h => (List.Perm.swap y x (r.eraseIdx i)).trans ((pick_perm (l := r) (i := i) (x := x) (by simpa using h)).cons y)
structure CalmSt (pl ns : List Int) (i : Nat) (val : Nat → Option Int) (fr : List Nat) : Prop where
  nd : fr.Nodup
  fm : ∀ k, k ∈ fr ↔ k ≤ pl.length ∧ val k = none ∧ (k = 0 ∨ ∃ y, val (cu pl k) = some y)
  vl : ∀ k x, val k = some x → k ≤ pl.length ∧ ∃ j, j < i ∧ ns[j]? = some x
  inj : ∀ k1 k2 x, val k1 = some x → val k2 = some x → k1 = k2
  up : ∀ k x, 0 < k → val k = some x → ∃ y, val (cu pl k) = some y ∧ y < x
  cnt : (List.range (pl.length + 1)).countP (fun k => (val k).isSome) = i
theorem CalmSt.start (pl ns : List Int) : CalmSt pl ns 0 (fun _ => none) [0] := by
  refine ⟨by simp, fun k => ?_, fun k x e => (by cases e), fun k1 k2 x e => (by cases e), fun k x _ e => (by cases e), countP_none (fun _ => rfl) _⟩
  constructor
  · intro h
    rw [List.mem_singleton.mp h]
    exact ⟨Nat.zero_le _, rfl, .inl rfl⟩
  · rintro ⟨_, _, rfl | ⟨y, e⟩⟩
    · exact List.mem_singleton.mpr rfl
    · cases e
theorem CalmSt.pos {pl ns : List Int} {i : Nat} {val : Nat → Option Int} {fr : List Nat} (h : CalmSt pl ns i val fr) (hi : i ≤ pl.length) : 0 < fr.length := by
  have ex : ∃ k, k ≤ pl.length ∧ val k = none := Classical.byContradiction fun no => by
    have all : (List.range (pl.length + 1)).countP (fun k => (val k).isSome) = (List.range (pl.length + 1)).length := List.countP_eq_length.mpr fun k hk => by
      have := List.mem_range.mp hk
      cases e : val k with
      | none => exact absurd ⟨k, by omega, e⟩ no
      | some x => rfl
    rw [h.cnt, List.length_range] at all
    omega
  have least : ∀ k, k ≤ pl.length → val k = none → ∃ m, m ∈ fr := by
    intro k
    induction k using Nat.strongRecOn with
    | ind k ih =>
      intro hk e
      by_cases k0 : k = 0
      · exact ⟨k, (h.fm k).mpr ⟨hk, e, .inl k0⟩⟩
      · have c := cu_lt pl (show 0 < k by omega)
        cases q : val (cu pl k) with
        | none => exact ih _ c (by omega) q
        | some y => exact ⟨k, (h.fm k).mpr ⟨hk, e, .inr ⟨y, q⟩⟩⟩
  obtain ⟨k, hk, e⟩ := ex
  obtain ⟨m, hm⟩ := least k hk e
  exact List.length_pos_of_mem hm
theorem CalmSt.len {pl ns : List Int} {i : Nat} {val : Nat → Option Int} {fr : List Nat} (h : CalmSt pl ns i val fr) : fr.length ≤ pl.length + 1 := by
  have p : fr.Perm ((List.range (pl.length + 1)).filter fun k => decide (k ∈ fr)) := (List.perm_ext_iff_of_nodup h.nd (List.nodup_range.sublist List.filter_sublist)).mpr fun k => by
    rw [List.mem_filter, decide_eq_true_iff, List.mem_range]
    exact ⟨fun z => ⟨by have := ((h.fm k).mp z).1; omega, z⟩, fun z => z.2⟩
  have e := p.length_eq
  have l := List.length_filter_le (fun k => decide (k ∈ fr)) (List.range (pl.length + 1))
  rw [List.length_range] at l
  omega
theorem CalmSt.next {pl ns : List Int} {i r k : Nat} {x : Int} {val : Nat → Option Int} {fr : List Nat} (hP : Plant pl) (h : CalmSt pl ns i val fr) (inc : ns.Pairwise (· < ·)) (hk : fr[r]? = some k) (hx : ns[i]? = some x) :
    CalmSt pl ns (i + 1) (fun j => if j = k then some x else val j) (fr.eraseIdx r ++ supN pl k) := by
  have hm := List.mem_of_getElem? hk
  obtain ⟨k1, k2, k3⟩ := (h.fm k).mp hm
  have pp : (k :: fr.eraseIdx r).Perm fr := pick_perm hk
  have nd2 := pp.nodup_iff.mpr h.nd
  obtain ⟨nk, ne⟩ := List.nodup_cons.mp nd2
  have em : ∀ j, j ∈ fr.eraseIdx r ↔ j ∈ fr ∧ j ≠ k := fun j => by
    constructor
    · intro z
      exact ⟨pp.mem_iff.mp (List.mem_cons_of_mem _ z), fun y => nk (y ▸ z)⟩
    · rintro ⟨z, y⟩
      rcases List.mem_cons.mp (pp.mem_iff.mpr z) with w | w
      · exact absurd w y
      · exact w
  have less : ∀ j y, val j = some y → y < x := fun j y e => by
    obtain ⟨_, m, hm, em⟩ := h.vl j y e
    obtain ⟨a1, a2⟩ := List.getElem?_eq_some_iff.mp em
    obtain ⟨b1, b2⟩ := List.getElem?_eq_some_iff.mp hx
    have := List.pairwise_iff_getElem.mp inc m i a1 b1 hm
    omega
  have kc : ∀ j, 0 < j → cu pl j = k → val j = none := fun j j0 e => by
    cases q : val j with
    | none => rfl
    | some y =>
      obtain ⟨z, hz, _⟩ := h.up j y j0 q
      rw [e, k2] at hz
      cases hz
  refine ⟨?_, fun j => ?_, fun j y e => ?_, fun a b y ea eb => ?_, fun j y j0 e => ?_, ?_⟩
  · refine List.nodup_append.mpr ⟨ne, supN_nodup pl k, fun a ha b hb => ?_⟩
    rintro rfl
    obtain ⟨a1, _⟩ := (em a).mp ha
    obtain ⟨_, a2, a3⟩ := (h.fm a).mp a1
    obtain ⟨b1, b2, b3⟩ := (supN_mem hP).mp hb
    rcases a3 with z | ⟨y, z⟩
    · omega
    · rw [b3, k2] at z
      cases z
  · rw [List.mem_append, em, h.fm, supN_mem hP]
    constructor
    · rintro (⟨⟨a1, a2, a3⟩, a4⟩ | ⟨b1, b2, b3⟩)
      · refine ⟨a1, by rw [if_neg a4]; exact a2, a3.imp id fun ⟨y, e⟩ => ⟨y, ?_⟩⟩
        rw [if_neg fun z => by rw [z, k2] at e; cases e]
        exact e
      · have c := cu_lt pl b1
        refine ⟨b2, by rw [if_neg (by omega)]; exact kc j b1 b3, .inr ⟨x, if_pos b3⟩⟩
    · rintro ⟨a1, a2, a3⟩
      by_cases jk : j = k
      · rw [if_pos jk] at a2
        cases a2
      · rw [if_neg jk] at a2
        by_cases j0 : j = 0
        · exact .inl ⟨⟨a1, a2, .inl j0⟩, jk⟩
        · by_cases ck : cu pl j = k
          · exact .inr ⟨by omega, a1, ck⟩
          · refine .inl ⟨⟨a1, a2, .inr ?_⟩, jk⟩
            rcases a3 with z | ⟨y, z⟩
            · exact absurd z j0
            · rw [if_neg ck] at z
              exact ⟨y, z⟩
  · by_cases jk : j = k
    · rw [if_pos jk] at e
      cases e
      exact ⟨by omega, i, by omega, hx⟩
    · rw [if_neg jk] at e
      obtain ⟨a, m, b, c⟩ := h.vl j y e
      exact ⟨a, m, by omega, c⟩
  · by_cases ak : a = k <;> by_cases bk : b = k
    · rw [ak, bk]
    · rw [if_pos ak] at ea
      rw [if_neg bk] at eb
      cases ea
      have := less b _ eb
      omega
    · rw [if_neg ak] at ea
      rw [if_pos bk] at eb
      cases eb
      have := less a _ ea
      omega
    · rw [if_neg ak] at ea
      rw [if_neg bk] at eb
      exact h.inj a b y ea eb
  · by_cases jk : j = k
    · rw [if_pos jk] at e
      cases e
      rcases k3 with z | ⟨w, z⟩
      · omega
      · have c := cu_lt pl j0
        refine ⟨w, ?_, less _ w z⟩
        rw [jk] at c ⊢
        rw [if_neg (by omega)]
        exact z
    · rw [if_neg jk] at e
      obtain ⟨w, z, l⟩ := h.up j y j0 e
      refine ⟨w, ?_, l⟩
      rw [if_neg fun q => by rw [q, k2] at z; cases z]
      exact z
  · have e := countP_or (p := fun j => (val j).isSome) (q := fun j => decide (j = k)) (r := fun j => (if j = k then some x else val j).isSome) (fun j => by
      by_cases jk : j = k
      · simp [jk]
      · simp [jk]) (fun j hj => by
      by_cases jk : j = k
      · rw [jk, k2] at hj
        cases hj
      · simp [jk]) (List.range (pl.length + 1))
    rw [e, h.cnt, countP_one, if_pos (by omega)]
/-- all are laid -/
def laidS (pl : List Int) (val : Nat → Option Int) : List Int := (List.range (pl.length + 1)).map fun k => (val k).getD 0
theorem CalmSt.all {pl ns : List Int} {val : Nat → Option Int} {fr : List Nat} (h : CalmSt pl ns (pl.length + 1) val fr) : ∀ k, k ≤ pl.length → ∃ x, val k = some x := by
  intro k hk
  have z : (List.range (pl.length + 1)).countP (fun k => (val k).isSome) = (List.range (pl.length + 1)).length := by
    rw [h.cnt, List.length_range]
  have := List.countP_eq_length.mp z k (List.mem_range.mpr (by omega))
  cases e : val k with
  | none => rw [e] at this; cases this
  | some x => exact ⟨x, rfl⟩
theorem laid_at {pl : List Int} {val : Nat → Option Int} {k : Nat} {x : Int} (hk : k ≤ pl.length) (e : val k = some x) : (laidS pl val)[k]? = some x := by
  unfold laidS
  rw [List.getElem?_map, List.getElem?_range (by omega), Option.map_some, e]
  rfl
theorem CalmSt.ord {pl ns : List Int} {val : Nat → Option Int} {fr : List Nat} (h : CalmSt pl ns (pl.length + 1) val fr) : Ord pl (laidS pl val) := by
  intro k k0 k1
  have c := cu_lt pl k0
  obtain ⟨x, e⟩ := h.all k k1
  obtain ⟨y, z, l⟩ := h.up k x k0 e
  have a := laid_at k1 e
  have b := laid_at (show cu pl k ≤ pl.length by omega) z
  rw [bx_some a, bx_some b]
  exact l
end PT

set_option maxHeartbeats 4000000
/-! a day on a list of boxes; days until the stock is ordered -/
namespace PT
open PySem PySem.Spec PyProof.Rows L2 LamX NdefX
theorem pickB_congr {ss tt : List Int} : ∀ (l : List Int) (b : Int), (∀ x ∈ b :: l, bx ss x = bx tt x) → pickB ss b l = pickB tt b l
  | [], _, _ => rfl
  | o :: l, b, h => by
    have e1 := h o (List.mem_cons_of_mem _ List.mem_cons_self)
    have e2 := h b List.mem_cons_self
    show pickB ss (if bx ss o < bx ss b then o else b) l = pickB tt (if bx tt o < bx tt b then o else b) l
    rw [e1, e2]
    refine pickB_congr l _ fun x hx => ?_
    rcases List.mem_cons.mp hx with e | e
    · rw [e]
      split
      · exact e1
      · exact e2
    · exact h x (List.mem_cons_of_mem _ (List.mem_cons_of_mem _ e))
theorem bst_congr {pl ss tt : List Int} {v : Nat} (h : ∀ x ∈ sup pl pl.length v, bx ss x = bx tt x) : bst pl ss v = bst pl tt v := by
  unfold bst
  cases e : sup pl pl.length v with
  | nil => rfl
  | cons x r =>
    rw [e] at h
    show (pickB ss x (x :: r)).toNat = (pickB tt x (x :: r)).toNat
    rw [pickB_congr (x :: r) x fun y hy => h y (by
      rcases List.mem_cons.mp hy with z | z
      · rw [z]; exact List.mem_cons_self
      · exact z)]
theorem supN_gives {pl ss : List Int} (hP : Plant pl) {v : Nat} (h : supN pl v ≠ []) : gives pl ss v := gives_sup' hP h
where
  gives_sup' {pl ss : List Int} (hP : Plant pl) {v : Nat} (h : supN pl v ≠ []) : gives pl ss v := by
    obtain ⟨k, hk⟩ := List.exists_mem_of_ne_nil _ h
    obtain ⟨k0, k1, k2⟩ := (supN_mem hP).mp hk
    obtain ⟨g, _⟩ := gives_of (ss := ss) hP k0 k1
    rw [k2] at g
    exact g
theorem supN_nil {pl ss : List Int} {v : Nat} (h : supN pl v = []) : ¬ gives pl ss v := by
  have z : sup pl pl.length v = [] := by rw [← supN_sup, h]; rfl
  intro g
  have := bst_nil (ss := ss) z
  unfold gives at g
  omega
theorem ord_dec (pl ss : List Int) (hs : ss.length = pl.length + 1) (hn : ss.Nodup) : ldis pl ss pl.length = 0 ↔ Ord pl ss :=
  ⟨fun h k k0 k1 => ord_ldis hs hn pl.length (Nat.le_refl _) h k k0 k1, fun h => ldis_ord h pl.length (Nat.le_refl _)⟩
/-- the least number of days, from i on, after which the stock is ordered -/
def ordG (pl ss : List Int) (i : Nat) : Nat := if h : i < pl.length ∧ ldis pl (dyn pl ss i) pl.length ≠ 0 then ordG pl ss (i + 1) else i
termination_by pl.length - i
decreasing_by omega
/-- .. from the first day on -/
def ordN (pl ss : List Int) : Nat := ordG pl ss 0
theorem ordG_on {pl ss : List Int} {i : Nat} (h1 : i < pl.length) (h2 : ldis pl (dyn pl ss i) pl.length ≠ 0) : ordG pl ss i = ordG pl ss (i + 1) := by
  rw [ordG, dif_pos ⟨h1, h2⟩]
theorem ordG_end {pl ss : List Int} {i : Nat} (h : ldis pl (dyn pl ss i) pl.length = 0) : ordG pl ss i = i := by
  rw [ordG, dif_neg fun z => z.2 h]
theorem ordG_ok {pl ss : List Int} (hP : Plant pl) (hs : ss.length = pl.length + 1) (hn : ss.Nodup) : ∀ n i, pl.length - i = n → i ≤ pl.length →
    Ord pl (dyn pl ss (ordG pl ss i)) ∧ i ≤ ordG pl ss i ∧ ordG pl ss i ≤ pl.length ∧ ∀ j, i ≤ j → j < ordG pl ss i → ¬ Ord pl (dyn pl ss j) := by
  intro n
  induction n using Nat.strongRecOn with
  | ind n ih =>
    intro i hn2 hi
    obtain ⟨d1, d2⟩ := dyn_len hs hn i
    by_cases c : ldis pl (dyn pl ss i) pl.length = 0
    · rw [ordG_end c]
      exact ⟨(ord_dec pl _ d1 d2).mp c, Nat.le_refl _, hi, fun j a b => by omega⟩
    · have lt : i < pl.length := by
        rcases Nat.lt_or_ge i pl.length with z | z
        · exact z
        · have e : i = pl.length := by omega
          rw [e] at c
          have o := ord_end hP hs hn
          obtain ⟨d3, d4⟩ := dyn_len (pl := pl) hs hn pl.length
          exact absurd ((ord_dec pl _ d3 d4).mpr o) c
      rw [ordG_on lt c]
      obtain ⟨a1, a2, a3, a4⟩ := ih (pl.length - (i + 1)) (by omega) (i + 1) rfl lt
      refine ⟨a1, by omega, a3, fun j h1 h2 => ?_⟩
      by_cases e : j = i
      · subst e
        exact fun z => c ((ord_dec pl _ d1 d2).mpr z)
      · exact a4 j (by omega) h2
theorem ordN_ok {pl ss : List Int} (hP : Plant pl) (hs : ss.length = pl.length + 1) (hn : ss.Nodup) : Ord pl (dyn pl ss (ordN pl ss)) ∧ ordN pl ss ≤ pl.length ∧ ∀ j, j < ordN pl ss → ¬ Ord pl (dyn pl ss j) := by
  obtain ⟨a, _, b, c⟩ := ordG_ok hP hs hn _ 0 rfl (Nat.zero_le _)
  exact ⟨a, b, fun j h => c j (Nat.zero_le _) h⟩
/-- the chains of the first days -/
def chs (pl ss : List Int) (i : Nat) : List Nat := chn pl (dyn pl ss i) 0
end PT


set_option maxHeartbeats 4000000
/-! oldest_giver, pass_day, days_to_order -/
namespace PT
open PySem PySem.Spec PyProof.Rows L2 LamX NdefX
section
variable {P : Program} {w : World} {K : PySem.W.Frag} {mg : Str → Option Value} {base : Heap}
theorem ListsAt.rows {H H' : Hp} {l : Addr} {as : List Addr} {pl : List Int} (L : ListsAt H H' l as pl pl.length) : RowsN H' l as (pl.length + 1) (supN pl) :=
  ⟨L.hl, L.len, L.out, L.nd, fun j a e => by rw [supN_sup]; exact L.at_ j a e⟩
def spOldest (T : Tx K mg) : Sp := fun vs H Q _ => ∃ (p b : Addr) (pl ss : List Int) (v : Nat), vs = [.ref p, .ref b] ∧ Plant pl ∧ H p = some (.lst ((natI (supN pl v)).map V.int)) ∧ supN pl v ≠ [] ∧ H b = some (.lst (ss.map V.int)) ∧ ss.length = pl.length + 1 ∧ Tabs T.tabW H ∧
  ∀ H', ExtN H H' → Tabs T.tabW H' → Q (.int (bst pl ss v : Nat)) H'
theorem Tx.oldestGiver (T : Tx K mg) (B : TabB base mg T.c_oldest_giver T.P_oldest_giver) {k : Nat} : FnOk P w K mg base CX0 (k + 5) T.f_oldest_giver T.d_oldest_giver ["stations", "boxes"] (spOldest T) := by
  refine T.C_oldest_giver.ok scOldestGiver (fun vs H Q E h => ?_) (fun A outer s H vs Q E hr h => ?_)
  · obtain ⟨p, b, pl, ss, v, rfl, _⟩ := h
    rfl
  · obtain ⟨p, b, pl, ss, v, rfl, hP, hp, hne, hb, hs, hT, q⟩ := h
    refine ⟨_, pss_one (ps_ret (pe_minLam (T := T.tabW) (j := 1) (x := "boxes") (y := "station") B rfl T.memW_oldest_giver T.uniW_oldest_giver (hr.mono (by omega)) rfl (by rfl) T.n_min (pa_cons (pv 0) pa_nil)
      (nscope_by (by decide +kernel)) rfl (.inl (by rfl)) (by decide +kernel) (fun _ _ _ _ _ => rfl) rfl)), ?_⟩
    have e1 : (natI (supN pl v)).map V.int = (supN pl v).map fun k : Nat => V.int (k : Int) := by
      unfold natI
      rw [List.map_map]
      rfl
    have hm : (supN pl v).map (fun k : Nat => (k : Int)) = sup pl pl.length v := supN_sup pl v
    refine ⟨.ref p, rfl, p, b, supN pl v, ss, rfl, .inl (.inl (by rw [← e1]; exact hp)), hne, rfl, .inl (.inl (.inl hb)), fun k hk => ?_, hT, fun H' ex tb => ?_⟩
    · have := ((supN_mem hP).mp hk).2.1
      omega
    · rw [minK_bst hP hm hne]
      exact q H' ex tb
/-- a day that begins at any station -/
def spPassJ (T : Tx K mg) : Sp := fun vs H Q _ => ∃ (g b : Addr) (j : Nat) (pl ss : List Int) (as : List Addr), vs = [.ref g, .ref b, .int (j : Int)] ∧ Plant pl ∧ j ≤ pl.length ∧ RowsN H g as (pl.length + 1) (supN pl) ∧ g ≠ b ∧ b ∉ as ∧ H b = some (.lst (ss.map V.int)) ∧ ss.length = pl.length + 1 ∧ Tabs T.tabW H ∧
  ∀ (H' : Hp) (t c : Addr), BarN b H H' → Tabs T.tabW H' → NewN H c → NewN H t → H' b = some (.lst ((day pl ss j).2.map V.int)) → H' c = some (.lst ((natI (chn pl ss j)).map V.int)) → H' t = some (.tup [.int (bx ss j), .ref c]) → Q (.ref t) H'
theorem Tx.passDayJ (T : Tx K mg) (B : TabB base mg T.c_oldest_giver T.P_oldest_giver) {k : Nat} : FnOk P w K mg base CX0 (k + 6) T.f_pass_day T.d_pass_day ["givers", "boxes", "first"] (spPassJ T) := by
  refine okD T.F_pass_day scPassDay (fun vs H Q E h => ?_) (fun cdv A outer s H vs Q E hr h => ?_)
  · obtain ⟨g, b, j, pl, ss, as, rfl, _⟩ := h
    rfl
  · obtain ⟨g, b, j, pl, ss, as, rfl, hP, hj, R, gb, bas, hb, hs, hT, q⟩ := h
    have nd := scPassDay.nd
    have hlen := hP.len
    refine ⟨_, (pss_cons (ps_set (i := 3) nd rfl (.inl rfl) (pe_op op_add (pe_callB (cr_max rfl) (by rfl) T.n_max (by decide +kernel) (pa_cons (pv 1) pa_nil)) pe_int))
(pss_cons (ps_set (i := 4) nd rfl (.inl rfl) (pe_ix ix_list (pv 1) (pv 2) (fun _ _ => rfl)))
(pss_cons (ps_set (i := 5) nd rfl (.inl rfl) (pv 2))
(pss_cons (ps_set (i := 6) nd rfl (.inl rfl) (pe_lst (pa_cons (pv 5) pa_nil)))
(pss_cons (ps_while PassesOwn.never (pt_truth (pe_ix ix_list (pv 0) (pv 5) (fun _ _ => rfl)) (by intro _; rfl))
(pss_cons (ps_set (i := 7) nd rfl (.inl rfl) (pe_call (T.oldestGiver B (k := 0)) (hr.mono (by omega)) (by rfl) T.g_oldest_giver T.F_oldest_giver.kp T.b_oldest_giver .nil pass0 (pa_cons (pe_ix ix_list (pv 0) (pv 5) (fun _ _ => rfl)) (pa_cons (pv 1) pa_nil))))
(pss_cons (ps_asg (pe_ix ix_list (pv 1) (pv 7) (fun _ _ => rfl)) (pg_sub (pv 1) (pv 5) set_list))
(pss_cons (ps_set (i := 5) nd rfl (.inl rfl) (pv 7))
(pss_one (ps_expr (pe_bm PySem.F.plainAttrs_list PySem.F.slot_list_append PySem.F.type_list_append mt_append (pv 6) (pa_cons (pv 5) pa_nil))))))))
(pss_cons (ps_asg (pv 3) (pg_sub (pv 1) (pv 5) set_list))
(pss_one (ps_ret (pe_tup (pa_cons (pv 4) (pa_cons (pv 6) pa_nil))))))))))), ?_⟩
    have hne : ss ≠ [] := fun z => by
      rw [z] at hs
      simp at hs
    refine ⟨.ref b, rfl, b, ss, rfl, .inl (.inl hb), by omega, fun m hm hu => ⟨_, _, rfl, rfl, ?_⟩⟩
    have em : m = mxv ss := mxv_of hm hu
    subst em
    clear hm hu
    refine ⟨.ref b, rfl, .int (j : Int), rfl, b, _, (j : Int), .int (bx ss j), rfl, rfl, .inl (.inl hb), atI_nat (by rw [List.getElem?_map, bx_at (by omega)]; rfl), ?_⟩
    refine ⟨.int (j : Int), rfl, .int (j : Int), rfl, (by show 1 ≤ sizeLine; decide), fun ch nch => ?_⟩
    have chb : ch ≠ b := Ne.symm (ne_of_none hb nch)
    refine ⟨fun m σ G => ∃ (c : Nat) (pre : List Nat) (row : List Int) (y6 : Option V), σ = [some (.ref g), some (.ref b), some (.int (j : Int)), some (.int (mxv ss + 1)), some (.int (bx ss j)), some (.int (c : Int)), some (.ref ch), y6] ∧ m = pl.length - c ∧ BarN b H G ∧ Tabs T.tabW G ∧ G b = some (.lst (row.map V.int)) ∧ G ch = some (.lst ((natI (pre ++ [c])).map V.int)) ∧
        c ≤ pl.length ∧ row.length = pl.length + 1 ∧ pre.length ≤ c ∧ (∀ k, c < k → row[k]? = ss[k]?) ∧ go pl ss row pre c = day pl ss j,
      ⟨_, j, [], ss, none, rfl, rfl, Same.barN (same_new nch), tabs_same hT (same_new nch), (same_new nch) _ _ hb, upd_same, hj, hs, Nat.zero_le _, fun _ _ => rfl, rfl⟩, ?_⟩
    rintro m σ G ⟨c, pre, row, y6, rfl, rfl, bG, tG, eb, ec, hc, lr, lp, lk, eg⟩
    have RG := R.barN bG gb bas
    obtain ⟨r, er, hr1⟩ := RG.get (i := c) (by omega)
    have rin := List.mem_of_getElem? er
    refine ⟨.ref g, rfl, .int (c : Int), rfl, g, as.map V.ref, (c : Int), .ref r, rfl, rfl, .inl (.inl RG.hl), atI_nat (by rw [List.getElem?_map, er]; rfl), _, .inl ⟨_, .inl (.inl hr1), rfl⟩, ?_⟩
    by_cases hsup : supN pl c = []
    · rw [hsup]
      refine iteF ?_
      have ng := supN_nil (ss := ss) hsup
      rw [go_end ng] at eg
      refine ⟨_, rfl, .ref b, rfl, .int (c : Int), rfl, b, _, (c : Int), c, rfl, rfl, eb, by rw [List.length_map, lr]; exact ixN_at (by omega), ?_⟩
      have ec2 : (upd G b (.lst ((row.map V.int).set c (.int (mxv ss + 1))))) ch = some (.lst ((natI (pre ++ [c])).map V.int)) := by
        rw [upd_ne chb]
        exact ec
      refine ⟨.int (bx ss j), rfl, .ref ch, rfl, (by show 2 ≤ sizeLine; decide), fun t nt => ?_⟩
      have st := same_new (o := .tup [V.int (bx ss j), .ref ch]) nt
      have bar2 : BarN b H (upd G b (.lst ((row.map V.int).set c (.int (mxv ss + 1))))) := fun d o h1 h2 h3 => by
        rw [upd_ne h1]
        exact bG d o h1 h2 h3
      have nt2 : NewN H t := fun o e => by
        cases o with
        | tbl ps => exact ⟨ps, rfl⟩
        | _ =>
          have tb : t ≠ b := fun z => by rw [z, upd_same] at nt; cases nt
          have z := bar2 t _ tb e (fun ps y => by cases y)
          rw [nt] at z
          cases z
      have e1 : (day pl ss j).2 = row.set c (mxv ss + 1) := by rw [← eg]
      have e2 : chn pl ss j = pre ++ [c] := by rw [← day_chn, ← eg]
      refine q _ t ch (bar2.trans (Same.barN st)) (tabs_same (tabs_set tG eb) st) (newN_of nch) nt2 (st _ _ ?_) (st _ _ ?_) upd_same
      · rw [upd_same, e1, List.map_set]
      · rw [e2]
        exact ec2
    · have e0 : (!((natI (supN pl c)).map V.int).isEmpty) = true := by
        obtain ⟨x, xs, e⟩ := List.exists_cons_of_ne_nil hsup
        rw [e]
        rfl
      rw [e0]
      refine iteT ?_
      have gv := supN_gives (ss := ss) hP hsup
      have gv' : c < bst pl ss c ∧ bst pl ss c ≤ pl.length := gv
      have eg2 := go_on (pl := pl) (ss := ss) (row := row) (pre := pre) gv
      have ebst : bst pl row c = bst pl ss c := bst_congr fun x hx => by
        obtain ⟨kx, rfl, h1, h2⟩ := sup_gt hP hx
        have z := lk kx h1
        rw [bx_at (by omega), bx_at (by omega)] at z
        exact Option.some.inj z
      refine ⟨_, fun _ _ z => z, ?_⟩
      refine ⟨.ref g, rfl, .int (c : Int), rfl, g, as.map V.ref, (c : Int), .ref r, rfl, rfl, .inl (.inl RG.hl), atI_nat (by rw [List.getElem?_map, er]; rfl), .ref b, rfl, r, b, pl, row, c, rfl, hP, hr1, hsup, eb, lr, tG, fun G2 x2 t2 => ?_⟩
      rw [ebst]
      generalize bst pl ss c = d at gv' eg2
      have eb2 := extN_lst x2 eb
      have ec2 := extN_lst x2 ec
      have erow : (row.map V.int)[d]? = some (.int (bx ss d)) := by
        rw [List.getElem?_map, lk d gv'.1, bx_at (by omega)]
        rfl
      refine ⟨.ref b, rfl, .int (d : Int), rfl, b, _, (d : Int), .int (bx ss d), rfl, rfl, .inl (.inl eb2), atI_nat erow, .ref b, rfl, .int (c : Int), rfl, b, _, (c : Int), c, rfl, rfl, eb2, by rw [List.length_map, lr]; exact ixN_at (by omega), ?_⟩
      have ec3 : (upd G2 b (.lst ((row.map V.int).set c (.int (bx ss d))))) ch = some (.lst ((natI (pre ++ [c])).map V.int)) := by
        rw [upd_ne chb]
        exact ec2
      refine ⟨.int (d : Int), rfl, .ref ch, rfl, .inl ⟨rfl, _, .inl (.inl ec3)⟩, .int (d : Int), rfl, ch, _, _, rfl, rfl, ec3, ?_, ?_⟩
      · rw [List.length_map, natI_len, List.length_append]
        exact small300 (by show pre.length + 1 ≤ 300; omega)
      refine ⟨pl.length - d, by omega, d, pre ++ [c], row.set c (bx ss d), _, rfl, rfl, fun x o h1 h2 h3 => ?_, ?_, ?_, ?_, gv'.2, by rw [List.length_set]; exact lr, ?_, fun k hk => ?_, ?_⟩
      · have nx : x ≠ ch := fun z => by
          rw [z, nch] at h2
          cases h2
        rw [upd_ne nx, upd_ne h1]
        exact x2 x o (bG x o h1 h2 h3) h3
      · exact tabs_set (tabs_set t2 eb2) ec3
      · rw [upd_ne (Ne.symm chb), upd_same, List.map_set]
      · rw [upd_same, natI_app (pre ++ [c]), List.map_append]
        rfl
      · rw [List.length_append]
        show pre.length + 1 ≤ d
        omega
      · rw [List.getElem?_set_ne (by omega)]
        exact lk k (by omega)
      · rw [← eg2]
        exact eg
def spPass (T : Tx K mg) : Sp := fun vs H Q _ => ∃ (g b : Addr) (pl ss : List Int) (as : List Addr), vs = [.ref g, .ref b, .int 0] ∧ Plant pl ∧ RowsN H g as (pl.length + 1) (supN pl) ∧ g ≠ b ∧ b ∉ as ∧ H b = some (.lst (ss.map V.int)) ∧ ss.length = pl.length + 1 ∧ Tabs T.tabW H ∧
  ∀ (H' : Hp) (t c : Addr), BarN b H H' → Tabs T.tabW H' → NewN H c → NewN H t → H' b = some (.lst ((day pl ss 0).2.map V.int)) → H' c = some (.lst ((natI (chn pl ss 0)).map V.int)) → H' t = some (.tup [.int (bx ss 0), .ref c]) → Q (.ref t) H'
theorem Tx.passDay (T : Tx K mg) (B : TabB base mg T.c_oldest_giver T.P_oldest_giver) {k : Nat} : FnOk P w K mg base CX0 (k + 6) T.f_pass_day T.d_pass_day ["givers", "boxes", "first"] (spPass T) :=
  fnOk_of (T.passDayJ B) fun vs H Q E ⟨g, b, pl, ss, as, e, hP, R, gb, bas, hb, hs, hT, q⟩ => ⟨g, b, 0, pl, ss, as, e, hP, Nat.zero_le _, R, gb, bas, hb, hs, hT, q⟩
def spToOrderS (T : Tx K mg) : Sp := fun vs H Q _ => ∃ (p q : Addr) (pl ss : List Int), vs = [.ref p, .ref q] ∧ PlantAt H p pl ∧ StkAt H q ss ∧ ss.length = pl.length + 1 ∧ ss.Nodup ∧ Tabs T.tabW H ∧
  ∀ (H' : Hp) (t cl ot : Addr) (cs : List Addr), ExtN H H' → Tabs T.tabW H' → NewN H t → NewN H cl → NewN H ot → (∀ c ∈ cs, NewN H c) → RowsN H' cl cs (ordN pl ss) (chs pl ss) → H' ot = some (.tup ((dyn pl ss (ordN pl ss)).map V.int)) → H' t = some (.tup [.ref cl, .ref ot]) → Q (.ref t) H'
theorem Tx.daysToOrderS (T : Tx K mg) (B : TabB base mg T.c_oldest_giver T.P_oldest_giver) {k : Nat} :
    FnOk P w K mg base CX0 (k + 7) T.f_days_to_order T.d_days_to_order ["plant", "stock"] (spToOrderS T) := by
  refine T.F_days_to_order.ok scDaysToOrder (fun vs H Q E h => ?_) (fun cdv A outer s H vs Q E hr h => ?_)
  · obtain ⟨p, q, pl, ss, rfl, _⟩ := h
    rfl
  · obtain ⟨p, q, pl, ss, rfl, hP, hq, hs, hn, hT, qq⟩ := h
    have nd := scDaysToOrder.nd
    have hlen := hP.ok.len
    refine ⟨_, pss_cons (ps_set (i := 2) nd rfl (.inl rfl) (pe_call (ok_lists T) (hr.mono (by omega)) (by rfl) T.g_supplier_lists T.F_supplier_lists.kp T.b_supplier_lists .nil pass0 (pa_cons (pv 0) pa_nil)))
      (pss_cons (ps_set (i := 3) nd rfl (.inl rfl) (pe_callTy call_list_of (by rfl) T.n_list (by decide +kernel) (pa_cons (pv 1) pa_nil)))
      (pss_cons (ps_set (i := 4) nd rfl (.inl rfl) (pe_lst pa_nil))
      (pss_cons (ps_while PassesOwn.never (pt_cmpR op_notN (pe_call (T.lastDisorder (k := 0)) (hr.mono (by omega)) (by rfl) T.g_last_disorder T.F_last_disorder.kp T.b_last_disorder .nil pass0 (pa_cons (pv 0) (pa_cons (pv 3) pa_nil))) pe_non (nomark _))
        (pss_cons (ps_asg (pe_call (T.passDay B (k := 0)) (hr.mono (by omega)) (by rfl) T.g_pass_day T.F_pass_day.kp T.b_pass_day T.V_pass_day pass0 (pa_cons (pv 2) (pa_cons (pv 3) pa_nil))) (pg_tup (by rfl) (pgs_cons (pg_name (i := 5) nd rfl (.inl rfl)) (pgs_cons (pg_name (i := 6) nd rfl (.inl rfl)) pgs_nil))))
        (pss_one (ps_expr (pe_bm PySem.F.plainAttrs_list PySem.F.slot_list_append PySem.F.type_list_append mt_append (pv 4) (pa_cons (pv 6) pa_nil))))))
      (pss_one (ps_ret (pe_tup (pa_cons (pv 4) (pa_cons (pe_callTy call_tuple_of (by rfl) T.n_tuple (by decide +kernel) (pa_cons (pv 3) pa_nil)) pa_nil)))))))), ?_⟩
    refine ⟨.ref p, rfl, p, pl, rfl, hP, fun H1 g as L => ?_⟩
    have R0 := L.rows
    have s1 := L.sm
    have hq1 := (hq.same s1).seq (K := K)
    refine ⟨.ref q, rfl, q, _, rfl, .inr hq1, fun b nb => ?_⟩
    have s2 := same_new (o := .lst (ss.map V.int)) nb
    refine ⟨Nat.zero_le _, fun cl ncl => ?_⟩
    have s3 := same_new (o := .lst []) ncl
    have s23 := s2.trans s3
    have R1 := R0.same s23
    have gb : g ≠ b := ne_of_none L.hl nb
    have bas : b ∉ as := fun h => by
      obtain ⟨xs, z⟩ := R0.mem h
      exact ne_of_none z nb rfl
    have nHb : H b = none := s1.free nb
    have nHc : H cl = none := (s1.trans s2).free ncl
    have clb : cl ≠ b := Ne.symm (ne_of_none upd_same ncl)
    have clg : cl ≠ g := Ne.symm (ne_of_none (s2 _ _ L.hl) ncl)
    have clas : cl ∉ as := fun h => by
      obtain ⟨xs, z⟩ := (R0.same s2).mem h
      exact ne_of_none z ncl rfl
    have h0 := ordN_ok hP.ok hs hn
    refine ⟨fun m σ G => ∃ (i : Nat) (y5 y6 : Option V) (cs : List Addr), σ = [some (.ref p), some (.ref q), some (.ref g), some (.ref b), some (.ref cl), y5, y6] ∧ m = pl.length - i ∧ i ≤ pl.length ∧ ExtN H G ∧ Tabs T.tabW G ∧ RowsN G g as (pl.length + 1) (supN pl) ∧ G b = some (.lst ((dyn pl ss i).map V.int)) ∧ RowsN G cl cs i (chs pl ss) ∧ b ∉ cs ∧ (∀ c ∈ cs, NewN H c) ∧ ordG pl ss i = ordN pl ss,
      ⟨_, 0, none, none, [], rfl, rfl, Nat.zero_le _, same_extN (s1.trans s23), tabs_same hT (s1.trans s23), R1, s3 _ _ upd_same, .start, by simp, (fun c h => nomatch h), rfl⟩, ?_⟩
    rintro m σ G ⟨i, y5, y6, cs, rfl, rfl, hi, xG, tG, RG, eb, CG, bcs, ncs, eo⟩
    obtain ⟨d1, d2⟩ := dyn_len hs hn i
    have PG := extN_plant xG hP
    refine ⟨.ref p, rfl, .ref b, rfl, p, b, pl, dyn pl ss i, rfl, PG, .inl (.inl (.inl eb)), d1, fun e0 => ⟨rfl, _, rfl, iteF ?_⟩, fun k e0 t nt => ⟨rfl, _, rfl, iteT ?_⟩⟩
    · -- ordered
      rw [ordG_end e0] at eo
      subst eo
      refine ⟨.ref cl, rfl, .ref b, rfl, b, _, rfl, .inl ⟨.inl (.inl eb), fun ot not_ => ⟨(by show 2 ≤ sizeLine; decide), fun t nt => ?_⟩⟩⟩
      have s8 := same_new (o := .tup ((dyn pl ss (ordN pl ss)).map V.int)) not_
      have s9 := same_new (o := .tup [V.ref cl, .ref ot]) nt
      have s89 := s8.trans s9
      exact qq _ t cl ot cs (xG.trans (same_extN s89)) (tabs_same tG s89) ((newN_of (s8.free nt)).back xG) (newN_of nHc) ((newN_of not_).back xG) ncs (CG.same s89) (s9 _ _ upd_same) upd_same
    · -- a day
      have lt : i < pl.length := by
        rcases Nat.lt_or_ge i pl.length with z | z
        · exact z
        · have e : i = pl.length := by omega
          subst e
          have o := ord_end hP.ok hs hn
          rw [ldis_ord o pl.length (Nat.le_refl _)] at e0
          cases e0
      have eo2 := eo
      rw [ordG_on lt (by omega)] at eo2
      have st := same_new (o := .tup [V.int ((cu pl (k + 1) : Nat) : Int), .int ((k + 1 : Nat) : Int)]) nt
      refine ⟨_, fun _ _ z => z, ?_⟩
      refine ⟨.ref g, rfl, .ref b, rfl, g, b, pl, dyn pl ss i, as, rfl, hP.ok, RG.same st, gb, bas, st _ _ eb, d1, tabs_same tG st, fun G2 t2 c2 b2 tb2 nc2 nt2 eb2 ec2 et2 => ?_⟩
      refine ⟨t2, _, rfl, .inl (.inl et2), rfl, _, _, rfl, _, _, rfl, rfl, ?_⟩
      have C2 := (CG.same st).barN b2 clb bcs
      have nc1 : NewN G c2 := nc2.back (same_extN st)
      have xG2 : ExtN H G2 := b2.extN' nHb (xG.trans (same_extN st))
      refine ⟨.ref cl, rfl, .inl ⟨rfl, _, .inl (.inl C2.hl)⟩, .ref c2, rfl, cl, _, _, rfl, rfl, C2.hl, ?_, ?_⟩
      · rw [List.length_map, C2.len]
        exact small300 (by omega)
      have cb : c2 ≠ b := fun z => by
        rw [z] at nc2
        exact nc2.lst (st _ _ eb) rfl
      refine ⟨pl.length - (i + 1), by omega, i + 1, _, _, cs ++ [c2], rfl, rfl, lt, ?_, ?_, ?_, ?_, ?_, ?_, ?_, eo2⟩
      · exact extN_set xG2 nHc
      · exact tabs_set tb2 C2.hl
      · exact ((RG.same st).barN b2 gb bas).other clas clg
      · rw [upd_ne (Ne.symm clb)]
        exact eb2
      · have z := (CG.same st).snocB b2 clb bcs nc2 ec2
        exact z
      · intro h
        rcases List.mem_append.mp h with z | z
        · exact bcs z
        · exact cb (List.mem_singleton.mp z).symm
      · intro c h
        rcases List.mem_append.mp h with z | z
        · exact ncs c z
        · rw [List.mem_singleton.mp z]
          exact nc1.back xG
def spToOrder (T : Tx K mg) : Sp := fun vs H Q _ => ∃ (p q : Addr) (pl ss : List Int), vs = [.ref p, .ref q] ∧ PlantAt H p pl ∧ H q = some (.tup (ss.map V.int)) ∧ ss.length = pl.length + 1 ∧ ss.Nodup ∧ Tabs T.tabW H ∧
  ∀ (H' : Hp) (t cl ot : Addr) (cs : List Addr), ExtN H H' → Tabs T.tabW H' → NewN H t → NewN H cl → NewN H ot → (∀ c ∈ cs, NewN H c) → RowsN H' cl cs (ordN pl ss) (chs pl ss) → H' ot = some (.tup ((dyn pl ss (ordN pl ss)).map V.int)) → H' t = some (.tup [.ref cl, .ref ot]) → Q (.ref t) H'
end
end PT


set_option maxHeartbeats 4000000
/-! first_days, run, record -/
namespace PT
open PySem PySem.Spec PyProof.Rows L2 LamX NdefX
/-- a day of the record, as it stands in the heap -/
def RowF (pl ss : List Int) (G : Hp) (i : Nat) (v : V) : Prop := ∃ a c, v = .ref a ∧ G a = some (.tup [.int (bx (dyn pl ss i) 0), .ref c]) ∧ G c = some (.tup ((natI (chs pl ss i)).map V.int))
theorem RowF.moves {pl ss : List Int} {G G' : Hp} {i : Nat} {v : V} (e : ∀ a xs, G a = some (.tup xs) → G' a = some (.tup xs)) (h : RowF pl ss G i v) : RowF pl ss G' i v := let ⟨a, c, h1, h2, h3⟩ := h; ⟨a, c, h1, e _ _ h2, e _ _ h3⟩
section
variable {P : Program} {w : World} {K : PySem.W.Frag} {mg : Str → Option Value} {base : Heap}
def spFirstS (T : Tx K mg) : Sp := fun vs H Q _ => ∃ (p q : Addr) (pl ss : List Int) (d : Nat), vs = [.ref p, .ref q, .int (d : Int)] ∧ PlantAt H p pl ∧ StkAt H q ss ∧ ss.length = pl.length + 1 ∧ ss.Nodup ∧ d ≤ 2000 ∧ Tabs T.tabW H ∧
  ∀ (H' : Hp) (t rl ot : Addr) (us : List V), ExtN H H' → Tabs T.tabW H' → NewN H t → NewN H rl → NewN H ot → H' t = some (.tup [.ref rl, .ref ot]) → H' ot = some (.tup ((dyn pl ss d).map V.int)) → H' rl = some (.lst us) → us.length = d → (∀ i v, us[i]? = some v → RowF pl ss H' i v) → Q (.ref t) H'
theorem Tx.firstDaysS (T : Tx K mg) (B2 : TabB base mg T.c_oldest_giver T.P_oldest_giver) {k : Nat} :
    FnOk P w K mg base CX0 (k + 7) T.f_first_days T.d_first_days ["plant", "stock", "days"] (spFirstS T) := by
  refine T.F_first_days.ok scFirstDays (fun vs H Q E h => ?_) (fun cdv A outer s H vs Q E hr h => ?_)
  · obtain ⟨p, q, pl, ss, d, rfl, _⟩ := h
    rfl
  · obtain ⟨p, q, pl, ss, d, rfl, hP, hq, hs, hn, hd, hT, qq⟩ := h
    have nd := scFirstDays.nd
    have hlen := hP.ok.len
    refine ⟨_, (pss_cons (ps_expr (pe_call (T.checkPlant (k := 0)) (hr.mono (by omega)) (by rfl) T.g_check_plant T.F_check_plant.kp T.b_check_plant .nil pass0 (pa_cons (pv 0) pa_nil)))
(pss_cons (ps_expr (pe_call (T.checkStockF (k := 0)) (hr.mono (by omega)) (by rfl) T.g_check_stock T.F_check_stock.kp T.b_check_stock .nil pass0 (pa_cons (pv 0) (pa_cons (pv 1) pa_nil))))
(pss_cons (ps_expr (pe_call (T.checkDays (k := 0)) (hr.mono (by omega)) (by rfl) T.g_check_days T.F_check_days.kp T.b_check_days .nil pass0 (pa_cons (pv 2) (pa_cons pe_int (pa_cons (pe_glob (v := .int 2000) (by rfl) T.g_MOST_DAYS ⟨_, rfl⟩) pa_nil)))))
(pss_cons (ps_set (i := 3) nd rfl (.inl rfl) (pe_call (ok_lists T) (hr.mono (by omega)) (by rfl) T.g_supplier_lists T.F_supplier_lists.kp T.b_supplier_lists .nil pass0 (pa_cons (pv 0) pa_nil)))
(pss_cons (ps_set (i := 4) nd rfl (.inl rfl) (pe_callTy call_list_of (by rfl) T.n_list (by decide +kernel) (pa_cons (pv 1) pa_nil)))
(pss_cons (ps_set (i := 5) nd rfl (.inl rfl) (pe_lst pa_nil))
(pss_cons (ps_for PassesOwn.never rfl (pi_range1 (by rfl) T.n_range (pa_cons (pv 2) pa_nil)) (pg_name (i := 6) nd rfl (.inl rfl))
(pss_cons (ps_asg (pe_call (T.passDay B2 (k := 0)) (hr.mono (by omega)) (by rfl) T.g_pass_day T.F_pass_day.kp T.b_pass_day T.V_pass_day pass0 (pa_cons (pv 3) (pa_cons (pv 4) pa_nil))) (pg_tup (by rfl) (pgs_cons (pg_name (i := 7) nd rfl (.inl rfl)) (pgs_cons (pg_name (i := 8) nd rfl (.inl rfl)) pgs_nil))))
(pss_one (ps_expr (pe_bm PySem.F.plainAttrs_list PySem.F.slot_list_append PySem.F.type_list_append mt_append (pv 5) (pa_cons (pe_tup (pa_cons (pv 7) (pa_cons (pe_callTy call_tuple_of (by rfl) T.n_tuple (by decide +kernel) (pa_cons (pv 8) pa_nil)) pa_nil))) pa_nil))))))
(pss_one (ps_ret (pe_tup (pa_cons (pv 5) (pa_cons (pe_callTy call_tuple_of (by rfl) T.n_tuple (by decide +kernel) (pa_cons (pv 4) pa_nil)) pa_nil)))))))))))), ?_⟩
    refine ⟨.ref p, rfl, .ref p, rfl, hP.fits, fun G1 s1 => ?_⟩
    refine ⟨.ref p, rfl, .ref q, rfl, p, q, pl.map V.int, ss, rfl, seqT s1 hP.seq, hq.same s1, by rw [List.length_map]; exact hs, by rw [hs]; omega, hn, fun G2 s2 => ?_⟩
    have s12 := s1.trans s2
    have hd2 : ((d : Nat) : Int) ≤ 2000 := by omega
    refine ⟨.int (d : Int), rfl, (d : Int), 0, 2000, rfl, by omega, hd2, ?_⟩
    refine ⟨.ref p, rfl, p, pl, rfl, hP.same s12, fun H1 g as L => ?_⟩
    have R0 := L.rows
    have s3 := L.sm
    have hq1 := ((hq.same s12).same s3).seq (K := K)
    refine ⟨.ref q, rfl, q, _, rfl, .inr hq1, fun b nb => ?_⟩
    have s4 := same_new (o := .lst (ss.map V.int)) nb
    refine ⟨Nat.zero_le _, fun rl nrl => ?_⟩
    have s5 := same_new (o := .lst []) nrl
    have s45 := s4.trans s5
    have R1 := R0.same s45
    have gb : g ≠ b := ne_of_none L.hl nb
    have bas : b ∉ as := fun h => by
      obtain ⟨xs, z⟩ := R0.mem h
      exact ne_of_none z nb rfl
    have s13 := s12.trans s3
    have nHb : H b = none := s13.free nb
    have nHr : H rl = none := (s13.trans s4).free nrl
    have rlb : rl ≠ b := Ne.symm (ne_of_none upd_same nrl)
    have rlg : rl ≠ g := Ne.symm (ne_of_none (s4 _ _ L.hl) nrl)
    have rlas : rl ∉ as := fun h => by
      obtain ⟨xs, z⟩ := (R0.same s4).mem h
      exact ne_of_none z nrl rfl
    have sA := s13.trans s45
    refine ⟨.int (d : Int), rfl, (d : Int), rfl, by omega, by omega, ?_⟩
    rw [Int.toNat_natCast]
    refine for_range (lo := 0) (n := d) (fun i σ G => ∃ (y6 y7 y8 : Option V) (us : List V), σ = [some (.ref p), some (.ref q), some (.int (d : Int)), some (.ref g), some (.ref b), some (.ref rl), y6, y7, y8] ∧ ExtN H G ∧ Tabs T.tabW G ∧ RowsN G g as (pl.length + 1) (supN pl) ∧ G b = some (.lst ((dyn pl ss i).map V.int)) ∧ G rl = some (.lst us) ∧ us.length = i ∧ ∀ j v, us[j]? = some v → RowF pl ss G j v)
      ⟨none, none, none, [], rfl, same_extN sA, tabs_same hT sA, R1, s5 _ _ upd_same, upd_same, rfl, fun j v h => by cases h⟩ (fun i σ G hi p1 => ?_) (fun σ G p1 => ?_)
    · obtain ⟨y6, y7, y8, us, rfl, xG, tG, RG, eb, er, lu, ru⟩ := p1
      obtain ⟨d1, d2⟩ := dyn_len hs hn i
      refine ⟨.ref g, rfl, .ref b, rfl, g, b, pl, dyn pl ss i, as, rfl, hP.ok, RG, gb, bas, eb, d1, tG, fun G2 t2 c2 b2 tb2 nc2 nt2 eb2 ec2 et2 => ?_⟩
      refine ⟨t2, _, rfl, .inl (.inl et2), rfl, _, _, rfl, _, _, rfl, rfl, ?_⟩
      have er2 := b2.lst rlb er
      have xG2 : ExtN H G2 := b2.extN' nHb xG
      refine ⟨.ref rl, rfl, .inl ⟨rfl, _, .inl (.inl er2)⟩, .int (bx (dyn pl ss i) 0), rfl, .ref c2, rfl, c2, _, rfl, .inl ⟨.inl (.inl ec2), fun tc ntc => ⟨(by show 2 ≤ sizeLine; decide), fun tt ntt => ⟨rl, us, .ref tt, rfl, rfl, upd_at (upd_at er2 ntc) ntt, ?_, ?_⟩⟩⟩⟩
      · rw [lu]
        show i < 2 ^ 24
        omega
      have s6 := same_new (o := .tup ((natI (chn pl (dyn pl ss i) 0)).map V.int)) ntc
      have s7 := same_new (o := .tup [V.int (bx (dyn pl ss i) 0), .ref tc]) ntt
      have s67 := s6.trans s7
      have er7 := s67 _ _ er2
      have e8 : (upd (upd G2 tc (.tup ((natI (chn pl (dyn pl ss i) 0)).map V.int))) tt (.tup [V.int (bx (dyn pl ss i) 0), .ref tc])) tc = some (.tup ((natI (chn pl (dyn pl ss i) 0)).map V.int)) := s7 _ _ upd_same
      have e9 : (upd (upd G2 tc (.tup ((natI (chn pl (dyn pl ss i) 0)).map V.int))) tt (.tup [V.int (bx (dyn pl ss i) 0), .ref tc])) tt = some (.tup [V.int (bx (dyn pl ss i) 0), .ref tc]) := upd_same
      have x7 := xG2.trans (same_extN s67)
      have t7 := tabs_same tb2 s67
      have R7 := ((RG.barN b2 gb bas).same s67)
      have eb7 := s67 _ _ eb2
      have r7 : ∀ j v, us[j]? = some v → RowF pl ss _ j v := fun j v h => (ru j v h).moves (G' := (upd (upd G2 tc (.tup ((natI (chn pl (dyn pl ss i) 0)).map V.int))) tt (.tup [V.int (bx (dyn pl ss i) 0), .ref tc]))) fun a xs ha => s67 _ _ (b2.tup (fun z => by rw [z, eb] at ha; cases ha) ha)
      revert er7 e8 e9 x7 t7 R7 eb7 r7
      generalize (upd (upd G2 tc (.tup ((natI (chn pl (dyn pl ss i) 0)).map V.int))) tt (.tup [V.int (bx (dyn pl ss i) 0), .ref tc])) = G7
      intro er7 e8 e9 x7 t7 R7 eb7 r7
      refine ⟨_, _, _, us ++ [.ref tt], rfl, extN_set x7 nHr, tabs_set t7 er7, R7.other rlas rlg, ?_, upd_same, ?_, ?_⟩
      · rw [upd_ne (Ne.symm rlb)]
        exact eb7
      · rw [List.length_append, lu]
        rfl
      · have mv : ∀ a xs, G7 a = some (.tup xs) → (upd G7 rl (.lst (us ++ [.ref tt]))) a = some (.tup xs) := fun a xs ha => by
          rw [upd_ne (fun e => by rw [e, er7] at ha; cases ha)]
          exact ha
        intro j v h
        rcases Nat.lt_or_ge j us.length with z | z
        · rw [List.getElem?_append_left z] at h
          exact (r7 j v h).moves mv
        · rw [List.getElem?_append_right z] at h
          have e : j = us.length := by
            rcases Nat.lt_or_ge (j - us.length) 1 with y | y
            · omega
            · rw [List.getElem?_eq_none (by exact y)] at h
              cases h
          subst e
          rw [Nat.sub_self] at h
          obtain rfl : V.ref tt = v := Option.some.inj h
          rw [lu]
          exact ⟨tt, tc, rfl, mv _ _ e9, mv _ _ e8⟩
    · obtain ⟨y6, y7, y8, us, rfl, xG, tG, RG, eb, er, lu, ru⟩ := p1
      refine ⟨.ref rl, rfl, .ref b, rfl, b, _, rfl, .inl ⟨.inl (.inl eb), fun ot not_ => ⟨(by show 2 ≤ sizeLine; decide), fun t nt => ?_⟩⟩⟩
      have s8 := same_new (o := .tup ((dyn pl ss d).map V.int)) not_
      have s9 := same_new (o := .tup [V.ref rl, .ref ot]) nt
      have s89 := s8.trans s9
      exact qq _ t rl ot us (xG.trans (same_extN s89)) (tabs_same tG s89) ((newN_of (s8.free nt)).back xG) (newN_of nHr) ((newN_of not_).back xG) upd_same (s9 _ _ upd_same) (s89 _ _ er) lu fun j v h => (ru j v h).moves fun a xs ha => s89 _ _ ha
def spFirst (T : Tx K mg) : Sp := fun vs H Q _ => ∃ (p q : Addr) (pl ss : List Int) (d : Nat), vs = [.ref p, .ref q, .int (d : Int)] ∧ PlantAt H p pl ∧ H q = some (.tup (ss.map V.int)) ∧ ss.length = pl.length + 1 ∧ ss.Nodup ∧ d ≤ 2000 ∧ Tabs T.tabW H ∧
  ∀ (H' : Hp) (t rl ot : Addr) (us : List V), ExtN H H' → Tabs T.tabW H' → NewN H t → NewN H rl → NewN H ot → H' t = some (.tup [.ref rl, .ref ot]) → H' ot = some (.tup ((dyn pl ss d).map V.int)) → H' rl = some (.lst us) → us.length = d → (∀ i v, us[i]? = some v → RowF pl ss H' i v) → Q (.ref t) H'
def spRunS (T : Tx K mg) : Sp := fun vs H Q _ => ∃ (p q : Addr) (pl ss : List Int) (d : Nat), vs = [.ref p, .ref q, .int (d : Int)] ∧ PlantAt H p pl ∧ StkAt H q ss ∧ ss.length = pl.length + 1 ∧ ss.Nodup ∧ d ≤ 2000 ∧ Tabs T.tabW H ∧
  ∀ (H' : Hp) (ot : Addr), ExtN H H' → Tabs T.tabW H' → NewN H ot → H' ot = some (.tup ((dyn pl ss d).map V.int)) → Q (.ref ot) H'
theorem Tx.runS (T : Tx K mg) (B2 : TabB base mg T.c_oldest_giver T.P_oldest_giver) {k : Nat} :
    FnOk P w K mg base CX0 (k + 8) T.f_run T.d_run ["plant", "stock", "days"] (spRunS T) := by
  refine T.F_run.ok scRun (fun vs H Q E h => ?_) (fun cdv A outer s H vs Q E hr h => ?_)
  · obtain ⟨p, q, pl, ss, d, rfl, _⟩ := h
    rfl
  · obtain ⟨p, q, pl, ss, d, rfl, hP, hq, hs, hn, hd, hT, qq⟩ := h
    have nd := scRun.nd
    refine ⟨_, (pss_cons (ps_asg (pe_call (T.firstDaysS B2 (k := 0)) (hr.mono (by omega)) (by rfl) T.g_first_days T.F_first_days.kp T.b_first_days .nil pass0 (pa_cons (pv 0) (pa_cons (pv 1) (pa_cons (pv 2) pa_nil)))) (pg_tup (by rfl) (pgs_cons (pg_name (i := 3) nd rfl (.inl rfl)) (pgs_cons (pg_name (i := 4) nd rfl (.inl rfl)) pgs_nil))))
(pss_one (ps_ret (pv 4)))), ?_⟩
    refine ⟨.ref p, rfl, .ref q, rfl, .int (d : Int), rfl, p, q, pl, ss, d, rfl, hP, hq, hs, hn, hd, hT, fun H' t rl ot us x1 t1 nt nrl not_ et eot erl lu ru => ?_⟩
    refine ⟨t, _, rfl, .inl (.inl et), rfl, _, _, rfl, _, _, rfl, rfl, ?_⟩
    exact ⟨.ref ot, rfl, qq H' ot x1 t1 not_ eot⟩
def spRun (T : Tx K mg) : Sp := fun vs H Q _ => ∃ (p q : Addr) (pl ss : List Int) (d : Nat), vs = [.ref p, .ref q, .int (d : Int)] ∧ PlantAt H p pl ∧ H q = some (.tup (ss.map V.int)) ∧ ss.length = pl.length + 1 ∧ ss.Nodup ∧ d ≤ 2000 ∧ Tabs T.tabW H ∧
  ∀ (H' : Hp) (ot : Addr), ExtN H H' → Tabs T.tabW H' → NewN H ot → H' ot = some (.tup ((dyn pl ss d).map V.int)) → Q (.ref ot) H'
theorem Tx.run (T : Tx K mg) (B2 : TabB base mg T.c_oldest_giver T.P_oldest_giver) {k : Nat} : FnOk P w K mg base CX0 (k + 8) T.f_run T.d_run ["plant", "stock", "days"] (spRun T) :=
  fnOk_of (T.runS B2) fun vs H Q E h => let ⟨p, q, pl, ss, d, e, hP, hq, r⟩ := h; ⟨p, q, pl, ss, d, e, hP, .inl hq, r⟩
def spRecordS (T : Tx K mg) : Sp := fun vs H Q _ => ∃ (p q : Addr) (pl ss : List Int) (d : Nat), vs = [.ref p, .ref q, .int (d : Int)] ∧ PlantAt H p pl ∧ StkAt H q ss ∧ ss.length = pl.length + 1 ∧ ss.Nodup ∧ d ≤ 2000 ∧ Tabs T.tabW H ∧
  ∀ (H' : Hp) (rl : Addr) (us : List V), ExtN H H' → Tabs T.tabW H' → NewN H rl → H' rl = some (.lst us) → us.length = d → (∀ i v, us[i]? = some v → RowF pl ss H' i v) → Q (.ref rl) H'
def spRecord (T : Tx K mg) : Sp := fun vs H Q _ => ∃ (p q : Addr) (pl ss : List Int) (d : Nat), vs = [.ref p, .ref q, .int (d : Int)] ∧ PlantAt H p pl ∧ H q = some (.tup (ss.map V.int)) ∧ ss.length = pl.length + 1 ∧ ss.Nodup ∧ d ≤ 2000 ∧ Tabs T.tabW H ∧
  ∀ (H' : Hp) (rl : Addr) (us : List V), ExtN H H' → Tabs T.tabW H' → NewN H rl → H' rl = some (.lst us) → us.length = d → (∀ i v, us[i]? = some v → RowF pl ss H' i v) → Q (.ref rl) H'
end
end PT

set_option maxHeartbeats 4000000
/-! the next emptyings of a station: its word again and again -/
namespace PT
theorem gives_sup {pl : List Int} (hP : Plant pl) {v : Nat} (h : sup pl pl.length v ≠ []) (ss : List Int) : gives pl ss v := by
  obtain ⟨a, r, e⟩ := List.exists_cons_of_ne_nil h
  obtain ⟨b1, b2, b3, b4⟩ := bst_cons (ss := ss) hP e
  exact ⟨b3, b4⟩
/-- n days on: F has been given, the word has been turned as far -/
def Near (pl ss : List Int) (L0 : List Nat) (v n : Nat) (F : List Nat) : Prop :=
  ∃ (L : List Nat) (k : Nat) (A B : List Nat), IsOrd (dyn pl ss n) L ∧ wd pl L0 v = A ++ B ∧ wd pl L v = B ++ A ∧ F = (List.replicate k (wd pl L0 v)).flatten ++ A
theorem Near.start {pl ss : List Int} {L0 : List Nat} {v : Nat} (h : IsOrd ss L0) : Near pl ss L0 v 0 [] := ⟨L0, 0, [], wd pl L0 v, h, rfl, by simp, by simp⟩
theorem Near.out {pl ss : List Int} {L0 F : List Nat} {v n : Nat} (hP : Plant pl) (hs : ss.length = pl.length + 1) (hn : ss.Nodup) (ho : Ord pl ss) (N : Near pl ss L0 v n F) (hv : v ∉ chn pl (dyn pl ss n) 0) : Near pl ss L0 v (n + 1) F := by
  obtain ⟨L, k, A, B, h1, h2, h3, h4⟩ := N
  obtain ⟨d1, d2⟩ := dyn_len hs hn n
  have od := ord_dyn hP hs hn ho n
  exact ⟨dayL pl (dyn pl ss n) L, k, A, B, dayL_ord hP d1 od h1, h2, by rw [dayL_out hP d1 od h1 hv]; exact h3, h4⟩
theorem Near.into {pl ss : List Int} {L0 F : List Nat} {v n : Nat} (hP : Plant pl) (hs : ss.length = pl.length + 1) (hn : ss.Nodup) (ho : Ord pl ss) (N : Near pl ss L0 v n F) (hv : v ∈ chn pl (dyn pl ss n) 0) (hg : gives pl (dyn pl ss n) v) :
    Near pl ss L0 v (n + 1) (F ++ [bst pl (dyn pl ss n) v]) := by
  obtain ⟨L, k, A, B, h1, h2, h3, h4⟩ := N
  obtain ⟨d1, d2⟩ := dyn_len hs hn n
  have od := ord_dyn hP hs hn ho n
  obtain ⟨W, w1, w2⟩ := dayL_in hP d1 od h1 hv hg
  have ho2 := dayL_ord hP d1 od h1
  generalize bst pl (dyn pl ss n) v = x at w1 w2 ⊢
  cases B with
  | nil =>
    rw [List.append_nil] at h2
    rw [List.nil_append] at h3
    rw [h3] at w1
    refine ⟨_, k + 1, [x], W, ho2, by rw [h2, w1]; rfl, w2, ?_⟩
    rw [h4, List.replicate_succ', List.flatten_append, h2]
    simp
  | cons y B =>
    rw [h3] at w1
    obtain ⟨rfl, rfl⟩ : y = x ∧ B ++ A = W := by
      have z : y :: (B ++ A) = x :: W := w1
      exact ⟨(List.cons.inj z).1, (List.cons.inj z).2⟩
    refine ⟨_, k, A ++ [y], B, ho2, by rw [h2]; simp, by rw [w2]; simp, ?_⟩
    rw [h4]
    simp
theorem count_flat (W : List Nat) (u : Nat) (h : 0 < W.length) : ∀ (k m : Nat), m ≤ k * W.length → ((List.replicate k W).flatten.take m).count u = m / W.length * W.count u + (W.take (m % W.length)).count u
  | 0, m, hm => by
    have e : m = 0 := by simpa using hm
    subst e
    simp
  | k + 1, m, hm => by
    rw [List.replicate_succ, List.flatten_cons]
    by_cases c : m < W.length
    · rw [List.take_append_of_le_length (Nat.le_of_lt c), Nat.div_eq_of_lt c, Nat.mod_eq_of_lt c]
      simp
    · have ih := count_flat W u h k (m - W.length) (by
        have : (k + 1) * W.length = k * W.length + W.length := Nat.succ_mul _ _
        omega)
      have e1 : m / W.length = (m - W.length) / W.length + 1 := by
        rw [Nat.div_eq_sub_div h (by omega)]
      have e2 : m % W.length = (m - W.length) % W.length := Nat.mod_eq_sub_mod (by omega)
      rw [List.take_append, List.take_of_length_le (by omega), List.count_append, ih, e1, e2, Nat.succ_mul]
      omega
theorem Near.count {pl ss : List Int} {L0 F : List Nat} {v n : Nat} (N : Near pl ss L0 v n F) (hW : wd pl L0 v ≠ []) {m : Nat} (hm : m ≤ F.length) (u : Nat) :
    (F.take m).count u = m / (wd pl L0 v).length * (wd pl L0 v).count u + ((wd pl L0 v).take (m % (wd pl L0 v).length)).count u := by
  obtain ⟨L, k, A, B, h1, h2, h3, h4⟩ := N
  have h0 : 0 < (wd pl L0 v).length := List.length_pos_iff.mpr hW
  have hl : F.length ≤ (k + 1) * (wd pl L0 v).length := by
    have e : (wd pl L0 v).length = A.length + B.length := by rw [h2, List.length_append]
    rw [h4, List.length_append]
    have e2 : (List.replicate k (wd pl L0 v)).flatten.length = k * (wd pl L0 v).length := by simp
    rw [e2, Nat.succ_mul]
    omega
  have z := count_flat (wd pl L0 v) u h0 (k + 1) m (by omega)
  rw [← z]
  congr 1
  have e3 : (List.replicate (k + 1) (wd pl L0 v)).flatten = F ++ B := by
    rw [List.replicate_succ', List.flatten_append, h4]
    simp
    exact h2
  rw [e3, List.take_append_of_le_length hm]
theorem wd_ne {pl ss : List Int} {L : List Nat} (hL : IsOrd ss L) (hs : ss.length = pl.length + 1) {v u : Nat} (u0 : 0 < u) (u1 : u ≤ pl.length) (hu : cu pl u = v) : wd pl L v ≠ [] := fun z => by
  have hm : u ∈ L := (hL.mem u).mpr (by omega)
  have e : br pl v u = some u := by rw [br_pos pl v u0, if_pos hu]
  have := List.mem_filterMap.mpr ⟨u, hm, e⟩
  unfold wd at z
  rw [z] at this
  cases this
end PT

/-! all suppliers together are given as often as their station -/
namespace PT
end PT

/-! how often a letter comes in the first ones, the word again and again -/
namespace PT
/-- how often u is given in the first m letters that come, W again and again -/
def given (W : List Nat) (u : Nat) (m : Int) : Int := m / (W.length : Int) * ((W.count u : Nat) : Int) + (((W.take (m % (W.length : Int)).toNat).count u : Nat) : Int)
end PT

/-! words that are turned: days in parts, days gone one by one -/
namespace PT
/-- the word after its first letters have moved to the end -/
def rot (W : List Nat) (m : Nat) : List Nat := W.drop (m % W.length) ++ W.take (m % W.length)
theorem rot_len (W : List Nat) (m : Nat) : (rot W m).length = W.length := by
  unfold rot
  rw [List.length_append, List.length_drop, List.length_take]
  by_cases h : W.length = 0
  · omega
  · have := Nat.mod_lt m (show 0 < W.length by omega)
    omega
theorem rot_perm (W : List Nat) (m : Nat) : (rot W m).Perm W := by
  unfold rot
  refine List.perm_append_comm.trans ?_
  rw [List.take_append_drop]
theorem rot_at {W : List Nat} {m i : Nat} (h : i < W.length) : (rot W m)[i]? = W[(m + i) % W.length]? := by
  have n0 : 0 < W.length := by omega
  have r := Nat.mod_lt m n0
  have e : (m + i) % W.length = (m % W.length + i) % W.length := (Nat.mod_add_mod m W.length i).symm
  rw [e]
  unfold rot
  generalize m % W.length = k at r ⊢
  by_cases c : k + i < W.length
  · rw [Nat.mod_eq_of_lt c, List.getElem?_append_left (by rw [List.length_drop]; omega), List.getElem?_drop]
  · have e2 : (k + i) % W.length = k + i - W.length := by
      rw [Nat.mod_eq_sub_mod (show k + i ≥ W.length by omega), Nat.mod_eq_of_lt (by omega)]
    rw [e2, List.getElem?_append_right (by rw [List.length_drop]; omega), List.length_drop, List.getElem?_take_of_lt (by omega)]
    congr 1
    omega
theorem rot_rot (W : List Nat) (a b : Nat) : rot (rot W a) b = rot W (a + b) := by
  refine List.ext_getElem? fun i => ?_
  by_cases h : i < W.length
  · have n0 : 0 < W.length := by omega
    rw [rot_at (by rw [rot_len]; exact h), rot_len, rot_at (Nat.mod_lt _ n0), rot_at h, Nat.add_mod_mod, Nat.add_assoc]
  · rw [List.getElem?_eq_none (by rw [rot_len, rot_len]; omega), List.getElem?_eq_none (by rw [rot_len]; omega)]
theorem rot_split (A B : List Nat) : rot (A ++ B) A.length = B ++ A := by
  unfold rot
  rw [List.length_append]
  by_cases h : B.length = 0
  · have e : B = [] := List.eq_nil_of_length_eq_zero h
    subst e
    simp
  · rw [Nat.mod_eq_of_lt (by omega), List.drop_left, List.take_left]
theorem rot_mul (W : List Nat) (k m : Nat) : rot W (k * W.length + m) = rot W m := by
  unfold rot
  rw [Nat.mul_comm, Nat.mul_add_mod]
/-! ### counts in the first letters -/
def givN (W : List Nat) (u m : Nat) : Nat := m / W.length * W.count u + (W.take (m % W.length)).count u
theorem given_nat (W : List Nat) (u m : Nat) : given W u (m : Int) = (givN W u m : Int) := by
  unfold given givN
  rw [← Int.natCast_emod, Int.toNat_natCast, ← Int.natCast_ediv, ← Int.natCast_mul, ← Int.natCast_add]
/-- letter i of the word again and again is u -/
def hit (W : List Nat) (u i : Nat) : Bool := W[i % W.length]? == some u
def hits (W : List Nat) (u m : Nat) : Nat := (List.range m).countP (hit W u)
theorem hits_add (W : List Nat) (u a b : Nat) : hits W u (a + b) = hits W u a + (List.range b).countP fun i => hit W u (a + i) := by
  unfold hits
  rw [List.range_add, List.countP_append, List.countP_map]
  rfl
theorem hits_take (W : List Nat) (u : Nat) : ∀ m, m ≤ W.length → hits W u m = (W.take m).count u
  | 0, _ => by simp [hits]
  | m + 1, h => by
    have ih := hits_take W u m (by omega)
    have e : W[m]? = some W[m] := List.getElem?_eq_getElem (by omega)
    unfold hits at ih ⊢
    rw [List.range_succ, List.countP_append, ih, List.take_add_one, e, List.count_append]
    congr 1
    have hh : hit W u m = (W[m] == u) := by
      unfold hit
      rw [Nat.mod_eq_of_lt (by omega), e]
      rfl
    rw [List.countP_cons, List.countP_nil, hh, Option.toList_some, List.count_cons, List.count_nil]
theorem hits_giv (W : List Nat) (u : Nat) (h : 0 < W.length) : ∀ m, hits W u m = givN W u m := by
  intro m
  induction m using Nat.strongRecOn with
  | ind m ih =>
    by_cases c : m < W.length
    · rw [hits_take W u m (by omega)]
      unfold givN
      rw [Nat.div_eq_of_lt c, Nat.mod_eq_of_lt c]
      simp
    · have i2 := ih (m - W.length) (by omega)
      have e : m = W.length + (m - W.length) := by omega
      have s : (fun i => hit W u (W.length + i)) = hit W u := by
        funext i
        unfold hit
        rw [Nat.add_mod_left]
      have z := hits_add W u W.length (m - W.length)
      rw [s, ← e, hits_take W u W.length (Nat.le_refl _), List.take_length] at z
      have z2 : (List.range (m - W.length)).countP (hit W u) = givN W u (m - W.length) := i2
      have d1 : m / W.length = (m - W.length) / W.length + 1 := Nat.div_eq_sub_div h (by omega)
      have d2 : m % W.length = (m - W.length) % W.length := Nat.mod_eq_sub_mod (by omega)
      rw [z, z2]
      unfold givN
      rw [d1, d2, Nat.succ_mul]
      omega
theorem giv_nil (u m : Nat) : givN [] u m = 0 := by
  unfold givN
  simp
/-- days in two parts -/
theorem giv_add (W : List Nat) (u a b : Nat) : givN W u (a + b) = givN W u a + givN (rot W a) u b := by
  by_cases h : 0 < W.length
  · have h2 : 0 < (rot W a).length := by rw [rot_len]; exact h
    rw [← hits_giv W u h, ← hits_giv W u h, ← hits_giv (rot W a) u h2, hits_add]
    congr 1
    unfold hits
    congr 1
    funext i
    unfold hit
    rw [rot_len, rot_at (Nat.mod_lt _ h), Nat.add_mod_mod]
  · have e : W = [] := List.eq_nil_of_length_eq_zero (by omega)
    subst e
    have e2 : rot [] a = [] := by unfold rot; simp
    rw [e2, giv_nil, giv_nil, giv_nil]
/-! ### how often each station is emptied -/
def tm (pl : List Int) (W : Nat → List Nat) (d v : Nat) : Nat := if h : 0 < v then givN (W (cu pl v)) v (tm pl W d (cu pl v)) else d
termination_by v
decreasing_by exact cu_lt pl h
theorem tm_zero (pl : List Int) (W : Nat → List Nat) (d : Nat) : tm pl W d 0 = d := by
  rw [tm]
  rfl
theorem tm_pos (pl : List Int) (W : Nat → List Nat) (d : Nat) {v : Nat} (h : 0 < v) : tm pl W d v = givN (W (cu pl v)) v (tm pl W d (cu pl v)) := by
  rw [tm, dif_pos h]
/-- the words some days later -/
def rotW (pl : List Int) (W : Nat → List Nat) (d : Nat) : Nat → List Nat := fun v => rot (W v) (tm pl W d v)
theorem tm_add (pl : List Int) (W : Nat → List Nat) (a b : Nat) : ∀ v, tm pl W (a + b) v = tm pl W a v + tm pl (rotW pl W a) b v := by
  intro v
  induction v using Nat.strongRecOn with
  | ind v ih =>
    by_cases h : 0 < v
    · rw [tm_pos _ _ _ h, tm_pos _ _ _ h, tm_pos _ _ _ h, ih _ (cu_lt pl h), giv_add]
      rfl
    · have e : v = 0 := by omega
      rw [e, tm_zero, tm_zero, tm_zero]
theorem rotW_add (pl : List Int) (W : Nat → List Nat) (a b v : Nat) : rotW pl (rotW pl W a) b v = rotW pl W (a + b) v := by
  show rot (rot (W v) (tm pl W a v)) (tm pl (rotW pl W a) b v) = rot (W v) (tm pl W (a + b) v)
  rw [rot_rot, tm_add]
theorem tm_congr {pl : List Int} {W W' : Nat → List Nat} {n : Nat} (e : ∀ v, v ≤ n → W v = W' v) (d : Nat) : ∀ v, v ≤ n → tm pl W d v = tm pl W' d v := by
  intro v
  induction v using Nat.strongRecOn with
  | ind v ih =>
    intro hv
    by_cases h : 0 < v
    · have := cu_lt pl h
      rw [tm_pos _ _ _ h, tm_pos _ _ _ h, ih _ this (by omega), e _ (by omega)]
    · have e2 : v = 0 := by omega
      rw [e2, tm_zero, tm_zero]
theorem rotW_congr {pl : List Int} {W W' : Nat → List Nat} {n : Nat} (e : ∀ v, v ≤ n → W v = W' v) (d : Nat) : ∀ v, v ≤ n → rotW pl W d v = rotW pl W' d v := fun v hv => by
  show rot _ _ = rot _ _
  rw [e v hv, tm_congr e d v hv]
/-! ### days gone one by one -/
/-- on how many of the first days v is emptied -/
def em (pl ss : List Int) (v n : Nat) : Nat := (List.range n).countP fun i => decide (v ∈ chn pl (dyn pl ss i) 0)
theorem em_succ (pl ss : List Int) (v n : Nat) : em pl ss v (n + 1) = em pl ss v n + if v ∈ chn pl (dyn pl ss n) 0 then 1 else 0 := by
  unfold em
  rw [List.range_succ, List.countP_append]
  congr 1
  by_cases c : v ∈ chn pl (dyn pl ss n) 0
  · simp [c]
  · simp [c]
theorem em_shop (pl ss : List Int) (n : Nat) : em pl ss 0 n = n := by
  induction n with
  | zero => rfl
  | succ n ih => rw [em_succ, ih, if_pos (chn_self 0)]
theorem near_em {pl ss : List Int} {L0 : List Nat} {v : Nat} (hP : Plant pl) (hs : ss.length = pl.length + 1) (hn : ss.Nodup) (ho : Ord pl ss) (hO : IsOrd ss L0) (hv : sup pl pl.length v ≠ []) :
    ∀ n, ∃ F, Near pl ss L0 v n F ∧ F.length = em pl ss v n ∧ ∀ u, 0 < u → u ≤ pl.length → cu pl u = v → F.count u = em pl ss u n
  | 0 => ⟨[], .start hO, rfl, fun _ _ _ _ => rfl⟩
  | n + 1 => by
    obtain ⟨F, N, lF, cF⟩ := near_em hP hs hn ho hO hv n
    by_cases c : v ∈ chn pl (dyn pl ss n) 0
    · have hg := gives_sup hP hv (dyn pl ss n)
      refine ⟨_, N.into hP hs hn ho c hg, by rw [List.length_append, lF, em_succ, if_pos c]; rfl, fun u u0 u1 hu => ?_⟩
      rw [List.count_append, cF u u0 u1 hu, em_succ, List.count_singleton]
      congr 1
      by_cases e : bst pl (dyn pl ss n) v = u
      · have z := chn_down _ 0 rfl v c hg
        rw [e] at z
        rw [if_pos z, if_pos (by simp [e])]
      · have z : u ∉ chn pl (dyn pl ss n) 0 := fun h => e (by
          obtain ⟨_, _, y⟩ := chn_cu hP h u0
          rw [hu] at y
          exact y)
        rw [if_neg z, if_neg (by simp [e])]
    · refine ⟨F, N.out hP hs hn ho c, by rw [lF, em_succ, if_neg c]; rfl, fun u u0 u1 hu => ?_⟩
      rw [cF u u0 u1 hu, em_succ, if_neg fun h => c (by
        obtain ⟨y, _, _⟩ := chn_cu hP h u0
        rw [hu] at y
        exact y)]
      rfl
theorem sup_ne {pl : List Int} (hP : Plant pl) {u : Nat} (u0 : 0 < u) (u1 : u ≤ pl.length) : sup pl pl.length (cu pl u) ≠ [] := fun z => by
  have := (sup_cu hP (j := cu pl u) (k := u)).mpr ⟨u0, u1, rfl⟩
  rw [z] at this
  cases this
theorem tm_em {pl ss : List Int} {L0 : List Nat} (hP : Plant pl) (hs : ss.length = pl.length + 1) (hn : ss.Nodup) (ho : Ord pl ss) (hO : IsOrd ss L0) (n : Nat) : ∀ v, v ≤ pl.length → tm pl (wd pl L0) n v = em pl ss v n := by
  intro v
  induction v using Nat.strongRecOn with
  | ind v ih =>
    intro hv
    by_cases h : 0 < v
    · have hc := cu_lt pl h
      rw [tm_pos _ _ _ h, ih _ hc (by omega)]
      obtain ⟨F, N, lF, cF⟩ := near_em hP hs hn ho hO (sup_ne hP h hv) n
      have z := N.count (wd_ne hO hs h hv rfl) (Nat.le_refl F.length) v
      rw [List.take_length, cF v h hv rfl, lF] at z
      exact z.symm
    · have e : v = 0 := by omega
      rw [e, tm_zero, em_shop]
/-- the words of the stock some days later -/
theorem wd_days {pl ss : List Int} {L0 L : List Nat} (hP : Plant pl) (hs : ss.length = pl.length + 1) (hn : ss.Nodup) (ho : Ord pl ss) (hO : IsOrd ss L0) (n : Nat) (hL : IsOrd (dyn pl ss n) L) : ∀ v, v ≤ pl.length → wd pl L v = rotW pl (wd pl L0) n v := by
  intro v hv
  have hle : ∀ {M : List Nat} {tt : List Int}, tt.length = pl.length + 1 → IsOrd tt M → ∀ k ∈ M, k ≤ pl.length := fun e h k hk => by
    have := (h.mem k).mp hk
    omega
  obtain ⟨d1, d2⟩ := dyn_len hs hn n
  show _ = rot _ _
  rw [tm_em hP hs hn ho hO n v hv]
  by_cases h : sup pl pl.length v = []
  · rw [wd_maker hP h (hle d1 hL), wd_maker hP h (hle hs hO)]
    unfold rot
    simp
  · obtain ⟨F, ⟨M, k, A, B, h1, h2, h3, h4⟩, lF, cF⟩ := near_em hP hs hn ho hO h n
    rw [hL.unique h1, h3, ← lF, h4, List.length_append]
    have e2 : (List.replicate k (wd pl L0 v)).flatten.length = k * (wd pl L0 v).length := by simp
    rw [e2, rot_mul, h2, rot_split]
/-! ### words of a plant -/
structure WordsOk (pl : List Int) (W : Nat → List Nat) : Prop where
  mem : ∀ v, v ≤ pl.length → ∀ u ∈ W v, 0 < u ∧ u ≤ pl.length ∧ cu pl u = v
  cnt : ∀ u, 0 < u → u ≤ pl.length → (W (cu pl u)).count u = sz pl u
theorem count_fmap {f : Nat → Option Nat} {u : Nat} : ∀ L : List Nat, (L.filterMap f).count u = L.countP fun s => f s == some u
  | [] => rfl
  | x :: L => by
    have ih := count_fmap (f := f) (u := u) L
    cases e : f x with
    | none => rw [List.filterMap_cons_none e, List.countP_cons, ih, e]; rfl
    | some y =>
      rw [List.filterMap_cons_some e, List.countP_cons, List.count_cons, ih, e]
      congr 1
theorem wd_ok {pl ss : List Int} {L : List Nat} (hs : ss.length = pl.length + 1) (hO : IsOrd ss L) : WordsOk pl (wd pl L) := by
  have hL : ∀ k ∈ L, k ≤ pl.length := fun k hk => by
    have := (hO.mem k).mp hk
    omega
  refine ⟨fun v _ u hu => wd_mem hL hu, fun u u0 u1 => ?_⟩
  have nd2 : L.Nodup := hO.inc.imp fun {a b} h z => by rw [z] at h; omega
  have pm : L.Perm (List.range (pl.length + 1)) := (List.perm_ext_iff_of_nodup nd2 List.nodup_range).mpr fun k => by
    rw [List.mem_range, ← hs]
    exact hO.mem k
  unfold wd sz
  rw [count_fmap, pm.countP_eq]
  refine List.countP_congr fun s _ => ?_
  rw [beq_iff_eq, decide_eq_true_iff]
  constructor
  · intro h
    exact path_br s h
  · intro h
    exact br_path u0 s h
theorem rot_ok {pl : List Int} {W : Nat → List Nat} (h : WordsOk pl W) (m : Nat → Nat) : WordsOk pl fun v => rot (W v) (m v) := by
  refine ⟨fun v hv u hu => h.mem v hv u ((rot_perm _ _).mem_iff.mp hu), fun u u0 u1 => ?_⟩
  rw [(rot_perm (W (cu pl u)) (m (cu pl u))).count_eq]
  exact h.cnt u u0 u1
theorem rotW_ok {pl : List Int} {W : Nat → List Nat} (h : WordsOk pl W) (d : Nat) : WordsOk pl (rotW pl W d) := rot_ok h _
/-- the letters of the word of v, in ascending order -/
def letters (pl : List Int) (i v : Nat) : List Nat := (((List.range i).filter fun k => decide (pl.getD k 0 = (v : Int))).map fun k => List.replicate (sz pl (k + 1)) (k + 1)).flatten
theorem letters_step {pl : List Int} {i : Nat} {x : Int} (v : Nat) (h : pl[i]? = some x) : letters pl (i + 1) v = if x = (v : Int) then letters pl i v ++ List.replicate (sz pl (i + 1)) (i + 1) else letters pl i v := by
  unfold letters
  have e : pl.getD i 0 = x := by rw [List.getD_eq_getElem?_getD, h]; rfl
  rw [List.range_succ, List.filter_append]
  by_cases c : x = (v : Int)
  · rw [if_pos c, List.filter_cons_of_pos (by rw [e]; exact decide_eq_true c)]
    simp
  · rw [if_neg c, List.filter_cons_of_neg (by rw [e]; simpa using c)]
    simp
theorem letters_count {pl : List Int} (hP : Plant pl) (v u : Nat) : ∀ i, i ≤ pl.length → (letters pl i v).count u = if 0 < u ∧ u ≤ i ∧ cu pl u = v then sz pl u else 0
  | 0, _ => by
    rw [if_neg (by omega)]
    simp [letters]
  | i + 1, h => by
    have ih := letters_count hP v u i (by omega)
    have e := hP.at (i := i) (by omega)
    rw [letters_step v e]
    by_cases c : cu pl (i + 1) = v
    · rw [if_pos (by rw [c]), List.count_append, ih, List.count_replicate]
      by_cases q : u = i + 1
      · subst q
        rw [if_neg (by omega), if_pos (by simp), if_pos ⟨by omega, Nat.le_refl _, c⟩]
        omega
      · have q2 : ¬ (i + 1 == u) = true := by simpa using fun z => q z.symm
        rw [if_neg q2]
        by_cases w : 0 < u ∧ u ≤ i ∧ cu pl u = v
        · rw [if_pos w, if_pos ⟨w.1, by omega, w.2.2⟩]
          rfl
        · rw [if_neg w, if_neg fun z => w ⟨z.1, by omega, z.2.2⟩]
    · rw [if_neg fun z => c (by omega), ih]
      by_cases w : 0 < u ∧ u ≤ i ∧ cu pl u = v
      · rw [if_pos w, if_pos ⟨w.1, by omega, w.2.2⟩]
      · rw [if_neg w, if_neg fun z => w ⟨z.1, by
          by_cases q : u = i + 1
          · rw [q] at z
            exact absurd z.2.2 c
          · omega, z.2.2⟩]
theorem WordsOk.perm {pl : List Int} {W : Nat → List Nat} (hP : Plant pl) (h : WordsOk pl W) {v : Nat} (hv : v ≤ pl.length) : (W v).Perm (letters pl pl.length v) := by
  rw [List.perm_iff_count]
  intro u
  rw [letters_count hP v u _ (Nat.le_refl _)]
  by_cases c : 0 < u ∧ u ≤ pl.length ∧ cu pl u = v
  · rw [if_pos c]
    have z := h.cnt u c.1 c.2.1
    rw [c.2.2] at z
    exact z
  · rw [if_neg c, List.count_eq_zero]
    exact fun z => c (h.mem v hv u z)
/-- a stock to be compared with: 0, 1, 2 .. -/
theorem ord_range (n : Nat) : IsOrd ((List.range n).map fun k : Nat => (k : Int)) (List.range n) := by
  have at_ : ∀ k, k < n → bx ((List.range n).map fun k : Nat => (k : Int)) k = k := fun k hk => by
    refine bx_some ?_
    rw [List.getElem?_map, List.getElem?_range hk]
    rfl
  refine ⟨fun k => by rw [List.length_map, List.length_range, List.mem_range], ?_⟩
  refine List.pairwise_lt_range.imp_of_mem fun {a b} ha hb h => ?_
  rw [at_ a (List.mem_range.mp ha), at_ b (List.mem_range.mp hb)]
  omega
theorem letters_len {pl : List Int} (hP : Plant pl) {v : Nat} (hv : v ≤ pl.length) : (letters pl pl.length v).length ≤ pl.length + 1 := by
  have hO := ord_range (pl.length + 1)
  have ok := wd_ok (pl := pl) (by rw [List.length_map, List.length_range]) hO
  have e := (ok.perm hP hv).length_eq
  have l := wd_len pl (List.range (pl.length + 1)) v
  rw [List.length_range] at l
  omega
theorem WordsOk.len {pl : List Int} {W : Nat → List Nat} (hP : Plant pl) (h : WordsOk pl W) {v : Nat} (hv : v ≤ pl.length) : (W v).length ≤ pl.length + 1 := by
  have e := (h.perm hP hv).length_eq
  have := letters_len hP hv
  omega
theorem sz_pos {pl : List Int} {u : Nat} (hu : u ≤ pl.length) : 0 < sz pl u := by
  unfold sz
  refine List.countP_pos_iff.mpr ⟨u, List.mem_range.mpr (by omega), decide_eq_true (List.mem_of_getElem? (path_head pl u))⟩
theorem WordsOk.ne {pl : List Int} {W : Nat → List Nat} (h : WordsOk pl W) {u : Nat} (u0 : 0 < u) (u1 : u ≤ pl.length) : W (cu pl u) ≠ [] := fun z => by
  have e := h.cnt u u0 u1
  rw [z] at e
  have := sz_pos u1
  have e2 : ([] : List Nat).count u = 0 := rfl
  omega
theorem WordsOk.congr {pl : List Int} {W W' : Nat → List Nat} (h : WordsOk pl W) (e : ∀ v, v ≤ pl.length → W v = W' v) : WordsOk pl W' := by
  refine ⟨fun v hv u hu => h.mem v hv u (by rw [e v hv]; exact hu), fun u u0 u1 => ?_⟩
  have := cu_lt pl u0
  rw [← e _ (by omega)]
  exact h.cnt u u0 u1
end PT

set_option maxHeartbeats 4000000
/-! what is words of a plant: values of any kind -/
namespace PT
open PySem PySem.Spec PyProof.Rows L2
def intsOf : List V → List Int
  | [] => []
  | .int i :: xs => i :: intsOf xs
  | _ :: xs => intsOf xs
theorem intsOf_map : ∀ ns : List Int, intsOf (ns.map V.int) = ns
  | [] => rfl
  | n :: ns => by rw [List.map_cons, intsOf, intsOf_map ns]
/-- the items are these letters in any order -/
def letB (xs : List V) (ls : List Nat) : Bool := decide (xs.length = ls.length) && (xs.all isI && decide ((intsOf xs).Perm (natI ls)))
inductive LetIs (H : Hp) (ls : List Nat) : V → Bool → Prop
  | no {v : V} {n : String} : Kd H v n → n ≠ "list" → LetIs H ls v false
  | lst {a : Addr} {xs : List V} : H a = some (.lst xs) → xs.length ≤ 300 → (∀ x ∈ xs, ∃ m, Kd H x m) → LetIs H ls (.ref a) (letB xs ls)
theorem LetIs.kd {H : Hp} {ls : List Nat} {v : V} {r : Bool} (h : LetIs H ls v r) : ∃ n, Kd H v n := by
  cases h with
  | no k _ => exact ⟨_, k⟩
  | lst a _ _ => exact ⟨_, .lst a⟩
theorem LetIs.same {H H' : Hp} (e : Same H H') {ls : List Nat} {v : V} {r : Bool} (h : LetIs H ls v r) : LetIs H' ls v r := by
  cases h with
  | no k n => exact .no (k.same e) n
  | lst a l x => exact .lst (e _ _ a) l fun y hy => let ⟨m, k⟩ := x y hy; ⟨m, k.same e⟩
theorem eqv_ints : ∀ a b : List Int, PyData.eqv (.list (a.map PyData.int)) (.list (b.map PyData.int)) = decide (a = b) := by
  have h : ∀ a b : List Int, PyData.eqvAll (a.map PyData.int) (b.map PyData.int) = decide (a = b) := by
    intro a
    induction a with
    | nil =>
      intro b
      cases b with
      | nil => simp [PyData.eqvAll]
      | cons y b => simp [PyData.eqvAll]
    | cons x a ih =>
      intro b
      cases b with
      | nil => simp [PyData.eqvAll]
      | cons y b =>
        rw [List.map_cons, List.map_cons]
        simp only [PyData.eqvAll, PyData.eqv, ih b]
        by_cases c : x = y
        · by_cases d : a = b
          · simp [c, d]
          · simp [c, d]
        · simp [c]
  intro a b
  simp only [PyData.eqv, h]
inductive WordIs (H : Hp) (pl : List Int) : V → Bool → Prop
  | no {v : V} {n : String} : Kd H v n → n ≠ "list" → WordIs H pl v false
  | short {a : Addr} {xs : List V} : H a = some (.lst xs) → xs.length ≠ pl.length + 1 → WordIs H pl (.ref a) false
  | rows {a : Addr} {xs : List V} {rs : List Bool} : H a = some (.lst xs) → xs.length = pl.length + 1 → rs.length = pl.length + 1 → (∀ (i : Nat) (x : V) (r : Bool), xs[i]? = some x → rs[i]? = some r → LetIs H (letters pl pl.length i) x r) → WordIs H pl (.ref a) (rs.all id)
theorem WordIs.same {H H' : Hp} (e : Same H H') {pl : List Int} {v : V} {r : Bool} (h : WordIs H pl v r) : WordIs H' pl v r := by
  cases h with
  | no k n => exact .no (k.same e) n
  | short a n => exact .short (e _ _ a) n
  | rows a l1 l2 q => exact .rows (e _ _ a) l1 l2 fun i x r h1 h2 => (q i x r h1 h2).same e
theorem LetIs.ok {H : Hp} {ls ws : List Nat} {a : Addr} (h : H a = some (.lst ((natI ws).map V.int))) (p : ws.Perm ls) (hl : ws.length ≤ 300) : LetIs H ls (.ref a) true := by
  have z : LetIs H ls (.ref a) (letB ((natI ws).map V.int) ls) := .lst h (by rw [List.length_map, natI_len]; exact hl) fun x hx => by
    obtain ⟨n, _, rfl⟩ := List.mem_map.mp hx
    exact ⟨_, .int n⟩
  have e : letB ((natI ws).map V.int) ls = true := by
    unfold letB
    rw [decide_eq_true (by rw [List.length_map, natI_len, p.length_eq]), intsOf_map, decide_eq_true (by unfold natI; exact p.map _), Bool.true_and, Bool.and_true]
    rw [List.all_eq_true]
    intro x hx
    obtain ⟨n, _, rfl⟩ := List.mem_map.mp hx
    rfl
  rw [e] at z
  exact z
/-- rows of letters that are words -/
theorem RowsN.words {H : Hp} {pl : List Int} {l : Addr} {as : List Addr} {W : Nat → List Nat} (hP : Plant pl) (R : RowsN H l as (pl.length + 1) W) (ok : WordsOk pl W) : WordIs H pl (.ref l) true := by
  have z : WordIs H pl (.ref l) ((List.replicate (pl.length + 1) true).all id) := by
    refine .rows R.hl (by rw [List.length_map, R.len]) (by rw [List.length_replicate]) fun i x r h1 h2 => ?_
    rw [List.getElem?_map] at h1
    cases ea : as[i]? with
    | none => rw [ea] at h1; cases h1
    | some a =>
      rw [ea] at h1
      cases h1
      have hi := (List.getElem?_eq_some_iff.mp ea).1
      rw [R.len] at hi
      have er : r = true := List.eq_of_mem_replicate (List.mem_of_getElem? h2)
      subst er
      have hl := ok.len hP (v := i) (by omega)
      have := hP.len
      exact .ok (R.at_ i a ea) (ok.perm hP (by omega)) (by omega)
  have e : (List.replicate (pl.length + 1) true).all id = true := by
    rw [List.all_replicate]
    simp
  rw [e] at z
  exact z
theorem rep_ref (j : Nat) (x : V) : (List.replicate (j : Int).toNat [x]).flatten = List.replicate j x := by
  rw [Int.toNat_natCast]
  induction j with
  | zero => rfl
  | succ j ih => rw [List.replicate_succ, List.flatten_cons, ih, List.replicate_succ]; rfl
end PT


set_option maxHeartbeats 4000000
/-! sorted_letters, has_letters, fits_words, check_words -/
namespace PT
open PySem PySem.Spec PyProof.Rows L2
section
variable {P : Program} {w : World} {K : PySem.W.Frag} {mg : Str → Option Value} {base : Heap}
def spSortedL : Sp := fun vs H Q _ => ∃ (p : Addr) (pl : List Int), vs = [.ref p] ∧ PlantAt H p pl ∧ ∀ (H' : Hp) (l : Addr) (as : List Addr), Same H H' → RowsN H' l as (pl.length + 1) (letters pl pl.length) → Q (.ref l) H'
def spHasL : Sp := fun vs H Q _ => ∃ (v : V) (l : Addr) (ls : List Nat) (r : Bool), vs = [v, .ref l] ∧ LetIs H ls v r ∧ H l = some (.lst ((natI ls).map V.int)) ∧ ls.Pairwise (· ≤ ·) ∧ ∀ H', Same H H' → Q (.bl r) H'
def spFitsW : Sp := fun vs H Q _ => ∃ (p : Addr) (pl : List Int) (v : V) (r : Bool), vs = [.ref p, v] ∧ PlantAt H p pl ∧ WordIs H pl v r ∧ ∀ H', Same H H' → Q (.bl r) H'
def spCheckW : Sp := fun vs H Q _ => ∃ (p : Addr) (pl : List Int) (v : V), vs = [.ref p, v] ∧ PlantAt H p pl ∧ WordIs H pl v true ∧ ∀ H', Same H H' → Q .non H'
end
end PT


set_option maxHeartbeats 4000000
/-! the words of an ordered stock -/
namespace PT
open PySem PySem.Spec PyProof.Rows L2 LamX NdefX
/-- a new list of new lists, the words so far -/
structure RowsAt (H H' : Hp) (l : Addr) (as : List Addr) (n : Nat) (f : Nat → List Nat) : Prop where
  nl : H l = none
  hl : H' l = some (.lst (as.map V.ref))
  len : as.length = n
  new : ∀ a ∈ as, H a = none
  out : l ∉ as
  nd : as.Nodup
  at_ : ∀ (j : Nat) (a : Addr), as[j]? = some a → H' a = some (.lst ((natI (f j)).map V.int))
theorem byAge_ord {ss : List Int} (hn : ss.Nodup) : IsOrd ss (byAge ss.length fun i => ss.getD i 0) := by
  have p : (byAge ss.length fun i => ss.getD i 0).Perm (List.range ss.length) := List.mergeSort_perm _ _
  refine ⟨fun k => p.mem_iff.trans List.mem_range, ?_⟩
  have s1 : (byAge ss.length fun i => ss.getD i 0).Pairwise fun a b => decide (ss.getD a 0 ≤ ss.getD b 0) = true :=
    List.pairwise_mergeSort (le := fun a b => decide (ss.getD a 0 ≤ ss.getD b 0)) (fun a b c h1 h2 => decide_eq_true (Int.le_trans (of_decide_eq_true h1) (of_decide_eq_true h2))) (fun a b => by
      rw [Bool.or_eq_true]
      rcases Int.le_total (ss.getD a 0) (ss.getD b 0) with h | h
      · exact .inl (decide_eq_true h)
      · exact .inr (decide_eq_true h)) _
  have nd : (byAge ss.length fun i => ss.getD i 0).Nodup := p.nodup_iff.mpr List.nodup_range
  refine (s1.and nd).imp_of_mem fun {a b} ha hb h => ?_
  have h1 := of_decide_eq_true h.1
  have ha2 := List.mem_range.mp (p.mem_iff.mp ha)
  have hb2 := List.mem_range.mp (p.mem_iff.mp hb)
  have ea : bx ss a = ss.getD a 0 := by unfold bx; rw [Int.toNat_natCast]
  have eb : bx ss b = ss.getD b 0 := by unfold bx; rw [Int.toNat_natCast]
  have hne : bx ss a ≠ bx ss b := fun z => h.2 (bx_inj hn ha2 hb2 z)
  omega
theorem RowsAt.app {H H' : Hp} {l : Addr} {as : List Addr} {n c u : Nat} {f : Nat → List Nat} {a : Addr} (R : RowsAt H H' l as n f) (e : as[c]? = some a) :
    RowsAt H (upd H' a (.lst ((natI (f c)).map V.int ++ [.int (u : Int)]))) l as n fun k => if k = c then f c ++ [u] else f k := by
  have hin := List.mem_of_getElem? e
  refine ⟨R.nl, ?_, R.len, R.new, R.out, R.nd, fun k b hb => ?_⟩
  · rw [upd_ne (show l ≠ a from fun z => R.out (z ▸ hin))]
    exact R.hl
  · by_cases h : k = c
    · subst h
      have eb : a = b := Option.some.inj (e.symm.trans hb)
      rw [if_pos rfl, ← eb, upd_same, natI_app, List.map_append]
      rfl
    · have ne : b ≠ a := fun z => h (by
        obtain ⟨hk, ek⟩ := List.getElem?_eq_some_iff.mp hb
        obtain ⟨hc, ec⟩ := List.getElem?_eq_some_iff.mp e
        exact (List.getElem_inj R.nd).mp (ek.trans (z.trans ec.symm)))
      rw [if_neg h, upd_ne ne]
      exact R.at_ k b hb
theorem RowsAt.congr {H H' : Hp} {l : Addr} {as : List Addr} {n : Nat} {f g : Nat → List Nat} (R : RowsAt H H' l as n f) (e : ∀ k, f k = g k) : RowsAt H H' l as n g := by
  have z : f = g := funext e
  rw [← z]
  exact R
theorem RowsAt.ext {H H' G : Hp} {l : Addr} {as : List Addr} {n : Nat} {f : Nat → List Nat} (R : RowsAt H H' l as n f) (e : ExtN H' G) : RowsAt H G l as n f :=
  ⟨R.nl, extN_lst e R.hl, R.len, R.new, R.out, R.nd, fun j a h => extN_lst e (R.at_ j a h)⟩
theorem upto_len (pl : List Int) (h s v : Nat) : (upto pl h s v).length ≤ 1 := by
  unfold upto
  split
  · split
    · exact Nat.le_refl _
    · exact Nat.zero_le _
  · exact Nat.zero_le _
theorem RowsAt.toN {H H' : Hp} {l : Addr} {as : List Addr} {n : Nat} {f : Nat → List Nat} (R : RowsAt H H' l as n f) : RowsN H' l as n f := ⟨R.hl, R.len, R.out, R.nd, R.at_⟩
section
variable {P : Program} {w : World} {K : PySem.W.Frag} {mg : Str → Option Value} {base : Heap}
def spWordsByS (T : Tx K mg) : Sp := fun vs H Q _ => ∃ (p q : Addr) (pl ss : List Int), vs = [.ref p, .ref q] ∧ PlantAt H p pl ∧ StkAt H q ss ∧ ss.length = pl.length + 1 ∧ ss.Nodup ∧ Tabs T.tabW H ∧
  ∀ (H' : Hp) (l : Addr) (as : List Addr) (L : List Nat), ExtN H H' → Tabs T.tabW H' → IsOrd ss L → RowsAt H H' l as (pl.length + 1) (wd pl L) → Q (.ref l) H'
theorem Tx.wordsByS (T : Tx K mg) (B : TabB base mg T.c_words_by_age T.P_words_by_age) {k : Nat} :
    FnOk P w K mg base CX0 (k + 5) T.f_words_by_age T.d_words_by_age ["plant", "stock"] (spWordsByS T) := by
  refine T.C_words_by_age.ok scWordsByAge (fun vs H Q E h => ?_) (fun A outer s H vs Q E hr h => ?_)
  · obtain ⟨p, q, pl, ss, rfl, _⟩ := h
    rfl
  · obtain ⟨p, q, pl, ss, rfl, hP, hq, hl, hn, hT, qq⟩ := h
    have nd := scWordsByAge.nd
    have hlen := hP.ok.len
    refine ⟨_, pss_cons (ps_setLc (i := 2) (own := [("box", 6)]) (g := gName 6) (tt := tYes) (by rfl) nd rfl rfl (sw_true rfl rfl rfl (by decide +kernel)) (pi_tup (pv 1)) (blkOk_by (N := ["plant", "stock", "words", "holder", "supplier", "above", "box"]) (sc := defScope sWordsByAge) (by decide +kernel))
        (fun _ _ _ _ _ => pg_name (i := 6) nd rfl (Or.inl rfl)) (fun _ _ _ _ _ => pts_nil) (fun _ _ _ _ _ => pe_lst pa_nil))
      (pss_cons (ps_for PassesOwn.never rfl (pi_list (pe_sortedLam (T := T.tabW) (j := 1) (x := "stock") (y := "station") B rfl T.memW_words_by_age T.uniW_words_by_age (hr.mono (by omega)) rfl (by rfl) T.n_sorted
          (pa_cons (pe_callTy cr_range1 (by rfl) T.n_range (by decide +kernel) (pa_cons (pe_callB call_len_seq (by rfl) T.n_len PySem.boot_len (pa_cons (pv 1) pa_nil)) pa_nil)) pa_nil)
          (nscope_by (by decide +kernel)) rfl (.inl (by rfl)) (by decide +kernel) (fun _ _ _ _ _ => rfl) rfl)) (pg_name (i := 3) nd rfl (.inl rfl))
        (pss_cons (ps_set (i := 4) nd rfl (.inl rfl) (pv 3))
        (pss_one (ps_while PassesOwn.never (pt_cmpR op_ne (pv 4) pe_int (nomark _))
          (pss_cons (ps_set (i := 5) nd rfl (.inl rfl) (pe_ix ix_tup (pv 0) (pe_op op_sub (pv 4) pe_int) (fun _ _ => rfl)))
          (pss_cons (ps_expr (pe_bm PySem.F.plainAttrs_list PySem.F.slot_list_append PySem.F.type_list_append mt_append (pe_ix ix_list (pv 2) (pv 5) (fun _ _ => rfl)) (pa_cons (pv 4) pa_nil)))
          (pss_one (ps_set (i := 4) nd rfl (.inl rfl) (pv 5)))))))))
      (pss_one (ps_ret (pv 2)))), ?_⟩
    have hv : SqT K H q (ss.map V.int) := hq.seq
    refine ⟨.ref q, rfl, q, rfl, ⟨_, hv⟩, fun D nD => ?_⟩
    refine lc_tup (xs := ss.map V.int) (fun i H' => ∃ as : List Addr, Same H H' ∧ H' D = some (.lst (as.map V.ref)) ∧ as.length = i ∧ (∀ a ∈ as, H a = none) ∧ D ∉ as ∧ as.Nodup ∧ ∀ a ∈ as, H' a = some (.lst []))
      ⟨[], same_new nD, upd_same, rfl, fun _ z => absurd z (by simp), by simp, List.nodup_nil, fun _ z => absurd z (by simp)⟩ (fun i H1 _ p1 => let ⟨_, sm, _⟩ := p1; seqT sm hv) (fun i x H1 ex p1 => ?_) (fun H1 p1 => ?_)
    · obtain ⟨as, sm, eD, la, na, oa, nda, ha⟩ := p1
      have hi := (List.getElem?_eq_some_iff.mp ex).1
      rw [List.length_map] at hi
      refine ⟨rfl, tyes_if ⟨Nat.zero_le _, fun c nc => ⟨_, upd_at eD nc, ?_, as ++ [c], ?_, ?_, ?_, ?_, ?_, ?_, ?_⟩⟩⟩
      · rw [List.length_map, la]
        exact small300 (by omega)
      · intro b o hb
        rw [upd_ne (ne_of_none hb nD)]
        exact same_new nc _ _ (sm _ _ hb)
      · rw [upd_same, List.map_append]
        rfl
      · rw [List.length_append, la]
        rfl
      · intro a hm
        rcases List.mem_append.mp hm with z | z
        · exact na a z
        · rw [List.mem_singleton.mp z]
          exact sm.free nc
      · intro hm
        rcases List.mem_append.mp hm with z | z
        · exact oa z
        · exact ne_of_none eD nc (List.mem_singleton.mp z)
      · refine List.nodup_append.mpr ⟨nda, List.nodup_cons.mpr ⟨fun z => (by cases z), List.nodup_nil⟩, fun a hm b hb => ?_⟩
        rw [List.mem_singleton.mp hb]
        exact ne_of_none (ha a hm) nc
      · intro a hm
        rcases List.mem_append.mp hm with z | z
        · rw [upd_ne (show a ≠ D from fun e => oa (e ▸ z))]
          exact upd_at (ha a z) nc
        · rw [List.mem_singleton.mp z, upd_ne (Ne.symm (ne_of_none eD nc)), upd_same]
    obtain ⟨as, sm, eD, la, na, oa, nda, ha⟩ := p1
    rw [List.length_map, hl] at la
    have R0 : RowsAt H H1 D as (pl.length + 1) fun _ => [] := ⟨nD, eD, la, na, oa, nda, fun j a e => ha a (List.mem_of_getElem? e)⟩
    -- the holders, from the oldest box on
    refine ⟨.ref q, rfl, q, _, rfl, .inr (seqT sm hv), _, rfl, fun r nr => ?_⟩
    have s2 : Same H1 (upd H1 r (.rng 0 ((ss.map V.int).length : Int))) := same_new nr
    refine ⟨r, q, (ss.map V.int).length, ss, rfl, upd_same, by rw [List.length_map]; omega, rfl, .inr (seqT (sm.trans s2) hv), (List.length_map ..).symm, tabs_same hT (sm.trans s2), fun H2 S ex tb nS => ?_⟩
    rw [show (ss.map V.int).length = ss.length from List.length_map ..]
    have hO := byAge_ord hn
    generalize (byAge ss.length fun i => ss.getD i 0) = L at hO
    have hLn : L.length ≤ 40 := by
      have nd2 : L.Nodup := hO.inc.imp fun {a b} h z => by rw [z] at h; omega
      have p : L.Perm (List.range ss.length) := (List.perm_ext_iff_of_nodup nd2 List.nodup_range).mpr fun k => (hO.mem k).trans List.mem_range.symm
      have := p.length_eq
      rw [List.length_range] at this
      omega
    have x2 : ExtN H H2 := fun b o h z => ex b o (s2 _ _ (sm _ _ h)) z
    have R2 : RowsAt H H2 D as (pl.length + 1) fun _ => [] := (R0.ext (same_extN s2)).ext ex
    have eS : ∀ {i h : Nat}, L[i]? = some h → (L.map fun i : Nat => V.int (i : Int))[i]? = some (V.int (h : Int)) := fun e => by rw [List.getElem?_map, e]; rfl
    refine ⟨S, rfl, ⟨_, .inl (.inl upd_same)⟩, ?_⟩
    refine for_list (xs := L.map fun i : Nat => V.int (i : Int)) (fun i σ H' => ∃ y3 y4 y5, σ = [some (.ref p), some (.ref q), some (.ref D), y3, y4, y5, none] ∧ ExtN H H' ∧ Tabs T.tabW H' ∧ RowsAt H H' D as (pl.length + 1) (wd pl (L.take i)) ∧ H' S = some (.lst (L.map fun i : Nat => V.int (i : Int))))
      ⟨none, none, none, rfl, extN_new x2 nS, tabs_same tb (same_new nS), (R2.ext (extN_new (fun b o h _ => h) nS)).congr fun k => rfl, upd_same⟩ (fun i σ H' _ p1 => let ⟨_, _, _, _, _, _, _, e⟩ := p1; .inl (.inl e)) (fun i x σ H' exi p1 => ?_) (fun σ H' p1 => ?_)
    · obtain ⟨y3, y4, y5, rfl, xx, tt, R, eS2⟩ := p1
      obtain ⟨h, eh, rfl⟩ : ∃ h, L[i]? = some h ∧ V.int (h : Int) = x := by
        rw [List.getElem?_map] at exi
        cases z : L[i]? with
        | none => rw [z] at exi; cases exi
        | some h => rw [z] at exi; cases exi; exact ⟨h, rfl, rfl⟩
      have hh : h ≤ pl.length := by
        have := (hO.mem h).mp (List.mem_of_getElem? eh)
        omega
      have iL := (List.getElem?_eq_some_iff.mp eh).1
      refine ⟨.int (h : Int), rfl, ?_⟩
      refine ⟨fun m σ H2 => ∃ y5, σ = [some (.ref p), some (.ref q), some (.ref D), some (.int (h : Int)), some (.int (m : Int)), y5, none] ∧ ExtN H H2 ∧ Tabs T.tabW H2 ∧ RowsAt H H2 D as (pl.length + 1) (fun v => wd pl (L.take i) v ++ upto pl h m v) ∧ H2 S = some (.lst (L.map fun i : Nat => V.int (i : Int))) ∧ m ∈ path pl h,
        ⟨h, y5, rfl, xx, tt, R.congr fun k => by rw [upto_start, List.append_nil], eS2, List.mem_of_getElem? (path_head pl h)⟩, ?_⟩
      rintro m σ H2 ⟨y5, rfl, xx, tt, R, eS2, hm⟩
      have hmh := path_le pl h m hm
      refine ⟨.int (m : Int), rfl, rfl, _, rfl, ite2 (fun e => ?_) fun e => ?_⟩
      · have m0 : 0 < m := Nat.pos_of_ne_zero fun z => by
          rw [z] at e
          exact absurd e (by decide)
        have c := cu_lt pl m0
        refine ⟨fun σ' H3 => ∃ y5, σ' = [some (.ref p), some (.ref q), some (.ref D), some (.int (h : Int)), some (.int ((cu pl m : Nat) : Int)), y5, none] ∧ ExtN H H3 ∧ Tabs T.tabW H3 ∧ RowsAt H H3 D as (pl.length + 1) (fun v => wd pl (L.take i) v ++ upto pl h (cu pl m) v) ∧ H3 S = some (.lst (L.map fun i : Nat => V.int (i : Int))) ∧ cu pl m ∈ path pl h, fun σ' H3 z => ⟨cu pl m, c, z⟩, ?_⟩
        obtain ⟨k, rfl⟩ : ∃ k, m = k + 1 := ⟨m - 1, by omega⟩
        have hP2 := extN_plant xx hP
        have hc : cu pl (k + 1) < as.length := by rw [R.len]; omega
        have ec : as[cu pl (k + 1)]? = some as[cu pl (k + 1)] := List.getElem?_eq_getElem hc
        have ha2 := R.at_ _ _ ec
        refine ⟨.ref p, rfl, .int ((k + 1 : Nat) : Int), rfl, _, 1, rfl, rfl, p, pl.map V.int, (k : Int), .int ((cu pl (k + 1) : Nat) : Int), rfl, congrArg V.int (by omega), hP2.seq, atI_nat (by rw [List.getElem?_map, hP.ok.at (by omega)]; rfl), ?_⟩
        refine ⟨.ref D, rfl, .int ((cu pl (k + 1) : Nat) : Int), rfl, D, as.map V.ref, ((cu pl (k + 1) : Nat) : Int), .ref as[cu pl (k + 1)], rfl, rfl, .inl (.inl R.hl), atI_nat (by rw [List.getElem?_map, ec]; rfl), .inl ⟨rfl, _, .inl (.inl ha2)⟩, .int ((k + 1 : Nat) : Int), rfl, as[cu pl (k + 1)], _, _, rfl, rfl, ha2, ?_, ?_⟩
        · rw [List.length_map, natI_len, List.length_append]
          have z1 := wd_len pl (L.take i) (cu pl (k + 1))
          have z2 := upto_len pl h (k + 1) (cu pl (k + 1))
          rw [List.length_take] at z1
          exact small300 (by omega)
        refine ⟨.int ((cu pl (k + 1) : Nat) : Int), rfl, _, rfl, extN_set xx (R.new _ (List.getElem_mem hc)), tabs_set tt ha2, (R.app ec).congr fun v => ?_, ?_, path_up h hm m0⟩
        · rw [upto_step m0 hm]
          by_cases cv : v = cu pl (k + 1)
          · subst cv
            rw [if_pos rfl, if_pos rfl, List.append_assoc]
          · rw [if_neg cv, if_neg cv]
        · rw [upd_ne (show S ≠ as[cu pl (k + 1)] from fun z => by
            have y := extN_lst ex (s2 _ _ (ha _ (List.getElem_mem hc)))
            rw [← z, nS] at y
            cases y)]
          exact eS2
      · have m0 : m = 0 := by
          by_cases z : m = 0
          · exact z
          · refine absurd ?_ e
            show (!decide (V.int (m : Int) = V.int 0)) = true
            rw [decide_eq_false (fun y => z (by have := V.int.inj y; omega))]
            rfl
        subst m0
        exact ⟨_, _, _, rfl, xx, tt, R.congr fun v => (wd_take v eh).symm, eS2⟩
    · obtain ⟨y3, y4, y5, rfl, xx, tt, R, eS2⟩ := p1
      rw [List.length_map, List.take_length] at R
      exact ⟨.ref D, rfl, qq H' D as L xx tt hO R⟩
def spWordsBy (T : Tx K mg) : Sp := fun vs H Q _ => ∃ (p q : Addr) (pl ss : List Int), vs = [.ref p, .ref q] ∧ PlantAt H p pl ∧ H q = some (.tup (ss.map V.int)) ∧ ss.length = pl.length + 1 ∧ ss.Nodup ∧ Tabs T.tabW H ∧
  ∀ (H' : Hp) (l : Addr) (as : List Addr) (L : List Nat), ExtN H H' → Tabs T.tabW H' → IsOrd ss L → RowsAt H H' l as (pl.length + 1) (wd pl L) → Q (.ref l) H'
theorem Tx.wordsBy (T : Tx K mg) (B : TabB base mg T.c_words_by_age T.P_words_by_age) {k : Nat} : FnOk P w K mg base CX0 (k + 5) T.f_words_by_age T.d_words_by_age ["plant", "stock"] (spWordsBy T) :=
  fnOk_of (T.wordsByS B) fun vs H Q E h => let ⟨p, q, pl, ss, e, hP, hq, r⟩ := h; ⟨p, q, pl, ss, e, hP, .inl hq, r⟩
end
end PT


set_option maxHeartbeats 4000000
/-! times_given, emptied_within -/
namespace PT
open PySem PySem.Spec PyProof.Rows L2 LamX NdefX
theorem cut_toL (ns : List Int) (i : Int) (h : 0 ≤ i) : cutV (ns.map V.int) none (some i) = (ns.take i.toNat).map V.int := by
  have z := cut_to ns i.toNat
  rw [show ((i.toNat : Nat) : Int) = i by omega] at z
  exact z
section
variable {P : Program} {w : World} {K : PySem.W.Frag} {mg : Str → Option Value} {base : Heap}
def spTimes : Sp := fun vs H Q _ => ∃ (l : Addr) (W : List Nat) (u : Nat) (m : Int), vs = [.ref l, .int (u : Int), .int m] ∧ H l = some (.lst ((natI W).map V.int)) ∧ W ≠ [] ∧ W.length ≤ 300 ∧ 0 ≤ m ∧ ∀ H', Same H H' → Q (.int (given W u m)) H'
theorem Tx.timesGiven (T : Tx K mg) {k : Nat} : FnOk P w K mg base CX0 (k + 1) T.f_times_given T.d_times_given ["letters", "supplier", "many"] spTimes := by
  refine T.F_times_given.ok scTimesGiven (fun vs H Q E h => ?_) (fun cdv A outer s H vs Q E hr h => ?_)
  · obtain ⟨l, W, u, m, rfl, _⟩ := h
    rfl
  · obtain ⟨l, W, u, m, rfl, hl, hW, hw, hm, q⟩ := h
    have nd := scTimesGiven.nd
    have hw0 : 0 < W.length := List.length_pos_iff.mpr hW
    have el : (((natI W).map V.int).length : Int) = (W.length : Int) := by rw [List.length_map, natI_len]
    refine ⟨_, pss_cons (ps_asg (pe_callB call_divmod (by rfl) T.n_divmod (by decide +kernel) (pa_cons (pv 2) (pa_cons (pe_callB call_len_seq (by rfl) T.n_len PySem.boot_len (pa_cons (pv 0) pa_nil)) pa_nil))) (pg_tup (by rfl) (pgs_cons (pg_name (i := 3) nd rfl (.inl rfl)) (pgs_cons (pg_name (i := 4) nd rfl (.inl rfl)) pgs_nil))))
      (pss_one (ps_ret (pe_op op_add (pe_op op_mul (pv 3) (pe_bm PySem.F.plainAttrs_list PySem.F.slot_list_count PySem.F.type_list_count mt_lcount (pv 0) (pa_cons (pv 1) pa_nil)))
        (pe_bm PySem.F.plainAttrs_list PySem.F.slot_list_count PySem.F.type_list_count mt_lcount (pe_slice sl_list (pv 0) po_none (po_some (pv 4))) (pa_cons (pv 1) pa_nil))))), ?_⟩
    refine ⟨.int m, rfl, .ref l, rfl, l, _, rfl, .inl (.inl (.inl hl)), m, (W.length : Int), by rw [el], ⟨by omega, by omega⟩, fun p np => ?_⟩
    have s1 : Same H (upd H p (.tup [.int (m / (W.length : Int)), .int (m % (W.length : Int))])) := same_new np
    have hl1 := s1 _ _ hl
    have h0 : 0 ≤ m % (W.length : Int) := Int.emod_nonneg _ (by omega)
    have c1 : (natI W).count (u : Int) = W.count u := natI_count u W
    have cle : W.count u ≤ W.length := List.count_le_length
    refine ⟨p, _, rfl, .inl (.inl upd_same), rfl, _, _, rfl, _, _, rfl, rfl, ?_⟩
    refine ⟨_, rfl, .ref l, rfl, .inl ⟨rfl, _, .inl (.inl hl1)⟩, .int (u : Int), rfl, l, natI W, (u : Int), rfl, rfl, .inl (.inl hl1), _, _, rfl, rfl, .inr ⟨by omega, by omega⟩, ?_⟩
    refine ⟨.ref l, rfl, _, rfl, _, rfl, l, _, rfl, .inl (.inl hl1), fun D nD => ?_⟩
    have s2 := same_new (o := .lst (cutV ((natI W).map V.int) none (some (m % (W.length : Int))))) nD
    rw [cut_toL _ _ h0] at s2 ⊢
    have et : (natI W).take (m % (W.length : Int)).toNat = natI (W.take (m % (W.length : Int)).toNat) := by
      unfold natI
      rw [List.map_take]
    rw [et] at s2 ⊢
    refine ⟨.inl ⟨rfl, _, .inl (.inl upd_same)⟩, .int (u : Int), rfl, D, natI (W.take (m % (W.length : Int)).toNat), (u : Int), rfl, rfl, .inl (.inl upd_same), _, _, rfl, rfl, ?_⟩
    rw [c1, natI_count]
    exact q _ (s1.trans s2)
def spEmptied (T : Tx K mg) : Sp := fun vs H Q _ => ∃ (p q : Addr) (pl ss : List Int) (v u : Nat) (m : Int), vs = [.ref p, .ref q, .int (v : Int), .int (u : Int), .int m] ∧ PlantAt H p pl ∧ H q = some (.tup (ss.map V.int)) ∧ StockOk pl ss ∧ Ord pl ss ∧ 0 < u ∧ u ≤ pl.length ∧ cu pl u = v ∧ 0 ≤ m ∧ m ≤ 10 ^ 30 ∧ Tabs T.tabW H ∧
  ∀ (H' : Hp) (L : List Nat), ExtN H H' → Tabs T.tabW H' → IsOrd ss L → Q (.int (given (wd pl L v) u m)) H'
end
end PT


set_option maxHeartbeats 4000000
/-! turned, emptied_by_words, turned_words, words_after -/
namespace PT
open PySem PySem.Spec PyProof.Rows L2
section
variable {P : Program} {w : World} {K : PySem.W.Frag} {mg : Str → Option Value} {base : Heap}
theorem cut_fromL (ns : List Int) (i : Int) (h : 0 ≤ i) : cutV (ns.map V.int) (some i) none = (ns.drop i.toNat).map V.int := by
  have z := cut_from ns i.toNat
  rw [show ((i.toNat : Nat) : Int) = i by omega] at z
  exact z
def spTurned : Sp := fun vs H Q _ => ∃ (l : Addr) (W : List Nat) (m : Nat), vs = [.ref l, .int (m : Int)] ∧ H l = some (.lst ((natI W).map V.int)) ∧ W.length ≤ 300 ∧ ∀ (H' : Hp) (a : Addr), Same H H' → H a = none → H' a = some (.lst ((natI (rot W m)).map V.int)) → Q (.ref a) H'
theorem Tx.turned (T : Tx K mg) {k : Nat} : FnOk P w K mg base CX0 (k + 1) T.f_turned T.d_turned ["letters", "many"] spTurned := by
  refine T.F_turned.ok scTurned (fun vs H Q E h => ?_) (fun cdv A outer s H vs Q E hr h => ?_)
  · obtain ⟨l, W, m, rfl, _⟩ := h
    rfl
  · obtain ⟨l, W, m, rfl, hl, hW, q⟩ := h
    have nd := scTurned.nd
    have el : (((natI W).map V.int).length : Int) = (W.length : Int) := by rw [List.length_map, natI_len]
    refine ⟨_, pss_cons (ps_if (pt_not (pt_truth (pv 0) (by intro _; rfl))) (pss_one (ps_ret (pe_lst pa_nil))) pss_nil)
      (pss_cons (ps_set (i := 2) nd rfl (.inl rfl) (pe_op op_mod (pv 1) (pe_callB call_len_seq (by rfl) T.n_len PySem.boot_len (pa_cons (pv 0) pa_nil))))
      (pss_one (ps_ret (pe_op op_cat (pe_slice sl_list (pv 0) (po_some (pv 2)) po_none) (pe_slice sl_list (pv 0) po_none (po_some (pv 2))))))), ?_⟩
    refine ⟨.ref l, rfl, _, .inl ⟨_, .inl (.inl hl), rfl⟩, ?_⟩
    cases W with
    | nil =>
      have e0 : rot [] m = [] := by
        unfold rot
        simp
      rw [e0] at q
      exact iteT ⟨Nat.zero_le _, fun a na => q _ a (same_new na) na upd_same⟩
    | cons x W =>
      generalize hx : x :: W = W0 at *
      have ne : W0.length ≠ 0 := by rw [← hx]; exact Nat.succ_ne_zero _
      have e0 : (!((!((natI W0).map V.int).isEmpty))) = false := by rw [← hx]; rfl
      rw [e0]
      have em : (m : Int) % (W0.length : Int) = ((m % W0.length : Nat) : Int) := (Int.natCast_emod m W0.length).symm
      have h0 : 0 ≤ (m : Int) % (W0.length : Int) := Int.emod_nonneg _ (by omega)
      have et : ((m : Int) % (W0.length : Int)).toNat = m % W0.length := by rw [em, Int.toNat_natCast]
      refine iteF ⟨_, rfl, .ref l, rfl, l, _, rfl, .inl (.inl (.inl hl)), (m : Int), (W0.length : Int), rfl, by rw [el], (by show 0 < (W0.length : Int); omega), ?_⟩
      refine ⟨.ref l, rfl, _, rfl, _, rfl, l, _, rfl, .inl (.inl hl), fun a na => ?_⟩
      have s1 := same_new (o := .lst (cutV ((natI W0).map V.int) (some ((m : Int) % (W0.length : Int))) none)) na
      rw [cut_fromL _ _ h0, et] at s1 ⊢
      refine ⟨.ref l, rfl, _, rfl, _, rfl, l, _, rfl, .inl (.inl (s1 _ _ hl)), fun b nb => ?_⟩
      have s2 := s1.trans (same_new (o := .lst (cutV ((natI W0).map V.int) none (some ((m : Int) % (W0.length : Int))))) nb)
      rw [cut_toL _ _ h0, et] at s2 ⊢
      refine ⟨a, b, _, _, rfl, rfl, upd_at upd_same nb, upd_same, ?_, fun c nc => ?_⟩
      · rw [List.length_map, List.length_map, List.length_drop, List.length_take, natI_len]
        exact Nat.le_of_lt (small300 (by omega))
      · refine q _ c (s2.trans (same_new nc)) (s2.free nc) ?_
        rw [upd_same]
        simp only [rot, natI, List.map_append, List.map_drop, List.map_take]
def spTimesL : Sp := fun vs H Q _ => ∃ (p l : Addr) (pl : List Int) (as : List Addr) (W : Nat → List Nat) (d : Nat), vs = [.ref p, .ref l, .int (d : Int)] ∧ PlantAt H p pl ∧ RowsN H l as (pl.length + 1) W ∧ WordsOk pl W ∧
  ∀ (H' : Hp) (t : Addr), Same H H' → H t = none → H' t = some (.lst (((List.range (pl.length + 1)).map fun v => ((tm pl W d v : Nat) : Int)).map V.int)) → Q (.ref t) H'
theorem Tx.emptiedByWords (T : Tx K mg) {k : Nat} : FnOk P w K mg base CX0 (k + 2) T.f_emptied_by_words T.d_emptied_by_words ["plant", "words", "days"] spTimesL := by
  refine T.F_emptied_by_words.ok scEmptiedByWords (fun vs H Q E h => ?_) (fun cdv A outer s H vs Q E hr h => ?_)
  · obtain ⟨p, l, pl, as, W, d, rfl, _⟩ := h
    rfl
  · obtain ⟨p, l, pl, as, W, d, rfl, hP, R, ok, q⟩ := h
    have nd := scEmptiedByWords.nd
    have hlen := hP.ok.len
    refine ⟨_, pss_cons (ps_set (i := 3) nd rfl (.inl rfl) (pe_lst (pa_cons (pv 2) pa_nil)))
      (pss_cons (ps_for PassesOwn.never rfl (pi_F (by rfl) T.n_enumerate (pa_cons (pv 0) (pa_cons pe_int pa_nil))) (pg_tup rfl (pgs_cons (pg_name (i := 4) nd rfl (.inl rfl)) (pgs_cons (pg_name (i := 5) nd rfl (.inl rfl)) pgs_nil)))
        (pss_one (ps_expr (pe_bm PySem.F.plainAttrs_list PySem.F.slot_list_append PySem.F.type_list_append mt_append (pv 3) (pa_cons
          (pe_call (T.timesGiven (k := 0)) (hr.mono (by omega)) (by rfl) T.g_times_given T.F_times_given.kp T.b_times_given .nil pass0 (pa_cons (pe_ix ix_list (pv 1) (pv 5) (fun _ _ => rfl)) (pa_cons (pv 4) (pa_cons (pe_ix ix_list (pv 3) (pv 5) (fun _ _ => rfl)) pa_nil)))) pa_nil)))))
      (pss_one (ps_ret (pv 3)))), ?_⟩
    refine ⟨.int (d : Int), rfl, (by show 1 ≤ sizeLine; decide), fun t nt => ?_⟩
    refine ⟨.ref p, rfl, p, 1, pl.map V.int, rfl, (hP.same (same_new nt)).seq, by decide, by decide, ?_⟩
    refine for_it (walk_F (xs := pl.map V.int)) (fun i σ H' => ∃ (y4 y5 : Option V), σ = [some (.ref p), some (.ref l), some (.int (d : Int)), some (.ref t), y4, y5] ∧ Same H H' ∧ H' t = some (.lst (((List.range (i + 1)).map fun v => ((tm pl W d v : Nat) : Int)).map V.int)))
      ⟨_, _, rfl, same_new nt, by rw [upd_same]; show _ = some (HO.lst [V.int ((tm pl W d 0 : Nat) : Int)]); rw [tm_zero]⟩ (fun i σ H' _ p1 => ?_) (fun i x σ H3 H4 hi p1 y => ?_) (fun σ H3 p1 => ?_)
    · obtain ⟨_, _, _, s3, _⟩ := p1
      exact (hP.same s3).seq
    · obtain ⟨y4, y5, rfl, s3, e3⟩ := p1
      obtain ⟨T2, x1, x2, rfl, n2, rfl, g1, g2⟩ := y
      cases g1
      rw [List.length_map] at hi
      have eu := hP.ok.at (i := i) hi
      obtain rfl : V.int ((cu pl (i + 1) : Nat) : Int) = x2 := by
        have e : (pl.map V.int)[i]? = some x2 := g2
        rw [List.getElem?_map, eu] at e
        cases e
        rfl
      have sT : Same H3 (upd H3 T2 (.tup [.int (1 + (i : Nat)), .int ((cu pl (i + 1) : Nat) : Int)])) := same_new n2
      have hc := cu_lt pl (show 0 < i + 1 by omega)
      have R4 := (R.same s3).same sT
      obtain ⟨r, er, hr1⟩ := R4.get (i := cu pl (i + 1)) (by omega)
      have e4 := sT _ _ e3
      have hW := ok.len hP.ok (v := cu pl (i + 1)) (by omega)
      have e1 : V.int (1 + (i : Int)) = V.int ((i + 1 : Nat) : Int) := congrArg V.int (by omega)
      refine ⟨T2, _, rfl, .inl (.inl upd_same), rfl, _, _, rfl, _, _, rfl, rfl, ?_⟩
      refine ⟨.ref t, rfl, .inl ⟨rfl, _, .inl (.inl e4)⟩, .ref l, rfl, .int ((cu pl (i + 1) : Nat) : Int), rfl, l, as.map V.ref, ((cu pl (i + 1) : Nat) : Int), .ref r, rfl, rfl, .inl (.inl R4.hl), atI_nat (by rw [List.getElem?_map, er]; rfl), .int (1 + (i : Int)), rfl,
        .ref t, rfl, .int ((cu pl (i + 1) : Nat) : Int), rfl, t, _, ((cu pl (i + 1) : Nat) : Int), .int ((tm pl W d (cu pl (i + 1)) : Nat) : Int), rfl, rfl, .inl (.inl e4), atI_nat (by rw [List.getElem?_map, List.getElem?_map, List.getElem?_range (by omega)]; rfl), ?_⟩
      refine ⟨r, W (cu pl (i + 1)), i + 1, ((tm pl W d (cu pl (i + 1)) : Nat) : Int), by rw [e1]; rfl, hr1, ok.ne (by omega) (by omega), by omega, by omega, fun H5 s5 => ?_⟩
      rw [given_nat]
      refine ⟨t, _, _, rfl, rfl, s5 _ _ e4, ?_, _, _, rfl, fun b o hb => ?_, ?_⟩
      · rw [List.length_map, List.length_map, List.length_range]
        exact small300 (by omega)
      · rw [upd_ne (ne_of_none hb nt)]
        exact s5 _ _ (sT _ _ (s3 _ _ hb))
      · rw [upd_same, List.range_succ (n := i + 1), List.map_append, List.map_append]
        show _ = some (HO.lst (_ ++ [V.int ((tm pl W d (i + 1) : Nat) : Int)]))
        rw [tm_pos pl W d (show 0 < i + 1 by omega)]
    · obtain ⟨y4, y5, rfl, s3, e3⟩ := p1
      rw [List.length_map] at e3
      exact ⟨.ref t, rfl, q H3 t s3 nt e3⟩
def spTurnedW : Sp := fun vs H Q _ => ∃ (p l : Addr) (pl : List Int) (as : List Addr) (W : Nat → List Nat) (d : Nat), vs = [.ref p, .ref l, .int (d : Int)] ∧ PlantAt H p pl ∧ RowsN H l as (pl.length + 1) W ∧ WordsOk pl W ∧
  ∀ (H' : Hp) (t : Addr) (bs : List Addr), Same H H' → H t = none → (∀ b ∈ bs, H b = none) → RowsN H' t bs (pl.length + 1) (rotW pl W d) → Q (.ref t) H'
theorem Tx.turnedWords (T : Tx K mg) {k : Nat} : FnOk P w K mg base CX0 (k + 3) T.f_turned_words T.d_turned_words ["plant", "words", "days"] spTurnedW := by
  refine T.F_turned_words.ok scTurnedWords (fun vs H Q E h => ?_) (fun cdv A outer s H vs Q E hr h => ?_)
  · obtain ⟨p, l, pl, as, W, d, rfl, _⟩ := h
    rfl
  · obtain ⟨p, l, pl, as, W, d, rfl, hP, R, ok, q⟩ := h
    have nd := scTurnedWords.nd
    have hlen := hP.ok.len
    refine ⟨_, pss_one (ps_ret (pe_lc (own := [("letters", 3), ("many", 4)]) (g := gTup K 2 (gCons (gName 3) (gCons (gName 4) gNil))) (tt := tYes) (te := tCall spTurned [] E0 (tCons (tVar 3) (tCons (tVar 4) tNil))) rfl nd
            (pi_zip (by rfl) T.n_zip (pa_cons (pv 1) (pa_cons (pe_call (T.emptiedByWords (k := 0)) (hr.mono (by omega)) (by rfl) T.g_emptied_by_words T.F_emptied_by_words.kp T.b_emptied_by_words .nil pass0 (pa_cons (pv 0) (pa_cons (pv 1) (pa_cons (pv 2) pa_nil)))) pa_nil)))
            (blkOk_by (N := ["plant", "words", "days", "letters", "many"]) (sc := defScope sTurnedWords) (by decide +kernel))
            (fun _ _ _ _ _ => pg_tup rfl (pgs_cons (pg_name (i := 3) nd rfl (.inl rfl)) (pgs_cons (pg_name (i := 4) nd rfl (.inl rfl)) pgs_nil))) (fun _ _ _ _ _ => pts_nil)
            (fun _ _ _ _ _ => pe_call (T.turned (k := 0)) (hr.mono (by omega)) (by rfl) T.g_turned T.F_turned.kp T.b_turned .nil pass0 (pa_cons (pv 3) (pa_cons (pv 4) pa_nil))))), ?_⟩
    refine ⟨.ref l, rfl, .ref p, rfl, .ref l, rfl, .int (d : Int), rfl, p, l, pl, as, W, d, rfl, hP, R, ok, fun H1 t s1 nt et => ?_⟩
    refine ⟨l, t, as.map V.ref, _, rfl, .inl (.inl (s1 _ _ R.hl)), .inl (.inl et), fun D nD => ?_⟩
    refine lc_it (walk_zip (n := pl.length + 1) (xs := as.map V.ref) (ys := ((List.range (pl.length + 1)).map fun v => ((tm pl W d v : Nat) : Int)).map V.int) (by rw [List.length_map, R.len, List.length_map, List.length_map, List.length_range, Nat.min_self]))
      (fun i G => Same H1 G ∧ ∃ bs, RowsN G D bs i (rotW pl W d) ∧ ∀ b ∈ bs, H1 b = none) ⟨same_new nD, [], .start, fun a h => nomatch h⟩
        (fun i G _ p1 => ⟨.inl (.inl (p1.1 _ _ (s1 _ _ R.hl))), .inl (.inl (p1.1 _ _ et))⟩) (fun i x G3 G4 hi p1 y => ?_) (fun G p1 => ?_)
    · obtain ⟨sG, bs, RG, nbs⟩ := p1
      obtain ⟨T2, x1, x2, rfl, n2, rfl, g1, g2⟩ := y
      obtain ⟨r, er, hr1⟩ := R.get (i := i) (by omega)
      obtain rfl : V.ref r = x1 := by
        have e : (as.map V.ref)[i]? = some x1 := g1
        rw [List.getElem?_map, er] at e
        cases e
        rfl
      obtain rfl : V.int ((tm pl W d i : Nat) : Int) = x2 := by
        have e : (((List.range (pl.length + 1)).map fun v => ((tm pl W d v : Nat) : Int)).map V.int)[i]? = some x2 := g2
        rw [List.getElem?_map, List.getElem?_map, List.getElem?_range (by omega)] at e
        cases e
        rfl
      have sT := same_new (o := .tup [V.ref r, V.int ((tm pl W d i : Nat) : Int)]) n2
      have hW := ok.len hP.ok (v := i) (by omega)
      refine ⟨T2, _, rfl, .inl (.inl upd_same), rfl, _, _, rfl, _, _, rfl, rfl, rfl, tyes_if ⟨.ref r, rfl, .int ((tm pl W d i : Nat) : Int), rfl, r, W i, tm pl W d i, rfl, sT _ _ (sG _ _ (s1 _ _ hr1)), by omega, fun H5 a s5 na ea => ⟨_, s5 _ _ (sT _ _ RG.hl), ?_, fun b o hb => ?_, bs ++ [a], RG.snoc (same_extN (sT.trans s5)) (newN_of (sT.free na)) ea, fun b hb => ?_⟩⟩⟩
      · rw [List.length_map, RG.len]
        exact small300 (by omega)
      · rw [upd_ne (ne_of_none hb nD)]
        exact s5 _ _ (sT _ _ (sG _ _ hb))
      · rcases List.mem_append.mp hb with z | z
        · exact nbs b z
        · rw [List.mem_singleton.mp z]
          exact sG.free (sT.free na)
    · obtain ⟨sG, bs, RG, nbs⟩ := p1
      exact q G D bs (s1.trans sG) (s1.free nD) (fun b hb => s1.free (nbs b hb)) RG
def spWordsAfter : Sp := fun vs H Q _ => ∃ (p l : Addr) (pl : List Int) (as : List Addr) (W : Nat → List Nat) (d : Nat), vs = [.ref p, .ref l, .int (d : Int)] ∧ d ≤ 10 ^ 30 ∧ PlantAt H p pl ∧ RowsN H l as (pl.length + 1) W ∧ WordsOk pl W ∧
  ∀ (H' : Hp) (t : Addr) (bs : List Addr), Same H H' → H t = none → (∀ b ∈ bs, H b = none) → RowsN H' t bs (pl.length + 1) (rotW pl W d) → Q (.ref t) H'
end
end PT

/-! the pattern with given words: boxes placed from the oldest on -/
namespace PT
theorem br_isSome {pl : List Int} {v : Nat} : ∀ s, (br pl v s).isSome = decide (v ∈ path pl s ∧ v ≠ s) := by
  intro s
  induction s using Nat.strongRecOn with
  | ind s ih =>
    by_cases h : 0 < s
    · have c := cu_lt pl h
      rw [br_pos pl v h, path_pos pl h]
      by_cases e : cu pl s = v
      · rw [if_pos e]
        refine (decide_eq_true ⟨List.mem_cons_of_mem _ (e ▸ List.mem_of_getElem? (path_head pl _)), by omega⟩).symm
      · rw [if_neg e, ih _ c]
        have iff : (v ∈ path pl (cu pl s) ∧ v ≠ cu pl s) ↔ (v ∈ s :: path pl (cu pl s) ∧ v ≠ s) := by
          constructor
          · rintro ⟨a, b⟩
            have := path_le pl _ _ a
            exact ⟨List.mem_cons_of_mem _ a, by omega⟩
          · rintro ⟨a, b⟩
            rcases List.mem_cons.mp a with z | z
            · exact absurd z b
            · exact ⟨z, fun y => e y.symm⟩
        by_cases q : v ∈ path pl (cu pl s) ∧ v ≠ cu pl s
        · rw [decide_eq_true q, decide_eq_true (iff.mp q)]
        · rw [decide_eq_false q, decide_eq_false fun z => q (iff.mpr z)]
    · have e : s = 0 := by omega
      subst e
      rw [br_zero, path_zero]
      refine (decide_eq_false fun z => ?_).symm
      exact z.2 (List.mem_singleton.mp z.1)
theorem wd_app (pl : List Int) (L M : List Nat) (v : Nat) : wd pl (L ++ M) v = wd pl L v ++ wd pl M v := List.filterMap_append ..
theorem wd_one (pl : List Int) (c v : Nat) : wd pl [c] v = (br pl v c).toList := by
  unfold wd
  cases e : br pl v c with
  | none => rw [List.filterMap_cons_none e]; rfl
  | some t => rw [List.filterMap_cons_some e]; rfl
theorem idxOf_old {L : List Nat} {a c : Nat} (h : a ∈ L) : (L ++ [c]).idxOf a = L.idxOf a := by
  rw [List.idxOf_append, if_pos h]
theorem idxOf_new {L : List Nat} {c : Nat} (h : c ∉ L) : (L ++ [c]).idxOf c = L.length := by
  rw [List.idxOf_append, if_neg h]
  simp
/-- L: the stations that have their boxes already, from the oldest on -/
structure Laid (pl : List Int) (W : Nat → List Nat) (L : List Nat) : Prop where
  nd : L.Nodup
  le : ∀ s ∈ L, s ≤ pl.length
  up : ∀ s ∈ L, 0 < s → cu pl s ∈ L
  bf : ∀ s ∈ L, 0 < s → L.idxOf (cu pl s) < L.idxOf s
  pre : ∀ v, v ≤ pl.length → wd pl L v = (W v).take (wd pl L v).length
/-- on the way down to the next station: c is come to -/
structure Way (pl : List Int) (W : Nat → List Nat) (L : List Nat) (c : Nat) : Prop where
  le : c ≤ pl.length
  op : ∃ t, t ≤ pl.length ∧ c ∈ path pl t ∧ t ∉ L
  up : 0 < c → cu pl c ∈ L
  lt : ∀ v x, br pl v c = some x → (W v)[(wd pl L v).length]? = some x
theorem Laid.len {pl : List Int} {W : Nat → List Nat} {L : List Nat} (h : Laid pl W L) : L.length ≤ pl.length + 1 := by
  have p : L.Perm ((List.range (pl.length + 1)).filter fun k => decide (k ∈ L)) := (List.perm_ext_iff_of_nodup h.nd (List.nodup_range.sublist List.filter_sublist)).mpr fun k => by
    rw [List.mem_filter, decide_eq_true_iff, List.mem_range]
    exact ⟨fun z => ⟨by have := h.le k z; omega, z⟩, fun z => z.2⟩
  have e := p.length_eq
  have l := List.length_filter_le (fun k => decide (k ∈ L)) (List.range (pl.length + 1))
  rw [List.length_range] at l
  omega
theorem zero_path (pl : List Int) : ∀ s, 0 ∈ path pl s := by
  intro s
  induction s using Nat.strongRecOn with
  | ind s ih =>
    by_cases h : 0 < s
    · rw [path_pos pl h]
      exact List.mem_cons_of_mem _ (ih _ (cu_lt pl h))
    · have e : s = 0 := by omega
      subst e
      rw [path_zero]
      exact List.mem_cons_self
theorem Way.start {pl : List Int} {W : Nat → List Nat} {L : List Nat} (h : Laid pl W L) (hl : L.length ≤ pl.length) : Way pl W L 0 := by
  have ex : ∃ t, t ≤ pl.length ∧ t ∉ L := Classical.byContradiction fun no => by
    have sub : ∀ k ∈ List.range (pl.length + 1), k ∈ L := fun k hk => Classical.byContradiction fun z => no ⟨k, by have := List.mem_range.mp hk; omega, z⟩
    have := (List.nodup_range (n := pl.length + 1)).length_le_of_subset sub
    rw [List.length_range] at this
    omega
  obtain ⟨t, t1, t2⟩ := ex
  exact ⟨Nat.zero_le _, ⟨t, t1, zero_path pl t, t2⟩, fun z => absurd z (Nat.lt_irrefl 0), fun v x e => by rw [br_zero] at e; cases e⟩
/-- those that are not laid yet -/
def rest (pl : List Int) (L : List Nat) : List Nat := (List.range (pl.length + 1)).filter fun k => !decide (k ∈ L)
theorem Laid.split {pl : List Int} {W : Nat → List Nat} {L : List Nat} (h : Laid pl W L) : (L ++ rest pl L).Perm (List.range (pl.length + 1)) := by
  refine (List.perm_ext_iff_of_nodup (List.nodup_append.mpr ⟨h.nd, List.nodup_range.sublist List.filter_sublist, fun a ha b hb e => ?_⟩) List.nodup_range).mpr fun k => ?_
  · have := (List.mem_filter.mp hb).2
    rw [← e] at this
    simp [ha] at this
  · rw [List.mem_append, List.mem_filter, List.mem_range]
    constructor
    · rintro (z | z)
      · have := h.le k z
        omega
      · exact z.1
    · intro z
      by_cases y : k ∈ L
      · exact .inl y
      · exact .inr ⟨z, by simp [y]⟩
theorem words_range {pl : List Int} {W : Nat → List Nat} (hP : Plant pl) (ok : WordsOk pl W) {v : Nat} (hv : v ≤ pl.length) : (W v).Perm (wd pl (List.range (pl.length + 1)) v) := by
  have ok2 := wd_ok (pl := pl) (ss := (List.range (pl.length + 1)).map fun k : Nat => (k : Int)) (by rw [List.length_map, List.length_range]) (ord_range (pl.length + 1))
  exact (ok.perm hP hv).trans (ok2.perm hP hv).symm
theorem Laid.words {pl : List Int} {W : Nat → List Nat} {L : List Nat} (hP : Plant pl) (ok : WordsOk pl W) (h : Laid pl W L) {v : Nat} (hv : v ≤ pl.length) : (W v).Perm (wd pl L v ++ wd pl (rest pl L) v) := by
  refine (words_range hP ok hv).trans ?_
  rw [← wd_app]
  exact (h.split.filterMap (br pl v)).symm
theorem Way.step {pl : List Int} {W : Nat → List Nat} {L : List Nat} {c : Nat} (hP : Plant pl) (ok : WordsOk pl W) (h : Laid pl W L) (w : Way pl W L c) (hc : c ∈ L) :
    ∃ u, (W c)[(wd pl L c).length]? = some u ∧ Way pl W L u ∧ c < u ∧ cu pl u = c ∧ 0 < u := by
  have pm := h.words hP ok w.le
  have hlt : (wd pl L c).length < (W c).length := by
    rw [pm.length_eq, List.length_append]
    obtain ⟨t, t1, t2, t3⟩ := w.op
    have hs : (br pl c t).isSome = true := by
      rw [br_isSome]
      exact decide_eq_true ⟨t2, fun z => t3 (z ▸ hc)⟩
    obtain ⟨x, ex⟩ := Option.isSome_iff_exists.mp hs
    have hm : x ∈ wd pl (rest pl L) c := List.mem_filterMap.mpr ⟨t, List.mem_filter.mpr ⟨List.mem_range.mpr (by omega), by simp [t3]⟩, ex⟩
    have := List.length_pos_of_mem hm
    omega
  have eu : (W c)[(wd pl L c).length]? = some (W c)[(wd pl L c).length] := List.getElem?_eq_getElem hlt
  generalize (W c)[(wd pl L c).length] = u at eu
  obtain ⟨u0, u1, u2⟩ := ok.mem c w.le u (List.mem_of_getElem? eu)
  have cl := cu_lt pl u0
  refine ⟨u, eu, ⟨u1, ?_, fun _ => by rw [u2]; exact hc, fun v x e => ?_⟩, by omega, u2, u0⟩
  · -- one below is left
    have c1 : ((W c).take ((wd pl L c).length + 1)).count u = (wd pl L c).count u + 1 := by
      rw [List.take_add_one, eu, List.count_append, ← h.pre c w.le]
      simp
    have c2 : ((W c).take ((wd pl L c).length + 1)).count u ≤ (W c).count u := (List.take_sublist _ _).count_le u
    have c3 : (W c).count u = (wd pl L c).count u + (wd pl (rest pl L) c).count u := by rw [pm.count_eq, List.count_append]
    have c4 : 0 < (wd pl (rest pl L) c).count u := by omega
    obtain ⟨t, ht, et⟩ := List.mem_filterMap.mp (List.count_pos_iff.mp c4)
    have hr := List.mem_filter.mp ht
    refine ⟨t, by have := List.mem_range.mp hr.1; omega, path_br t et, ?_⟩
    have := hr.2
    simpa using this
  · rw [br_pos pl v u0] at e
    by_cases z : cu pl u = v
    · rw [if_pos z] at e
      cases e
      rw [← z, u2]
      exact eu
    · rw [if_neg z, u2] at e
      exact w.lt v x e
theorem Way.lay {pl : List Int} {W : Nat → List Nat} {L : List Nat} {c : Nat} (h : Laid pl W L) (w : Way pl W L c) (hc : c ∉ L) : Laid pl W (L ++ [c]) := by
  refine ⟨List.nodup_append.mpr ⟨h.nd, by simp, fun a ha b hb e => hc (by rw [← List.mem_singleton.mp hb, ← e]; exact ha)⟩, fun s hs => ?_, fun s hs s0 => ?_, fun s hs s0 => ?_, fun v hv => ?_⟩
  · rcases List.mem_append.mp hs with z | z
    · exact h.le s z
    · rw [List.mem_singleton.mp z]
      exact w.le
  · rcases List.mem_append.mp hs with z | z
    · exact List.mem_append_left _ (h.up s z s0)
    · rw [List.mem_singleton.mp z] at s0 ⊢
      exact List.mem_append_left _ (w.up s0)
  · rcases List.mem_append.mp hs with z | z
    · rw [idxOf_old (h.up s z s0), idxOf_old z]
      exact h.bf s z s0
    · rw [List.mem_singleton.mp z] at s0 ⊢
      rw [idxOf_old (w.up s0), idxOf_new hc]
      exact List.idxOf_lt_length_of_mem (w.up s0)
  · rw [wd_app, wd_one]
    cases e : br pl v c with
    | none =>
      rw [Option.toList_none, List.append_nil]
      exact h.pre v hv
    | some x =>
      have z := w.lt v x e
      rw [Option.toList_some, List.length_append, List.length_singleton, List.take_add_one, z, ← h.pre v hv]
      rfl
theorem Laid.start (pl : List Int) (W : Nat → List Nat) : Laid pl W [] := ⟨List.nodup_nil, fun _ h => (by cases h), fun _ h => (by cases h), fun _ h => (by cases h), fun v _ => by simp [wd]⟩
/-- c is come to: how many letters of v are used -/
def usedN (pl : List Int) (L : List Nat) (c v : Nat) : Nat := (wd pl (L ++ [c]) v).length
theorem used_start (pl : List Int) (L : List Nat) (v : Nat) : usedN pl L 0 v = (wd pl L v).length := by
  unfold usedN
  rw [wd_app, wd_one, br_zero]
  simp
theorem used_step {pl : List Int} {L : List Nat} {c u : Nat} (u0 : 0 < u) (hu : cu pl u = c) (v : Nat) : usedN pl L u v = if v = c then usedN pl L c v + 1 else usedN pl L c v := by
  unfold usedN
  rw [wd_app, wd_app, wd_one, wd_one, br_pos pl v u0, hu, List.length_append, List.length_append]
  by_cases e : c = v
  · subst e
    have z : br pl c c = none := by
      cases q : br pl c c with
      | none => rfl
      | some t =>
        have := br_some c q
        omega
    rw [if_pos rfl, if_pos rfl, z]
    rfl
  · rw [if_neg e, if_neg fun z => e z.symm]
theorem used_self {pl : List Int} {L : List Nat} {c : Nat} : usedN pl L c c = (wd pl L c).length := by
  unfold usedN
  have z : br pl c c = none := by
    cases q : br pl c c with
    | none => rfl
    | some t =>
      have := br_some c q
      omega
  rw [wd_app, wd_one, z]
  simp
/-- the pattern: at each station its place among those laid -/
def rankS (pl : List Int) (L : List Nat) : List Int := (List.range (pl.length + 1)).map fun s => ((L.idxOf s : Nat) : Int)
theorem rank_len (pl : List Int) (L : List Nat) : (rankS pl L).length = pl.length + 1 := by
  unfold rankS
  rw [List.length_map, List.length_range]
theorem rank_at {pl : List Int} {L : List Nat} {s : Nat} (h : s ≤ pl.length) : bx (rankS pl L) s = (L.idxOf s : Int) := by
  refine bx_some ?_
  unfold rankS
  rw [List.getElem?_map, List.getElem?_range (by omega)]
  rfl
structure Done (pl : List Int) (W : Nat → List Nat) (L : List Nat) : Prop where
  laid : Laid pl W L
  full : L.length = pl.length + 1
theorem Done.mem {pl : List Int} {W : Nat → List Nat} {L : List Nat} (h : Done pl W L) (k : Nat) : k ∈ L ↔ k ≤ pl.length := by
  refine ⟨h.laid.le k, fun hk => Classical.byContradiction fun no => ?_⟩
  have e := h.laid.split.length_eq
  rw [List.length_append, List.length_range, h.full] at e
  have hm : k ∈ rest pl L := List.mem_filter.mpr ⟨List.mem_range.mpr (by omega), by simp [no]⟩
  have := List.length_pos_of_mem hm
  omega
theorem idx_at {L : List Nat} (nd : L.Nodup) {i a : Nat} (h : L[i]? = some a) : L.idxOf a = i := by
  obtain ⟨h1, h2⟩ := List.getElem?_eq_some_iff.mp h
  subst h2
  exact nd.idxOf_getElem i h1
theorem Done.ord {pl : List Int} {W : Nat → List Nat} {L : List Nat} (h : Done pl W L) : IsOrd (rankS pl L) L := by
  refine ⟨fun k => by rw [h.mem k, rank_len]; omega, List.pairwise_iff_getElem.mpr fun i j hi hj hij => ?_⟩
  have ei := idx_at h.laid.nd (List.getElem?_eq_getElem hi)
  have ej := idx_at h.laid.nd (List.getElem?_eq_getElem hj)
  rw [rank_at (h.laid.le _ (List.getElem_mem hi)), rank_at (h.laid.le _ (List.getElem_mem hj)), ei, ej]
  omega
theorem Done.words {pl : List Int} {W : Nat → List Nat} {L : List Nat} (hP : Plant pl) (ok : WordsOk pl W) (h : Done pl W L) {v : Nat} (hv : v ≤ pl.length) : wd pl L v = W v := by
  have e : (wd pl L v).length = (W v).length := by
    have z := (h.laid.words hP ok hv).length_eq
    have z2 : rest pl L = [] := by
      unfold rest
      rw [List.filter_eq_nil_iff]
      intro k hk
      have := (h.mem k).mpr (by have := List.mem_range.mp hk; omega)
      simp [this]
    rw [z2] at z
    simpa [wd] using z.symm
  rw [h.laid.pre v hv, e, List.take_length]
theorem Done.calm {pl : List Int} {W : Nat → List Nat} {L : List Nat} (h : Done pl W L) : Ord pl (rankS pl L) := fun k k0 k1 => by
  have c := cu_lt pl k0
  rw [rank_at k1, rank_at (by omega)]
  have := h.laid.bf k ((h.mem k).mpr k1) k0
  omega
theorem rank_nodup {pl : List Int} {W : Nat → List Nat} {L : List Nat} (h : Done pl W L) : (rankS pl L).Nodup := by
  unfold rankS
  rw [List.Nodup, List.pairwise_map]
  refine List.nodup_range.imp_of_mem fun {a b} ha hb ne z => ne ?_
  have ha2 := (h.mem a).mpr (by have := List.mem_range.mp ha; omega)
  have hb2 := (h.mem b).mpr (by have := List.mem_range.mp hb; omega)
  have z2 : L.idxOf a = L.idxOf b := by omega
  have e1 := List.getElem_idxOf (List.idxOf_lt_length_of_mem ha2)
  have e2 := List.getElem_idxOf (List.idxOf_lt_length_of_mem hb2)
  rw [← e1, ← e2]
  simp only [z2]
end PT
namespace PT
/-- as many letters as there are stations below -/
theorem sz_letters {pl : List Int} (hP : Plant pl) {v : Nat} (hv : v ≤ pl.length) : (letters pl pl.length v).length + 1 = sz pl v := by
  have ok := wd_ok (pl := pl) (ss := (List.range (pl.length + 1)).map fun k : Nat => (k : Int)) (by rw [List.length_map, List.length_range]) (ord_range (pl.length + 1))
  rw [← (ok.perm hP hv).length_eq]
  have e1 : ∀ L : List Nat, (wd pl L v).length = L.countP fun s => (br pl v s).isSome := fun L => by
    unfold wd
    induction L with
    | nil => rfl
    | cons x L ih =>
      cases e : br pl v x with
      | none => rw [List.filterMap_cons_none e, List.countP_cons, ih, e]; rfl
      | some y => rw [List.filterMap_cons_some e, List.countP_cons, List.length_cons, ih, e]; rfl
  rw [e1]
  unfold sz
  rw [countP_or (p := fun s => (br pl v s).isSome) (q := fun s => decide (s = v)) (r := fun k => decide (v ∈ path pl k)) (fun s => ?_) (fun s hs => ?_), countP_one, if_pos (by omega)]
  · rw [br_isSome]
    by_cases e : s = v
    · subst e
      have := List.mem_of_getElem? (path_head pl s)
      simp [this]
    · have e2 : ¬ v = s := fun z => e z.symm
      simp [e, e2]
  · rw [br_isSome] at hs
    have := of_decide_eq_true hs
    exact decide_eq_false fun z => this.2 z.symm
def ixs (pl : List Int) (i v : Nat) : List Nat := (List.range i).filter fun k => decide (pl.getD k 0 = (v : Int))
/-- the letters of some suppliers -/
def lets (pl : List Int) (ks : List Nat) : List Nat := (ks.map fun k => List.replicate (sz pl (k + 1)) (k + 1)).flatten
theorem lets_all (pl : List Int) (v : Nat) : lets pl (ixs pl pl.length v) = letters pl pl.length v := rfl
/-- the sizes of the stations from m on -/
def mny (pl : List Int) (m : Nat) : List Int := (List.range (pl.length + 1)).map fun v => if m ≤ v then ((sz pl v : Nat) : Int) else 0
end PT
namespace PT
/-- the station that the letters lead to, from c down -/
def dn (pl : List Int) (W : Nat → List Nat) (L : List Nat) (c : Nat) : Nat :=
  if h : c ∈ L ∧ c < (W c).getD (wd pl L c).length 0 ∧ (W c).getD (wd pl L c).length 0 ≤ pl.length then dn pl W L ((W c).getD (wd pl L c).length 0) else c
termination_by pl.length - c
decreasing_by omega
theorem dn_step {pl : List Int} {W : Nat → List Nat} {L : List Nat} {c u : Nat} (hc : c ∈ L) (eu : (W c)[(wd pl L c).length]? = some u) (h1 : c < u) (h2 : u ≤ pl.length) : dn pl W L c = dn pl W L u := by
  have e : (W c).getD (wd pl L c).length 0 = u := by rw [List.getD_eq_getElem?_getD, eu]; rfl
  rw [dn, dif_pos (by rw [e]; exact ⟨hc, h1, h2⟩), e]
theorem dn_end {pl : List Int} {W : Nat → List Nat} {L : List Nat} {c : Nat} (hc : c ∉ L) : dn pl W L c = c := by
  rw [dn, dif_neg fun h => hc h.1]
def layN (pl : List Int) (W : Nat → List Nat) : Nat → List Nat
  | 0 => []
  | i + 1 => layN pl W i ++ [dn pl W (layN pl W i) 0]
theorem layN_len (pl : List Int) (W : Nat → List Nat) : ∀ i, (layN pl W i).length = i
  | 0 => rfl
  | i + 1 => by
    unfold layN
    rw [List.length_append, layN_len pl W i]
    rfl
theorem dn_way {pl : List Int} {W : Nat → List Nat} {L : List Nat} (hP : Plant pl) (ok : WordsOk pl W) (h : Laid pl W L) : ∀ n c, pl.length - c = n → Way pl W L c → Way pl W L (dn pl W L c) ∧ dn pl W L c ∉ L := by
  intro n
  induction n using Nat.strongRecOn with
  | ind n ih =>
    intro c hn w
    by_cases hc : c ∈ L
    · obtain ⟨u, eu, wu, u1, u2, u0⟩ := w.step hP ok h hc
      have ule := wu.le
      rw [dn_step hc eu u1 ule]
      exact ih (pl.length - u) (by omega) u rfl wu
    · rw [dn_end hc]
      exact ⟨w, hc⟩
theorem layN_laid {pl : List Int} {W : Nat → List Nat} (hP : Plant pl) (ok : WordsOk pl W) : ∀ i, i ≤ pl.length + 1 → Laid pl W (layN pl W i)
  | 0, _ => .start pl W
  | i + 1, h => by
    have ih := layN_laid hP ok i (by omega)
    obtain ⟨w, nw⟩ := dn_way hP ok ih _ 0 rfl (.start ih (by rw [layN_len]; omega))
    exact w.lay ih nw
theorem layN_done {pl : List Int} {W : Nat → List Nat} (hP : Plant pl) (ok : WordsOk pl W) : Done pl W (layN pl W (pl.length + 1)) := ⟨layN_laid hP ok _ (Nat.le_refl _), layN_len pl W _⟩
/-- the pattern with these words -/
def patW (pl : List Int) (W : Nat → List Nat) : List Int := rankS pl (layN pl W (pl.length + 1))
theorem patW_ok {pl : List Int} {W : Nat → List Nat} (hP : Plant pl) (ok : WordsOk pl W) : (patW pl W).length = pl.length + 1 ∧ (patW pl W).Nodup ∧ ∀ n ∈ patW pl W, 0 ≤ n ∧ n ≤ 40 := by
  have d := layN_done hP ok
  refine ⟨rank_len _ _, rank_nodup d, fun n hn => ?_⟩
  unfold patW rankS at hn
  obtain ⟨s, hs, rfl⟩ := List.mem_map.mp hn
  have := List.idxOf_le_length (a := s) (l := layN pl W (pl.length + 1))
  rw [layN_len] at this
  have := hP.len
  omega
/-- the places of those that have one -/
theorem mem_snoc {L : List Nat} {c s : Nat} : s ∈ L ++ [c] ↔ s ∈ L ∨ s = c := by
  rw [List.mem_append, List.mem_singleton]
/-- customers whose supplier holds an older box -/
def disL (pl ss : List Int) (i : Nat) : List Nat := (List.range i).filter fun k : Nat => decide (bx ss ((k + 1 : Nat) : Int) < bx ss ((cu pl (k + 1) : Nat) : Int))
end PT


set_option maxHeartbeats 4000000
/-! ranks_by_words, pattern_of_words -/
namespace PT
open PySem PySem.Spec PyProof.Rows L2
/-- a table over all stations -/
def tabV (pl : List Int) (f : Nat → V) : List V := (List.range (pl.length + 1)).map f
theorem tabV_len (pl : List Int) (f : Nat → V) : (tabV pl f).length = pl.length + 1 := by
  unfold tabV
  rw [List.length_map, List.length_range]
theorem tabV_at {pl : List Int} (f : Nat → V) {v : Nat} (h : v ≤ pl.length) : (tabV pl f)[v]? = some (f v) := by
  unfold tabV
  rw [List.getElem?_map, List.getElem?_range (by omega)]
  rfl
theorem tabV_set {pl : List Int} {f : Nat → V} {v : Nat} (h : v ≤ pl.length) (x : V) : (tabV pl f).set v x = tabV pl fun k => if k = v then x else f k := by
  refine List.ext_getElem? fun j => ?_
  by_cases hj : j < pl.length + 1
  · rw [List.getElem?_set, tabV_at _ (by omega), tabV_at _ (by omega), tabV_len]
    by_cases e : v = j
    · subst e
      rw [if_pos rfl, if_pos hj, if_pos rfl]
    · rw [if_neg e, if_neg fun z => e z.symm]
  · rw [List.getElem?_eq_none (by rw [List.length_set, tabV_len]; omega), List.getElem?_eq_none (by rw [tabV_len]; omega)]
theorem tabV_congr {pl : List Int} {f g : Nat → V} (e : ∀ v, v ≤ pl.length → f v = g v) : tabV pl f = tabV pl g := by
  unfold tabV
  exact List.map_congr_left fun k hk => e k (by have := List.mem_range.mp hk; omega)
theorem tabV_const (pl : List Int) (x : V) : List.replicate (pl.length + 1) x = tabV pl fun _ => x := by
  refine List.ext_getElem? fun j => ?_
  by_cases hj : j < pl.length + 1
  · rw [List.getElem?_replicate, if_pos hj, tabV_at _ (by omega)]
  · rw [List.getElem?_eq_none (by rw [List.length_replicate]; omega), List.getElem?_eq_none (by rw [tabV_len]; omega)]
def rkV (L : List Nat) (s : Nat) : V := if s ∈ L then .int (L.idxOf s : Nat) else .non
section
variable {P : Program} {w : World} {K : PySem.W.Frag} {mg : Str → Option Value} {base : Heap}
def spRanks : Sp := fun vs H Q _ => ∃ (l : Addr) (pl : List Int) (as : List Addr) (W : Nat → List Nat), vs = [.ref l] ∧ Plant pl ∧ RowsN H l as (pl.length + 1) W ∧ WordsOk pl W ∧
  ∀ (H' : Hp) (t : Addr), Same H H' → H t = none → H' t = some (.tup ((patW pl W).map V.int)) → Q (.ref t) H'
theorem Tx.ranksByWords (T : Tx K mg) {k : Nat} : FnOk P w K mg base CX0 (k + 1) T.f_ranks_by_words T.d_ranks_by_words ["words"] spRanks := by
  refine T.F_ranks_by_words.ok scRanksByWords (fun vs H Q E h => ?_) (fun cdv A outer s H vs Q E hr h => ?_)
  · obtain ⟨l, pl, as, W, rfl, _⟩ := h
    rfl
  · obtain ⟨l, pl, as, W, rfl, hP, R, ok, qq⟩ := h
    have nd := scRanksByWords.nd
    have hlen := hP.len
    have el : (((as.map V.ref).length : Nat) : Int) = ((pl.length + 1 : Nat) : Int) := by rw [List.length_map, R.len]
    refine ⟨_, pss_cons (ps_set (i := 1) nd rfl (.inl rfl) (pe_op op_rep (pe_lst (pa_cons pe_non pa_nil)) (pe_callB call_len_seq (by rfl) T.n_len PySem.boot_len (pa_cons (pv 0) pa_nil))))
      (pss_cons (ps_set (i := 2) nd rfl (.inl rfl) (pe_op op_rep (pe_lst (pa_cons pe_int pa_nil)) (pe_callB call_len_seq (by rfl) T.n_len PySem.boot_len (pa_cons (pv 0) pa_nil))))
      (pss_cons (ps_for PassesOwn.never rfl (pi_range1 rfl T.n_range (pa_cons (pe_callB call_len_seq (by rfl) T.n_len PySem.boot_len (pa_cons (pv 0) pa_nil)) pa_nil)) (pg_name (i := 3) nd rfl (.inl rfl))
        (pss_cons (ps_set (i := 4) nd rfl (.inl rfl) pe_int)
        (pss_cons (ps_while PassesOwn.never (pt_cmpR op_notN (pe_ix ix_list (pv 1) (pv 4) (fun _ _ => rfl)) pe_non (nomark _))
          (pss_cons (ps_set (i := 5) nd rfl (.inl rfl) (pe_ix ix_list (pe_ix ix_list (pv 0) (pv 4) (fun _ _ => rfl)) (pe_ix ix_list (pv 2) (pv 4) (fun _ _ => rfl)) (fun _ _ => rfl)))
          (pss_cons (ps_augS (pv 2) (pv 4) get_lst pe_int ip_add set_list)
          (pss_one (ps_set (i := 4) nd rfl (.inl rfl) (pv 5))))))
        (pss_one (ps_asg (pv 3) (pg_sub (pv 1) (pv 4) set_list))))))
      (pss_one (ps_ret (pe_callTy call_tuple_of (by rfl) T.n_tuple (by decide +kernel) (pa_cons (pv 1) pa_nil)))))), ?_⟩
    refine ⟨(by show 1 ≤ sizeLine; decide), fun t0 nt0 => ⟨.ref l, rfl, l, _, rfl, .inl (.inl (.inl ((same_new nt0) _ _ R.hl))), t0, ((pl.length + 1 : Nat) : Int), [.non], rfl, by rw [el], upd_same, by omega, by omega, ?_, fun rl nrl => ?_⟩⟩
    · rw [Int.toNat_natCast, List.length_singleton, Nat.one_mul]
      exact Nat.le_of_lt (small300 (by omega))
    rw [rep_ref, tabV_const]
    have s1 := (same_new (o := .lst [V.non]) nt0).trans (same_new (o := .lst (tabV pl fun _ => V.non)) nrl)
    refine ⟨(by show 1 ≤ sizeLine; decide), fun t1 nt1 => ⟨.ref l, rfl, l, _, rfl, .inl (.inl (.inl ((s1.trans (same_new nt1)) _ _ R.hl))), t1, ((pl.length + 1 : Nat) : Int), [.int 0], rfl, by rw [el], upd_same, by omega, by omega, ?_, fun ul nul => ?_⟩⟩
    · rw [Int.toNat_natCast, List.length_singleton, Nat.one_mul]
      exact Nat.le_of_lt (small300 (by omega))
    rw [rep_ref, tabV_const]
    have s2 := s1.trans ((same_new (o := .lst [V.int 0]) nt1).trans (same_new (o := .lst (tabV pl fun _ => V.int 0)) nul))
    have nHr : H rl = none := (same_new nt0).free nrl
    have nHu : H ul = none := (s1.trans (same_new nt1)).free nul
    have er2 := ((same_new (o := .lst [V.int 0]) nt1).trans (same_new (o := .lst (tabV pl fun _ => V.int 0)) nul)) _ _ (upd_same (H := upd H t0 (.lst [V.non])) (a := rl) (o := .lst (tabV pl fun _ => V.non)))
    have ru : rl ≠ ul := ne_of_none ((same_new (o := .lst [V.int 0]) nt1) _ _ (upd_same (H := upd H t0 (.lst [V.non])) (a := rl) (o := .lst (tabV pl fun _ => V.non)))) nul
    refine heap_cut (P := fun G => Same H G ∧ G rl = some (.lst (tabV pl fun _ => V.non)) ∧ G ul = some (.lst (tabV pl fun _ => V.int 0))) ⟨s2, er2, upd_same⟩ fun G pG => ?_
    obtain ⟨gS, gr, gu⟩ := pG
    clear er2 s2 s1 nul nt1 nrl nt0
    refine ⟨.ref l, rfl, l, _, rfl, .inl (.inl (.inl (gS _ _ R.hl))), ((pl.length + 1 : Nat) : Int), by rw [el], by omega, by omega, ?_⟩
    rw [Int.toNat_natCast]
    have keep : ∀ {G1 : Hp} {a : Addr} {o : HO}, Same H G1 → (a = rl ∨ a = ul) → Same H (upd G1 a o) := fun {G1 a o} e h b u hb => by
      have ne : b ≠ a := by
        rcases h with h | h
        · rw [h]; exact ne_of_none hb nHr
        · rw [h]; exact ne_of_none hb nHu
      rw [upd_ne ne]
      exact e _ _ hb
    refine for_range (lo := 0) (n := pl.length + 1) (fun i σ G => ∃ y3 y4 y5, σ = [some (.ref l), some (.ref rl), some (.ref ul), y3, y4, y5] ∧ Same H G ∧ G rl = some (.lst (tabV pl (rkV (layN pl W i)))) ∧ G ul = some (.lst (tabV pl fun v => .int ((wd pl (layN pl W i) v).length : Nat))))
      ⟨none, none, none, rfl, gS, by rw [gr]; exact congrArg (fun z => some (HO.lst z)) (tabV_congr fun v _ => by unfold rkV; rw [if_neg (by simp [layN])]), by rw [gu]; exact congrArg (fun z => some (HO.lst z)) (tabV_congr fun v _ => rfl)⟩ (fun i σ G hi p1 => ?_) (fun σ G p1 => ?_)
    · obtain ⟨y3, y4, y5, rfl, sG, eR, eU⟩ := p1
      have hL := layN_laid hP ok i (by omega)
      have hLl := layN_len pl W i
      have hnext : layN pl W (i + 1) = layN pl W i ++ [dn pl W (layN pl W i) 0] := rfl
      rw [hnext]
      generalize layN pl W i = L at eR eU hL hLl ⊢
      clear hnext
      refine ⟨fun m σ G => ∃ (c : Nat) (y5 : Option V), σ = [some (.ref l), some (.ref rl), some (.ref ul), some (.int (0 + (i : Nat))), some (.int (c : Int)), y5] ∧ m = pl.length + 1 - c ∧ Same H G ∧ G rl = some (.lst (tabV pl (rkV L))) ∧ G ul = some (.lst (tabV pl fun v => .int (usedN pl L c v : Nat))) ∧ Way pl W L c ∧ dn pl W L c = dn pl W L 0,
        ⟨_, 0, y5, rfl, rfl, sG, eR, by rw [eU]; exact congrArg (fun z => some (HO.lst z)) (tabV_congr fun v _ => by rw [used_start]), .start hL (by omega), rfl⟩, ?_⟩
      rintro m σ G1 ⟨c, y5, rfl, rfl, sG1, eR1, eU1, wy, edn⟩
      have hc := wy.le
      refine ⟨.ref rl, rfl, .int (c : Int), rfl, rl, _, (c : Int), rkV L c, rfl, rfl, .inl (.inl eR1), atI_nat (tabV_at _ hc), rfl, _, rfl, ?_⟩
      by_cases hin : c ∈ L
      · have ev : rkV L c = .int (L.idxOf c : Nat) := by unfold rkV; rw [if_pos hin]
        rw [ev]
        refine iteT ?_
        obtain ⟨u, eu, wu, u1, u2, u0⟩ := wy.step hP ok hL hin
        have R1 := R.same sG1
        obtain ⟨r, er, hr1⟩ := R1.get (i := c) (by omega)
        have ule := wu.le
        refine ⟨_, fun _ _ z => z, ?_⟩
        refine ⟨.ref l, rfl, .int (c : Int), rfl, l, as.map V.ref, (c : Int), .ref r, rfl, rfl, .inl (.inl R1.hl), atI_nat (by rw [List.getElem?_map, er]; rfl), .ref ul, rfl, .int (c : Int), rfl, ul, _, (c : Int), .int ((wd pl L c).length : Nat), rfl, rfl, .inl (.inl eU1), atI_nat (by rw [tabV_at _ hc, used_self]), r, _, ((wd pl L c).length : Int), .int (u : Int), rfl, rfl, .inl (.inl hr1), atI_nat (by unfold natI; rw [List.getElem?_map, List.getElem?_map, eu]; rfl), ?_⟩
        refine ⟨.ref ul, rfl, .int (c : Int), rfl, ul, _, c, .int ((wd pl L c).length : Nat), rfl, rfl, .inl (.inl eU1), by rw [tabV_at _ hc, used_self], _, 1, rfl, rfl, ul, _, (c : Int), c, rfl, rfl, eU1, by rw [tabV_len]; exact ixN_at (by omega), ?_⟩
        rw [tabV_set hc]
        refine ⟨.int (u : Int), rfl, ?_⟩
        refine ⟨pl.length + 1 - u, by omega, u, _, rfl, rfl, keep sG1 (.inr rfl), ?_, ?_, wu, ?_⟩
        · rw [upd_ne ru]
          exact eR1
        · rw [upd_same]
          refine congrArg (fun z => some (HO.lst z)) (tabV_congr fun v _ => ?_)
          rw [used_step u0 u2]
          by_cases e : v = c
          · subst e
            rw [if_pos rfl, if_pos rfl, used_self]
            rfl
          · rw [if_neg e, if_neg e]
        · rw [← edn, dn_step hin eu u1 ule]
      · have ev : rkV L c = .non := by unfold rkV; rw [if_neg hin]
        rw [ev]
        refine iteF ?_
        rw [dn_end hin] at edn
        refine ⟨_, rfl, .ref rl, rfl, .int (c : Int), rfl, rl, _, (c : Int), c, rfl, rfl, eR1, by rw [tabV_len]; exact ixN_at (by omega), ?_⟩
        rw [tabV_set hc]
        refine ⟨_, _, _, rfl, keep sG1 (.inl rfl), ?_, ?_⟩
        · rw [upd_same, ← edn]
          refine congrArg (fun z => some (HO.lst z)) (tabV_congr fun v _ => ?_)
          unfold rkV
          by_cases e : v = c
          · subst e
            rw [if_pos rfl, if_pos (mem_snoc.mpr (.inr rfl)), idxOf_new hin, hLl, Int.zero_add]
          · rw [if_neg e]
            by_cases q : v ∈ L
            · rw [if_pos q, if_pos (mem_snoc.mpr (.inl q)), idxOf_old q]
            · rw [if_neg q, if_neg fun z => (mem_snoc.mp z).elim q e]
        · rw [upd_ne (Ne.symm ru), eU1, ← edn]
          rfl
    · obtain ⟨y3, y4, y5, rfl, sG, eR, eU⟩ := p1
      have d := layN_done hP ok
      have et : tabV pl (rkV (layN pl W (pl.length + 1))) = (patW pl W).map V.int := by
        unfold tabV patW rankS
        rw [List.map_map]
        refine List.map_congr_left fun k hk => ?_
        unfold rkV
        rw [if_pos ((d.mem k).mpr (by have := List.mem_range.mp hk; omega))]
        rfl
      rw [et] at eR
      exact ⟨.ref rl, rfl, rl, _, rfl, .inl ⟨.inl (.inl eR), fun t nt => qq _ t (sG.trans (same_new nt)) (sG.free nt) upd_same⟩⟩
def spPatternOf : Sp := fun vs H Q _ => ∃ (p l : Addr) (pl : List Int) (as : List Addr) (W : Nat → List Nat), vs = [.ref p, .ref l] ∧ PlantAt H p pl ∧ RowsN H l as (pl.length + 1) W ∧ WordsOk pl W ∧
  ∀ (H' : Hp) (t : Addr), Same H H' → H t = none → H' t = some (.tup ((patW pl W).map V.int)) → Q (.ref t) H'
end
end PT

/-! emptyings: on which days, near and far -/
namespace PT
theorem em_add (pl ss : List Int) (v m d : Nat) : em pl ss v (m + d) = em pl ss v m + em pl (dyn pl ss m) v d := by
  unfold em
  rw [List.range_add, List.countP_append, List.countP_map]
  congr 1
  refine List.countP_congr fun i _ => ?_
  show decide (v ∈ chn pl (dyn pl ss (m + i)) 0) = true ↔ decide (v ∈ chn pl (dyn pl (dyn pl ss m) i) 0) = true
  rw [dyn_add]
theorem em_mono (pl ss : List Int) (v : Nat) {m n : Nat} (h : m ≤ n) : em pl ss v m ≤ em pl ss v n := by
  obtain ⟨d, rfl⟩ : ∃ d, n = m + d := ⟨n - m, by omega⟩
  rw [em_add]
  omega
/-- day D is that of the emptying of v after n earlier ones -/
structure NthE (pl ss : List Int) (v n D : Nat) : Prop where
  pos : 1 ≤ D
  mem : v ∈ chn pl (dyn pl ss (D - 1)) 0
  cnt : em pl ss v (D - 1) = n
theorem NthE.next {pl ss : List Int} {v n D : Nat} (h : NthE pl ss v n D) : em pl ss v D = n + 1 := by
  have e : D = (D - 1) + 1 := by have := h.pos; omega
  rw [e, em_succ, h.cnt, if_pos h.mem]
theorem NthE.unique {pl ss : List Int} {v n D E : Nat} (h : NthE pl ss v n D) (g : NthE pl ss v n E) : D = E := by
  have h1 := h.next
  have g1 := g.next
  have h0 := h.pos
  have g0 := g.pos
  rcases Nat.lt_trichotomy D E with z | z | z
  · have := em_mono pl ss v (show D ≤ E - 1 by omega)
    have := g.cnt
    omega
  · exact z
  · have := em_mono pl ss v (show E ≤ D - 1 by omega)
    have := h.cnt
    omega
/-- the days, from 1 on, on which v is emptied -/
def dws (pl ss : List Int) (v n : Nat) : List Nat := ((List.range n).filter fun i => decide (v ∈ chn pl (dyn pl ss i) 0)).map (· + 1)
/-! ### the letters one by one -/
/-- the places of a letter -/
def plc (W : List Nat) (u n : Nat) : List Nat := (List.range n).filter fun i => W[i]? == some u
/-- the place of the letter after k earlier ones, the word again and again -/
def posn (W : List Nat) (u k : Nat) : Nat := k / W.count u * W.length + (plc W u W.length).getD (k % W.count u) 0
/-- up the way to the shop -/
def clm (pl : List Int) (W : Nat → List Nat) (v k : Nat) : Nat := if h : 0 < v then clm pl W (cu pl v) (posn (W (cu pl v)) v k) else k
termination_by v
decreasing_by exact cu_lt pl h
/-- the day of the emptying of v after n earlier ones -/
def nthD (pl ss : List Int) (m : Nat) (L : List Nat) (v n : Nat) : Nat := if n < em pl ss v m then (dws pl ss v m).getD n 0 else m + clm pl (wd pl L) v (n - em pl ss v m) + 1
end PT
namespace PT
open PySem PySem.Spec PyProof.Rows L2
def dwf (f : Nat → List Nat) (v n : Nat) : List Nat := ((List.range n).filter fun i => decide (v ∈ f i)).map (· + 1)
end PT

/-! shares: how often in the long run a station is emptied -/
namespace PT
/-! ### fractions -/
def red (a b : Nat) : Nat × Nat := (a / Nat.gcd a b, b / Nat.gcd a b)
/-! ### shares -/
def shN (pl : List Int) (v : Nat) : Nat := if h : 0 < v then shN pl (cu pl v) * sz pl v else 1
termination_by v
decreasing_by exact cu_lt pl h
def shD (pl : List Int) (v : Nat) : Nat := if h : 0 < v then shD pl (cu pl v) * (sz pl (cu pl v) - 1) else 1
termination_by v
decreasing_by exact cu_lt pl h
def fct : Nat → Nat
  | 0 => 1
  | n + 1 => (n + 1) * fct n
/-! ### stretches -/
theorem WordsOk.size {pl : List Int} {W : Nat → List Nat} (hP : Plant pl) (h : WordsOk pl W) {v : Nat} (hv : v ≤ pl.length) : (W v).length = sz pl v - 1 := by
  rw [(h.perm hP hv).length_eq]
  have := sz_letters hP hv
  omega
theorem ord_ex {ss : List Int} (hn : ss.Nodup) : ∃ L, IsOrd ss L := by
  have pm := List.mergeSort_perm (List.range ss.length) fun a b => decide (bx ss a ≤ bx ss b)
  have sd := List.pairwise_mergeSort (le := fun a b : Nat => decide (bx ss a ≤ bx ss b)) (fun a b c h1 h2 => by
    have := of_decide_eq_true h1
    have := of_decide_eq_true h2
    exact decide_eq_true (by omega)) (fun a b => by
    rcases Int.le_total (bx ss a) (bx ss b) with z | z
    · rw [decide_eq_true z]; rfl
    · rw [decide_eq_true z, Bool.or_true]) (List.range ss.length)
  have nd : ((List.range ss.length).mergeSort fun a b => decide (bx ss a ≤ bx ss b)).Nodup := pm.nodup_iff.mpr List.nodup_range
  refine ⟨_, fun k => by rw [pm.mem_iff, List.mem_range], ?_⟩
  refine (List.pairwise_and_iff.mpr ⟨sd, nd⟩).imp_of_mem fun {a b} ha hb h => ?_
  have a1 := List.mem_range.mp (pm.mem_iff.mp ha)
  have b1 := List.mem_range.mp (pm.mem_iff.mp hb)
  have l := of_decide_eq_true h.1
  rcases Int.lt_or_eq_of_le l with z | z
  · exact z
  · exact absurd (bx_inj hn a1 b1 z) h.2
/-- the suppliers of a station have, taken together, its own share -/
def supS (pl : List Int) (i v : Nat) : Nat := ((ixs pl i v).map fun k => sz pl (k + 1)).sum
theorem supS_all {pl : List Int} (hP : Plant pl) {v : Nat} (hv : v ≤ pl.length) : supS pl pl.length v = sz pl v - 1 := by
  have := sz_letters hP hv
  have e : (letters pl pl.length v).length = supS pl pl.length v := by
    rw [← lets_all]
    unfold lets supS
    rw [List.length_flatten, List.map_map]
    congr 1
    refine List.map_congr_left fun k _ => ?_
    show (List.replicate _ _).length = _
    rw [List.length_replicate]
  omega
end PT

set_option maxHeartbeats 4000000
/-! the way to the shop -/
namespace PT
theorem path_self (pl : List Int) (k : Nat) : k ∈ path pl k := List.mem_of_getElem? (path_head pl k)
theorem path_iff (pl : List Int) {v k : Nat} (h : 0 < k) : v ∈ path pl k ↔ v = k ∨ v ∈ path pl (cu pl k) := by
  rw [path_pos pl h, List.mem_cons]
theorem path_tr {pl : List Int} {a b : Nat} (h : a ∈ path pl b) : ∀ c, b ∈ path pl c → a ∈ path pl c := by
  intro c
  induction c using Nat.strongRecOn with
  | ind c ih =>
    intro hb
    by_cases h0 : 0 < c
    · rcases (path_iff pl h0).mp hb with rfl | z
      · exact h
      · exact (path_iff pl h0).mpr (.inr (ih _ (cu_lt pl h0) z))
    · have : c = 0 := by omega
      subst this
      rw [path_zero, List.mem_singleton] at hb
      rw [hb] at h
      exact h
theorem path_lin {pl : List Int} {a b : Nat} (hab : a ≤ b) : ∀ c, a ∈ path pl c → b ∈ path pl c → a ∈ path pl b := by
  intro c
  induction c using Nat.strongRecOn with
  | ind c ih =>
    intro ha hb
    by_cases h0 : 0 < c
    · rcases (path_iff pl h0).mp hb with rfl | z
      · exact ha
      · have := path_le pl _ _ z
        have := cu_lt pl h0
        rcases (path_iff pl h0).mp ha with e | y
        · omega
        · exact ih _ (cu_lt pl h0) y z
    · have : c = 0 := by omega
      subst this
      rw [path_zero, List.mem_singleton] at ha hb
      rw [ha, hb]
      exact path_self pl 0
theorem path_root (pl : List Int) (k : Nat) : 0 ∈ path pl k := by
  induction k using Nat.strongRecOn with
  | ind k ih =>
    by_cases h0 : 0 < k
    · exact (path_iff pl h0).mpr (.inr (ih _ (cu_lt pl h0)))
    · have : k = 0 := by omega
      subst this
      exact path_self pl 0
theorem path_sup {pl : List Int} {v : Nat} : ∀ {s : Nat}, v ∈ path pl s → v ≠ s → ∃ u, 0 < u ∧ u ≤ s ∧ cu pl u = v ∧ u ∈ path pl s := by
  intro s
  induction s using Nat.strongRecOn with
  | ind s ih =>
    intro hv hne
    have := path_le pl _ _ hv
    have h0 : 0 < s := by omega
    rcases (path_iff pl h0).mp hv with e | z
    · exact absurd e hne
    · by_cases c : v = cu pl s
      · exact ⟨s, h0, Nat.le_refl _, c.symm, path_self pl s⟩
      · have hc := cu_lt pl h0
        obtain ⟨u, a, b, d, e⟩ := ih _ hc z c
        exact ⟨u, a, by omega, d, (path_iff pl h0).mpr (.inr e)⟩
end PT

/-! cycles: when the words come again -/
namespace PT
/-! ### rotations that keep a word -/
def prd (W : List Nat) : Nat := ((List.range' 1 (W.length - 1)).find? fun m => decide (rot W m = W)).getD (max 1 W.length)
theorem rot_whole (W : List Nat) : rot W W.length = W := by
  unfold rot
  rw [Nat.mod_self]
  simp
theorem rot_nought (W : List Nat) : rot W 0 = W := by
  unfold rot
  rw [Nat.zero_mod]
  simp
theorem rot_one (m : Nat) : rot [] m = [] := by
  unfold rot
  simp
theorem prd_ok (W : List Nat) : 0 < prd W ∧ prd W ≤ max 1 W.length ∧ rot W (prd W) = W ∧ ∀ m, 0 < m → m < prd W → rot W m ≠ W := by
  unfold prd
  cases e : (List.range' 1 (W.length - 1)).find? fun m => decide (rot W m = W) with
  | none =>
    rw [List.find?_eq_none] at e
    show 0 < max 1 W.length ∧ max 1 W.length ≤ max 1 W.length ∧ rot W (max 1 W.length) = W ∧ ∀ m, 0 < m → m < max 1 W.length → rot W m ≠ W
    refine ⟨by omega, Nat.le_refl _, ?_, fun m m0 m1 z => ?_⟩
    · by_cases c : W.length = 0
      · rw [List.eq_nil_of_length_eq_zero c, rot_one]
      · rw [show max 1 W.length = W.length from by omega, rot_whole]
    · exact e m (List.mem_range'_1.mpr ⟨by omega, by omega⟩) (by simpa using z)
  | some k =>
    rw [List.find?_range'_eq_some] at e
    obtain ⟨h1, h2, h3⟩ := e
    rw [List.mem_range'_1] at h2
    show 0 < k ∧ k ≤ max 1 W.length ∧ rot W k = W ∧ ∀ m, 0 < m → m < k → rot W m ≠ W
    refine ⟨by omega, by omega, by simpa using h1, fun m m0 m1 z => ?_⟩
    have := h3 m (by omega) m1
    simp [z] at this
theorem rot_times {W : List Nat} {p : Nat} (h : rot W p = W) : ∀ k, rot W (p * k) = W
  | 0 => rot_nought W
  | k + 1 => by rw [Nat.mul_succ, ← rot_rot, rot_times h k, h]
theorem prd_dvd (W : List Nat) (m : Nat) : rot W m = W ↔ prd W ∣ m := by
  obtain ⟨p0, p1, p2, p3⟩ := prd_ok W
  constructor
  · intro h
    have e := Nat.div_add_mod m (prd W)
    have l := Nat.mod_lt m p0
    rw [← e, ← rot_rot, rot_times p2] at h
    by_cases z : m % prd W = 0
    · exact Nat.dvd_of_mod_eq_zero z
    · exact absurd h (p3 _ (by omega) l)
  · rintro ⟨k, rfl⟩
    exact rot_times p2 k
theorem giv_one (W : List Nat) (u : Nat) : givN W u (prd W) = (W.take (prd W)).count u := by
  obtain ⟨p0, p1, _⟩ := prd_ok W
  by_cases c : W = []
  · rw [c, giv_nil]; simp
  have l := List.length_pos_iff.mpr c
  unfold givN
  by_cases e : prd W = W.length
  · rw [e, Nat.div_self l, Nat.mod_self, List.take_length]; simp
  · rw [Nat.div_eq_of_lt (by omega), Nat.mod_eq_of_lt (by omega)]; omega
theorem giv_per (W : List Nat) (u : Nat) : ∀ k, givN W u (prd W * k) = k * (W.take (prd W)).count u
  | 0 => by rw [Nat.mul_zero, Nat.zero_mul]; unfold givN; simp
  | k + 1 => by rw [Nat.mul_succ, giv_add, giv_per W u k, (prd_dvd W _).mpr ⟨k, rfl⟩, giv_one, Nat.succ_mul]
/-- the rotations that keep a word, the first ones -/
def kps (W : List Nat) (i : Nat) : List Nat := (List.range' 1 i).filter fun m => decide (rot W m = W)
/-! ### the words at and below a station -/
/-- how often v is emptied during m emptyings of u -/
def tmu (pl : List Int) (W : Nat → List Nat) (u m v : Nat) : Nat := if v = u then m else if h : 0 < v then givN (W (cu pl v)) v (tmu pl W u m (cu pl v)) else 0
  termination_by v
  decreasing_by exact cu_lt pl h
theorem tmu_self (pl : List Int) (W : Nat → List Nat) (u m : Nat) : tmu pl W u m u = m := by
  rw [tmu, if_pos rfl]
theorem tmu_pos (pl : List Int) (W : Nat → List Nat) {u m v : Nat} (ne : v ≠ u) (h : 0 < v) : tmu pl W u m v = givN (W (cu pl v)) v (tmu pl W u m (cu pl v)) := by
  rw [tmu, if_neg ne, dif_pos h]
theorem tmu_shop (pl : List Int) (W : Nat → List Nat) (m : Nat) : ∀ v, tmu pl W 0 m v = tm pl W m v := by
  intro v
  induction v using Nat.strongRecOn with
  | ind v ih =>
    by_cases h : 0 < v
    · rw [tmu_pos pl W (by omega) h, tm_pos _ _ _ h, ih _ (cu_lt pl h)]
    · rw [show v = 0 from by omega, tmu_self, tm_zero]
theorem tmu_down {pl : List Int} {W : Nat → List Nat} {u s m : Nat} (s0 : 0 < s) (hs : cu pl s = u) : ∀ v, s ∈ path pl v → tmu pl W u m v = tmu pl W s (givN (W u) s m) v := by
  have us : u < s := hs ▸ cu_lt pl s0
  intro v
  induction v using Nat.strongRecOn with
  | ind v ih =>
    intro hv
    have sv := path_le pl v s hv
    by_cases e : v = s
    · rw [e, tmu_self, tmu_pos pl W (by omega) s0, hs, tmu_self]
    · have v0 : 0 < v := by omega
      have hp : s ∈ path pl (cu pl v) := by
        rcases (path_iff pl v0).mp hv with z | z
        · exact absurd z.symm e
        · exact z
      rw [tmu_pos pl W (by omega) v0, tmu_pos pl W e v0, ih _ (cu_lt pl v0) hp]
def Back (pl : List Int) (W : Nat → List Nat) (u m : Nat) : Prop := ∀ v, v ≤ pl.length → u ∈ path pl v → rot (W v) (tmu pl W u m v) = W v
theorem back_step {pl : List Int} {W : Nat → List Nat} {u m : Nat} (hu : u ≤ pl.length) :
    Back pl W u m ↔ rot (W u) m = W u ∧ ∀ s, 0 < s → s ≤ pl.length → cu pl s = u → Back pl W s (givN (W u) s m) := by
  constructor
  · intro h
    refine ⟨?_, fun s s0 s1 hs v hv hp => ?_⟩
    · have := h u hu (path_self pl u)
      rwa [tmu_self] at this
    · rw [← tmu_down s0 hs v hp]
      exact h v hv (hs ▸ path_up v hp s0)
  · rintro ⟨h1, h2⟩ v hv hp
    by_cases e : u = v
    · subst e
      rw [tmu_self]
      exact h1
    · obtain ⟨s, s0, s1, hs, sp⟩ := path_sup hp e
      rw [tmu_down s0 hs v sp]
      exact h2 s s0 (by omega) hs v hv sp
/-! ### the length of the cycle -/
def lcs (f : Nat → Nat) (l : List Nat) : Nat := l.foldl (fun r s => Nat.lcm r (f s)) 1
def prt (c t : Nat) : Nat := c / Nat.gcd c t
def cylF (pl : List Int) (W : Nat → List Nat) : Nat → Nat → Nat
  | 0, _ => 1
  | f + 1, u => prd (W u) * lcs (fun s => prt (cylF pl W f s) (((W u).take (prd (W u))).count s)) (supN pl u)
theorem lcs_congr {f g : Nat → Nat} {l : List Nat} (h : ∀ s ∈ l, f s = g s) : lcs f l = lcs g l := by
  unfold lcs
  have : ∀ a, l.foldl (fun r s => Nat.lcm r (f s)) a = l.foldl (fun r s => Nat.lcm r (g s)) a := by
    induction l with
    | nil => intro a; rfl
    | cons x l ih =>
      intro a
      rw [List.foldl_cons, List.foldl_cons, h x List.mem_cons_self, ih fun s hs => h s (List.mem_cons_of_mem _ hs)]
  exact this 1
theorem lcs_dvd (f : Nat → Nat) (k : Nat) : ∀ l : List Nat, lcs f l ∣ k ↔ ∀ s ∈ l, f s ∣ k := by
  intro l
  unfold lcs
  have : ∀ (l : List Nat) a, l.foldl (fun r s => Nat.lcm r (f s)) a ∣ k ↔ a ∣ k ∧ ∀ s ∈ l, f s ∣ k := by
    intro l
    induction l with
    | nil => intro a; simp
    | cons x l ih =>
      intro a
      show l.foldl _ (Nat.lcm a (f x)) ∣ k ↔ _
      rw [ih, Nat.lcm_dvd_iff]
      simp [and_assoc]
  rw [this]
  simp
theorem lcs_pos {f : Nat → Nat} : ∀ {l : List Nat}, (∀ s ∈ l, 0 < f s) → 0 < lcs f l := by
  intro l h
  unfold lcs
  have : ∀ (l : List Nat) a, 0 < a → (∀ s ∈ l, 0 < f s) → 0 < l.foldl (fun r s => Nat.lcm r (f s)) a := by
    intro l
    induction l with
    | nil => intro a h _; exact h
    | cons x l ih => intro a ha hl; exact ih _ (Nat.lcm_pos ha (hl x List.mem_cons_self)) fun s hs => hl s (List.mem_cons_of_mem _ hs)
  exact this l 1 (by decide) h
theorem prt_dvd {c t k : Nat} (h : 0 < c) : prt c t ∣ k ↔ c ∣ k * t := by
  have g0 := Nat.gcd_pos_of_pos_left t h
  have cop := Nat.coprime_div_gcd_div_gcd g0
  have e1 := Nat.div_mul_cancel (Nat.gcd_dvd_left c t)
  have e2 := Nat.div_mul_cancel (Nat.gcd_dvd_right c t)
  unfold prt
  generalize Nat.gcd c t = g at *
  generalize ec : c / g = c' at *
  generalize et : t / g = t' at *
  subst e1
  subst e2
  rw [← Nat.mul_assoc, Nat.mul_dvd_mul_iff_right g0]
  exact ⟨fun h => Nat.dvd_trans h (Nat.dvd_mul_right _ _), fun h => cop.dvd_of_dvd_mul_right h⟩
theorem prt_pos {c t : Nat} (h : 0 < c) : 0 < prt c t ∧ prt c t ≤ c := by
  refine ⟨Nat.div_pos (Nat.le_of_dvd h (Nat.gcd_dvd_left c t)) (Nat.gcd_pos_of_pos_left t h), Nat.div_le_self _ _⟩
theorem cylF_eq {pl : List Int} (hP : Plant pl) (W : Nat → List Nat) : ∀ f g u, pl.length + 1 - u ≤ f → pl.length + 1 - u ≤ g → u ≤ pl.length → cylF pl W f u = cylF pl W g u
  | 0, g, u, h, _, hu => by omega
  | f + 1, 0, u, _, h, hu => by omega
  | f + 1, g + 1, u, hf, hg, hu => by
    show _ * lcs _ _ = _ * lcs _ _
    rw [lcs_congr fun s hs => ?_]
    obtain ⟨s0, s1, s2⟩ := (supN_mem hP).mp hs
    have := cu_lt pl s0
    rw [cylF_eq hP W f g s (by omega) (by omega) s1]
def cyl (pl : List Int) (W : Nat → List Nat) (u : Nat) : Nat := cylF pl W (pl.length + 1 - u) u
/-- what a supplier asks for -/
def ask (pl : List Int) (W : Nat → List Nat) (u s : Nat) : Nat := prt (cyl pl W s) (((W u).take (prd (W u))).count s)
theorem cyl_step {pl : List Int} (hP : Plant pl) (W : Nat → List Nat) {u : Nat} (hu : u ≤ pl.length) : cyl pl W u = prd (W u) * lcs (ask pl W u) (supN pl u) := by
  unfold cyl
  rw [show pl.length + 1 - u = (pl.length - u) + 1 from by omega]
  show _ * lcs _ _ = _
  rw [lcs_congr fun s hs => ?_]
  obtain ⟨s0, s1, s2⟩ := (supN_mem hP).mp hs
  have := cu_lt pl s0
  show prt (cylF _ _ _ _) _ = prt (cylF _ _ _ _) _
  rw [cylF_eq hP W _ (pl.length + 1 - s) s (by omega) (by omega) s1]
theorem cyl_ok {pl : List Int} (hP : Plant pl) (W : Nat → List Nat) : ∀ n u, pl.length - u = n → u ≤ pl.length → 0 < cyl pl W u ∧ ∀ m, Back pl W u m ↔ cyl pl W u ∣ m := by
  intro n
  induction n using Nat.strongRecOn with
  | ind n ih =>
    intro u hn hu
    have sub : ∀ s ∈ supN pl u, 0 < cyl pl W s ∧ ∀ m, Back pl W s m ↔ cyl pl W s ∣ m := fun s hs => by
      obtain ⟨s0, s1, s2⟩ := (supN_mem hP).mp hs
      have := cu_lt pl s0
      exact ih (pl.length - s) (by omega) s rfl s1
    have p0 := (prd_ok (W u)).1
    rw [cyl_step hP W hu]
    refine ⟨Nat.mul_pos p0 (lcs_pos fun s hs => (prt_pos (sub s hs).1).1), fun m => ?_⟩
    rw [back_step hu, prd_dvd]
    have key : ∀ k, (∀ s, 0 < s → s ≤ pl.length → cu pl s = u → Back pl W s (givN (W u) s (prd (W u) * k))) ↔ lcs (ask pl W u) (supN pl u) ∣ k := fun k => by
      rw [lcs_dvd]
      constructor
      · intro h s hs
        obtain ⟨s0, s1, s2⟩ := (supN_mem hP).mp hs
        have z := h s s0 s1 s2
        rw [(sub s hs).2, giv_per] at z
        exact (prt_dvd (sub s hs).1).mpr z
      · intro h s s0 s1 s2
        have hs := (supN_mem hP).mpr ⟨s0, s1, s2⟩
        rw [(sub s hs).2, giv_per]
        exact (prt_dvd (sub s hs).1).mp (h s hs)
    constructor
    · rintro ⟨⟨k, rfl⟩, h⟩
      exact Nat.mul_dvd_mul_left _ ((key k).mp h)
    · rintro ⟨j, rfl⟩
      refine ⟨⟨lcs (ask pl W u) (supN pl u) * j, by rw [Nat.mul_assoc]⟩, ?_⟩
      rw [Nat.mul_assoc]
      exact (key _).mpr ⟨j, rfl⟩
theorem ixs_supN (pl : List Int) (u : Nat) : supN pl u = (ixs pl pl.length u).map (· + 1) := rfl
/-! ### an ordered stock is the layout of its words -/
theorem ord_up {pl ss : List Int} {L : List Nat} (hs : ss.length = pl.length + 1) (ho : Ord pl ss) (hO : IsOrd ss L) : ∀ i s, L[i]? = some s → ∀ a, a ∈ path pl s → a ≠ s → a ∈ L.take i := by
  intro i
  induction i using Nat.strongRecOn with
  | ind i ih =>
    intro s hi a ha ne
    have s1 : s ≤ pl.length := by
      have := (hO.mem s).mp (List.mem_of_getElem? hi)
      omega
    have s0 : 0 < s := by
      have := path_le pl s a ha
      omega
    have c := cu_lt pl s0
    have hm := (hO.mem (cu pl s)).mpr (by omega)
    obtain ⟨j, hj⟩ := List.mem_iff_getElem?.mp hm
    have b := ho s s0 s1
    have ji : j < i := by
      rcases Nat.lt_trichotomy j i with z | z | z
      · exact z
      · rw [z, hi] at hj
        injection hj with hj
        omega
      · obtain ⟨li, ei⟩ := List.getElem?_eq_some_iff.mp hi
        obtain ⟨lj, ej⟩ := List.getElem?_eq_some_iff.mp hj
        have := List.pairwise_iff_getElem.mp hO.inc i j li lj z
        rw [ei, ej] at this
        omega
    by_cases e : a = cu pl s
    · rw [e]
      exact List.mem_of_getElem? (by rw [List.getElem?_take_of_lt ji]; exact hj)
    · have hp : a ∈ path pl (cu pl s) := by
        rcases (path_iff pl s0).mp ha with z | z
        · exact absurd z ne
        · exact z
      have := ih j ji _ hj a hp e
      exact (List.take_sublist_take_left (Nat.le_of_lt ji)).subset this
theorem ord_nd {ss : List Int} {L : List Nat} (hO : IsOrd ss L) : L.Nodup := hO.inc.imp fun {a b} h z => by rw [z] at h; omega
theorem ord_perm {ss : List Int} {L : List Nat} (hO : IsOrd ss L) : L.Perm (List.range ss.length) := (List.perm_ext_iff_of_nodup (ord_nd hO) List.nodup_range).mpr fun k => by
  rw [List.mem_range]
  exact hO.mem k
theorem ord_len {ss : List Int} {L : List Nat} (hO : IsOrd ss L) : L.length = ss.length := by
  rw [(ord_perm hO).length_eq, List.length_range]
theorem take_new {L : List Nat} (nd : L.Nodup) {i s : Nat} (h : L[i]? = some s) : s ∉ L.take i := fun z => by
  obtain ⟨j, hj⟩ := List.mem_iff_getElem?.mp z
  obtain ⟨lj, ej⟩ := List.getElem?_eq_some_iff.mp hj
  have lj2 : j < i := by rw [List.length_take] at lj; omega
  rw [List.getElem?_take_of_lt lj2] at hj
  have := idx_at nd h
  have := idx_at nd hj
  omega
theorem wd_split {pl : List Int} {L : List Nat} {i s : Nat} (v : Nat) (h : L[i]? = some s) : ∃ R, wd pl L v = wd pl (L.take i) v ++ ((br pl v s).toList ++ R) := by
  refine ⟨wd pl (L.drop (i + 1)) v, ?_⟩
  have e := wd_take (pl := pl) v h
  rw [upto_end] at e
  rw [← List.append_assoc, ← e, ← wd_app, List.take_append_drop]
theorem lay_same {pl ss tt : List Int} {L M : List Nat} (hs : ss.length = pl.length + 1) (ht : tt.length = pl.length + 1) (ho : Ord pl ss) (hp : Ord pl tt) (hL : IsOrd ss L) (hM : IsOrd tt M)
    (e : ∀ v, v ≤ pl.length → wd pl L v = wd pl M v) : L = M := by
  have lL := ord_len hL
  have lM := ord_len hM
  have go : ∀ i, i ≤ L.length → L.take i = M.take i := by
    intro i
    induction i with
    | zero => intro _; rfl
    | succ i ih =>
      intro hi
      have A := ih (by omega)
      obtain ⟨s, es⟩ : ∃ s, L[i]? = some s := ⟨L[i], List.getElem?_eq_getElem (by omega)⟩
      obtain ⟨t, et⟩ : ∃ t, M[i]? = some t := ⟨M[i]'(by omega), List.getElem?_eq_getElem (by omega)⟩
      have st : s = t := Classical.byContradiction fun ne => by
        have s1 : s ≤ pl.length := by have := (hL.mem s).mp (List.mem_of_getElem? es); omega
        have no : ∀ k v, pl.length - v = k → v ≤ pl.length → v ∈ path pl s → v ∈ path pl t → False := by
          intro k
          induction k using Nat.strongRecOn with
          | ind k ihk =>
            intro v hk hv vs vt
            by_cases c1 : v = s
            · subst c1
              have := ord_up ht hp hM i t et v vt ne
              rw [← A] at this
              exact take_new (ord_nd hL) es this
            by_cases c2 : v = t
            · subst c2
              have := ord_up hs ho hL i s es v vs fun z => ne z.symm
              rw [A] at this
              exact take_new (ord_nd hM) et this
            have b1 := br_isSome (pl := pl) (v := v) s
            rw [decide_eq_true (⟨vs, c1⟩ : v ∈ path pl s ∧ v ≠ s)] at b1
            have b2 := br_isSome (pl := pl) (v := v) t
            rw [decide_eq_true (⟨vt, c2⟩ : v ∈ path pl t ∧ v ≠ t)] at b2
            obtain ⟨x, ex⟩ := Option.isSome_iff_exists.mp b1
            obtain ⟨y, ey⟩ := Option.isSome_iff_exists.mp b2
            obtain ⟨R, r1⟩ := wd_split (pl := pl) v es
            obtain ⟨Q, r2⟩ := wd_split (pl := pl) v et
            have z := e v hv
            rw [r1, r2, ← A, ex, ey] at z
            have z2 := List.append_cancel_left z
            have xy : x = y := by
              injection z2
            subst xy
            obtain ⟨q0, q1, q2, q3⟩ := br_some s ex
            have := cu_lt pl q0
            exact ihk (pl.length - x) (by omega) x rfl (by omega) (path_br s ex) (path_br t ey)
        exact no _ 0 rfl (by omega) (path_root pl s) (path_root pl t)
      rw [List.take_add_one, List.take_add_one, A, es, et, st]
  have h := go L.length (Nat.le_refl _)
  rw [List.take_length, lL, hs, ← ht, ← lM, List.take_length] at h
  exact h
/-- the pattern comes again just on the days that the cycle divides -/
theorem cyc_days {pl ss : List Int} {L M : List Nat} (hP : Plant pl) (hs : ss.length = pl.length + 1) (hn : ss.Nodup) (ho : Ord pl ss) (hL : IsOrd ss L) {d : Nat} (hM : IsOrd (dyn pl ss d) M) :
    M = L ↔ cyl pl (wd pl L) 0 ∣ d := by
  obtain ⟨d1, d2⟩ := dyn_len (pl := pl) hs hn d
  rw [← (cyl_ok hP (wd pl L) _ 0 rfl (Nat.zero_le _)).2 d]
  have w := wd_days hP hs hn ho hL d hM
  have f : ∀ v, rotW pl (wd pl L) d v = rot (wd pl L v) (tmu pl (wd pl L) 0 d v) := fun v => by rw [tmu_shop]; rfl
  constructor
  · intro h v hv _
    rw [← f, ← w v hv, h]
  · intro h
    refine lay_same d1 hs (ord_dyn hP hs hn ho d) ho hM hL fun v hv => ?_
    rw [w v hv, f]
    exact h v hv (path_root pl v)
/-! ### the pattern -/
theorem rank_same {pl ss tt : List Int} {L M : List Nat} (hs : ss.length = pl.length + 1) (ht : tt.length = pl.length + 1) (hL : IsOrd ss L) (hM : IsOrd tt M) : rankS pl L = rankS pl M ↔ L = M := by
  refine ⟨fun h => List.ext_getElem? fun i => ?_, fun h => by rw [h]⟩
  have lL := ord_len hL
  have lM := ord_len hM
  by_cases hi : i < pl.length + 1
  · obtain ⟨s, es⟩ : ∃ s, L[i]? = some s := ⟨L[i]'(by omega), List.getElem?_eq_getElem (by omega)⟩
    have s1 : s ≤ pl.length := by have := (hL.mem s).mp (List.mem_of_getElem? es); omega
    have e1 := rank_at (pl := pl) (L := L) s1
    have e2 := rank_at (pl := pl) (L := M) s1
    rw [h, e2] at e1
    have e3 := idx_at (ord_nd hL) es
    have e4 : M.idxOf s = i := by omega
    have sm := (hM.mem s).mpr (by omega)
    have e5 := List.getElem_idxOf (List.idxOf_lt_length_of_mem sm)
    have e6 := List.getElem?_eq_getElem (List.idxOf_lt_length_of_mem sm)
    rw [e5, e4] at e6
    rw [es, e6]
  · rw [List.getElem?_eq_none (by omega), List.getElem?_eq_none (by omega)]
end PT

set_option maxHeartbeats 4000000
/-! the first boxes, in the order in which they are sold -/
namespace PT
/-- this box stands at or below v -/
def inAt (pl ss : List Int) (v : Nat) (x : Int) : Prop := ∃ k : Nat, k ≤ pl.length ∧ v ∈ path pl k ∧ bx ss k = x
theorem chn_path {pl ss : List Int} (hP : Plant pl) {v : Nat} : ∀ k : Nat, k ∈ chn pl ss 0 → v ∈ path pl k → v ∈ chn pl ss 0 := by
  intro k
  induction k using Nat.strongRecOn with
  | ind k ih =>
    intro hk hv
    by_cases h0 : 0 < k
    · rcases (path_iff pl h0).mp hv with rfl | z
      · exact hk
      · exact ih _ (cu_lt pl h0) (chn_cu hP hk h0).1 z
    · have : k = 0 := by omega
      subst this
      rw [path_zero, List.mem_singleton] at hv
      rw [hv]
      exact hk
theorem inAt_out {pl ss : List Int} (hP : Plant pl) (hs : ss.length = pl.length + 1) {v : Nat} (hv : v ∉ chn pl ss 0) (x : Int) : inAt pl (day pl ss 0).2 v x ↔ inAt pl ss v x := by
  have e : ∀ k : Nat, k ≤ pl.length → v ∈ path pl k → bx (day pl ss 0).2 k = bx ss k := fun k hk hp => by
    rw [day_at hs hk, if_neg fun z => hv (chn_path hP k z hp)]
  constructor
  · rintro ⟨k, h1, h2, h3⟩
    exact ⟨k, h1, h2, by rw [← e k h1 h2]; exact h3⟩
  · rintro ⟨k, h1, h2, h3⟩
    exact ⟨k, h1, h2, by rw [e k h1 h2]; exact h3⟩
theorem inAt_in {pl ss : List Int} (hP : Plant pl) (hs : ss.length = pl.length + 1) (hn : ss.Nodup) {v : Nat} (hv : v ∈ chn pl ss 0) {x : Int} (hx : x ≠ mxv ss + 1) : inAt pl (day pl ss 0).2 v x ↔ inAt pl ss v x ∧ x ≠ bx ss v := by
  have hvl := (chn_le (ss := ss) _ 0 rfl (Nat.zero_le _) v hv).2
  constructor
  · rintro ⟨k, h1, h2, h3⟩
    have hvk := path_le pl _ _ h2
    rw [day_at hs h1] at h3
    by_cases hk : k ∈ chn pl ss 0
    · rw [if_pos hk] at h3
      unfold nxt at h3
      by_cases g : gives pl ss k
      · rw [if_pos g] at h3
        have gb := g
        unfold gives at gb
        refine ⟨⟨bst pl ss k, gb.2, (path_iff pl (by omega)).mpr (.inr (by rw [gives_cu hP g]; exact h2)), h3⟩, fun e => ?_⟩
        have := bx_inj hn (by omega) (by omega) (h3.trans e)
        omega
      · rw [if_neg g] at h3
        exact absurd h3.symm hx
    · rw [if_neg hk] at h3
      refine ⟨⟨k, h1, h2, h3⟩, fun e => ?_⟩
      have := bx_inj hn (by omega) (by omega) (h3.trans e)
      rw [this] at hk
      exact hk hv
  · rintro ⟨⟨k, h1, h2, h3⟩, h4⟩
    have hne : v ≠ k := fun e => h4 (by rw [e]; exact h3.symm)
    have hvk := path_le pl _ _ h2
    by_cases hk : k ∈ chn pl ss 0
    · have h0 : 0 < k := by omega
      obtain ⟨c1, c2, c3⟩ := chn_cu hP hk h0
      have := cu_lt pl h0
      refine ⟨cu pl k, by omega, ?_, ?_⟩
      · rcases (path_iff pl h0).mp h2 with e | z
        · exact absurd e hne
        · exact z
      · rw [day_at hs (by omega), if_pos c1]
        unfold nxt
        rw [if_pos c2, c3]
        exact h3
    · exact ⟨k, h1, h2, by rw [day_at hs h1, if_neg hk]; exact h3⟩
structure Sale (pl f b : List Int) : Prop where
  up : ∀ k s : Nat, k ≤ pl.length → s ≤ pl.length → bx b k = bx f s → k ∈ path pl s
  nw : ∀ k : Nat, k ≤ pl.length → (∃ s : Nat, s ≤ pl.length ∧ bx b k = bx f s) ∨ mxv f < bx b k
  lo : ∀ v s : Nat, s ≤ pl.length → v ∈ path pl s → inAt pl b v (bx f s) → (s = v ∨ ¬ inAt pl b v (bx f (cu pl s))) → bx b v ≤ bx f s
  fr : ∀ v s : Nat, s ≤ pl.length → v ≤ pl.length → bx b v = bx f s → s = v ∨ ¬ inAt pl b v (bx f (cu pl s))
  mx : mxv f ≤ mxv b
theorem Sale.start {pl f : List Int} (hs : f.length = pl.length + 1) (hn : f.Nodup) : Sale pl f f := by
  refine ⟨fun k s hk h e => ?_, fun k hk => .inl ⟨k, hk, rfl⟩, fun v s h hp hi hc => ?_, fun v s h hv e => .inl (bx_inj hn (by omega) (by omega) e).symm, Int.le_refl _⟩
  · rw [bx_inj hn (by omega) (by omega) e]
    exact path_self pl s
  · rcases hc with rfl | hc
    · exact Int.le_refl _
    · by_cases e : s = v
      · rw [e]
        exact Int.le_refl _
      · have := path_le pl _ _ hp
        have h0 : 0 < s := by omega
        rcases (path_iff pl h0).mp hp with z | z
        · exact absurd z.symm e
        · have := cu_lt pl h0
          exact absurd ⟨cu pl s, by omega, z, rfl⟩ hc
theorem Sale.next {pl f b : List Int} (hP : Plant pl) (hf : f.length = pl.length + 1) (hs : b.length = pl.length + 1) (hn : b.Nodup) (h : Sale pl f b) : Sale pl f (day pl b 0).2 := by
  have fm : ∀ s : Nat, s ≤ pl.length → bx f s ≠ mxv b + 1 := fun s hs2 e => by
    have := mxv_lt (ss := f) (k := s) (by omega)
    have := h.mx
    omega
  have up' : ∀ k s : Nat, k ≤ pl.length → s ≤ pl.length → bx (day pl b 0).2 k = bx f s → k ∈ path pl s := fun k s hk hs2 e => by
    rw [day_at hs hk] at e
    by_cases m : k ∈ chn pl b 0
    · rw [if_pos m] at e
      unfold nxt at e
      by_cases g : gives pl b k
      · rw [if_pos g] at e
        have gb := g
        unfold gives at gb
        have z := h.up _ _ gb.2 hs2 e
        exact path_tr ((path_iff pl (by omega)).mpr (.inr (by rw [gives_cu hP g]; exact path_self pl k))) s z
      · rw [if_neg g] at e
        exact absurd e.symm (fm s hs2)
    · rw [if_neg m] at e
      exact h.up k s hk hs2 e
  refine ⟨up', fun k hk => ?_, fun v s hs2 hp hi hc => ?_, fun v s hs2 hv e => ?_, ?_⟩
  · rw [day_at hs hk]
    by_cases m : k ∈ chn pl b 0
    · rw [if_pos m]
      unfold nxt
      by_cases g : gives pl b k
      · rw [if_pos g]
        unfold gives at g
        exact h.nw _ g.2
      · rw [if_neg g]
        have := h.mx
        exact .inr (by omega)
    · rw [if_neg m]
      exact h.nw k hk
  · have hvs := path_le pl _ _ hp
    by_cases m : v ∈ chn pl b 0
    · rw [day_at hs (by omega), if_pos m]
      obtain ⟨i1, i2⟩ := (inAt_in hP hs hn m (fm s hs2)).mp hi
      by_cases e : s = v
      · exfalso
        subst e
        obtain ⟨k, k1, k2, k3⟩ := i1
        have k4 := h.up k s k1 hs2 k3
        have := path_le pl _ _ k2
        have := path_le pl _ _ k4
        have : k = s := by omega
        subst this
        exact i2 k3.symm
      · have h0 : 0 < s := by omega
        have hc2 : ¬ inAt pl (day pl b 0).2 v (bx f (cu pl s)) := hc.resolve_left e
        have hcs := cu_lt pl h0
        rw [inAt_in hP hs hn m (fm _ (by omega))] at hc2
        -- the supplier of v that is above s
        obtain ⟨k, k1, k2, k3⟩ := i1
        have k4 := h.up k s k1 hs2 k3
        have kv : v ≠ k := fun z => i2 (by rw [z]; exact k3.symm)
        have kvl := path_le pl _ _ k2
        obtain ⟨u, u0, u1, u2, us⟩ := path_sup hp (fun q => e q.symm)
        have hul : u ≤ pl.length := by omega
        obtain ⟨gv, g2⟩ := gives_of (ss := b) hP u0 hul
        rw [u2] at gv g2
        -- k stands at or below u
        have uk : u ∈ path pl k := by
          have hvu : cu pl u < u := cu_lt pl u0
          by_cases c : u ≤ k
          · exact path_lin c s us k4
          · exfalso
            have z := path_lin (Nat.le_of_lt (Nat.lt_of_not_le c)) s k4 us
            rcases (path_iff pl u0).mp z with y | y
            · omega
            · have := path_le pl _ _ y
              omega
        unfold nxt
        rw [if_pos gv]
        have l1 : bx b u ≤ bx f s := h.lo u s hs2 us ⟨k, k1, uk, k3⟩ (by
          by_cases es : s = u
          · exact .inl es
          · refine .inr fun z => hc2 ⟨?_, ?_⟩
            · obtain ⟨q, q1, q2, q3⟩ := z
              exact ⟨q, q1, path_tr ((path_iff pl u0).mpr (.inr (by rw [u2]; exact path_self pl v))) q q2, q3⟩
            · obtain ⟨q, q1, q2, q3⟩ := z
              intro y
              have := bx_inj hn (by omega) (by omega) (q3.trans y)
              have := path_le pl _ _ q2
              have := cu_lt pl u0
              omega)
        omega
    · rw [day_at hs (by omega), if_neg m]
      exact h.lo v s hs2 hp ((inAt_out hP hs m _).mp hi) (hc.imp id fun z y => z ((inAt_out hP hs m _).mpr y))
  · by_cases m : v ∈ chn pl b 0
    · rw [day_at hs hv, if_pos m] at e
      unfold nxt at e
      by_cases g : gives pl b v
      · rw [if_pos g] at e
        have gb := g
        unfold gives at gb
        have gc := gives_cu hP g
        have z := h.up _ _ gb.2 hs2 e
        have h0 : 0 < s := by have := path_le pl _ _ z; omega
        have hcs := cu_lt pl h0
        refine .inr ?_
        rw [inAt_in hP hs hn m (fm _ (by omega))]
        rintro ⟨⟨q, q1, q2, q3⟩, y⟩
        have qv : v ≠ q := fun w => y (by rw [w]; exact q3.symm)
        have qs := h.up q (cu pl s) q1 (by omega) q3
        have qvl := path_le pl _ _ q2
        rcases h.fr _ s hs2 gb.2 e with w | w
        · rw [w, gc] at qs
          have := path_le pl _ _ qs
          omega
        · refine w ⟨q, q1, ?_, q3⟩
          have qs2 : q ∈ path pl s := (path_iff pl h0).mpr (.inr qs)
          have b0 : 0 < bst pl b v := by omega
          by_cases c : bst pl b v ≤ q
          · exact path_lin c s z qs2
          · exfalso
            have z2 := path_lin (Nat.le_of_lt (Nat.lt_of_not_le c)) s qs2 z
            rcases (path_iff pl b0).mp z2 with y2 | y2
            · omega
            · rw [gc] at y2
              have := path_le pl _ _ y2
              omega
      · rw [if_neg g] at e
        exact absurd e.symm (fm s hs2)
    · rw [day_at hs hv, if_neg m] at e
      exact (h.fr v s hs2 hv e).imp id fun z y => z ((inAt_out hP hs m _).mp y)
  · have := day_mxv (pl := pl) hs
    have := h.mx
    omega
theorem sale_dyn {pl f : List Int} (hP : Plant pl) (hs : f.length = pl.length + 1) (hn : f.Nodup) : ∀ n, Sale pl f (dyn pl f n)
  | 0 => .start hs hn
  | n + 1 => (sale_dyn hP hs hn n).next hP hs (dyn_len hs hn n).1 (dyn_len hs hn n).2
/-- what the program keeps: the stations that wait, and those whose boxes are sold -/
structure Sel (pl f : List Int) (i : Nat) (ws M : List Nat) : Prop where
  wn : ws.Nodup
  wm : ∀ s, s ∈ ws ↔ s ≤ pl.length ∧ s ∉ M ∧ (s = 0 ∨ cu pl s ∈ M)
  mn : M.Nodup
  ml : M.length = i
  mm : ∀ s ∈ M, s ≤ pl.length
  cl : ∀ s ∈ M, s = 0 ∨ cu pl s ∈ M
  ms : ∀ s : Nat, s ≤ pl.length → (s ∈ M ↔ ¬ inAt pl (dyn pl f i) 0 (bx f s))
  sl : sold pl f i = M.map fun s : Nat => bx f s
theorem Sel.start (pl f : List Int) : Sel pl f 0 [0] [] := by
  refine ⟨by simp, fun s => ⟨fun h => ?_, fun h => ?_⟩, List.nodup_nil, rfl, fun s h => (by cases h), fun s h => (by cases h), fun s hs => ⟨fun h => (by cases h), fun h => absurd ⟨s, hs, path_root pl s, rfl⟩ h⟩, rfl⟩
  · rw [List.mem_singleton.mp h]
    exact ⟨Nat.zero_le _, (by simp), .inl rfl⟩
  · rcases h.2.2 with z | z
    · rw [z]
      simp
    · cases z
theorem Sel.next {pl f : List Int} {i m : Nat} {ws M : List Nat} (hP : Plant pl) (hs : f.length = pl.length + 1) (hn : f.Nodup) (h : Sel pl f i ws M) (hm : m ∈ ws) (lo : ∀ s ∈ ws, bx f m ≤ bx f s) :
    bx (dyn pl f i) 0 = bx f m ∧ Sel pl f (i + 1) (ws.filter (fun s => decide (s ≠ m)) ++ supN pl m) (M ++ [m]) := by
  obtain ⟨m1, m2, m3⟩ := (h.wm m).mp hm
  have S := sale_dyn hP hs hn i
  obtain ⟨dl, dn⟩ := dyn_len hs hn i
  have inM : ∀ s : Nat, s ≤ pl.length → s ∉ M → inAt pl (dyn pl f i) 0 (bx f s) := fun s h1 h2 => Classical.byContradiction fun z => h2 ((h.ms s h1).mpr z)
  have ub : bx (dyn pl f i) ((0 : Nat) : Int) ≤ bx f m := S.lo 0 m m1 (path_root pl m) (inM m m1 m2) (by
    rcases m3 with z | z
    · exact .inl z
    · exact .inr ((h.ms _ (by by_cases e : m = 0; (· rw [e]; unfold cu; omega); (have := cu_lt pl (show 0 < m by omega); omega))).mp z))
  have e0 : bx (dyn pl f i) ((0 : Nat) : Int) = bx f m := by
    rcases S.nw 0 (Nat.zero_le _) with ⟨s, s1, s2⟩ | z
    · have sw : s ∈ ws := by
        refine (h.wm s).mpr ⟨s1, fun y => (h.ms s s1).mp y ⟨0, Nat.zero_le _, path_self pl 0, s2⟩, ?_⟩
        rcases S.fr 0 s s1 (Nat.zero_le _) s2 with y | y
        · exact .inl y
        · by_cases q : s = 0
          · exact .inl q
          · have := cu_lt pl (show 0 < s by omega)
            exact .inr ((h.ms _ (by omega)).mpr y)
      have := lo s sw
      omega
    · have := mxv_lt (ss := f) (k := m) (by omega)
      omega
  refine ⟨by rw [← bx0]; exact e0, ?_⟩
  have fm : ∀ s : Nat, s ≤ pl.length → bx f s ≠ mxv (dyn pl f i) + 1 := fun s h2 e => by
    have := mxv_lt (ss := f) (k := s) (by omega)
    have := S.mx
    omega
  refine ⟨List.nodup_append.mpr ⟨h.wn.filter _, supN_nodup pl m, fun a ha b hb e => ?_⟩, fun s => ?_, List.nodup_append.mpr ⟨h.mn, by simp, fun a ha b hb e => ?_⟩, by rw [List.length_append, h.ml]; rfl, fun s h1 => ?_, fun s h1 => ?_, fun s h1 => ?_, ?_⟩
  · subst e
    obtain ⟨b1, b2, b3⟩ := (supN_mem hP).mp hb
    obtain ⟨a1, a2⟩ := List.mem_filter.mp ha
    obtain ⟨_, _, a3⟩ := (h.wm a).mp a1
    rcases a3 with z | z
    · omega
    · rw [b3] at z
      exact m2 z
  · rw [List.mem_append, List.mem_filter, decide_eq_true_eq, h.wm, supN_mem hP]
    constructor
    · rintro (⟨⟨a1, a2, a3⟩, a4⟩ | ⟨b1, b2, b3⟩)
      · refine ⟨a1, fun z => ?_, a3.imp id fun z => List.mem_append.mpr (.inl z)⟩
        rcases List.mem_append.mp z with z | z
        · exact a2 z
        · exact a4 (List.mem_singleton.mp z)
      · refine ⟨b2, fun z => ?_, .inr (List.mem_append.mpr (.inr (by rw [b3]; simp)))⟩
        rcases List.mem_append.mp z with z | z
        · rcases h.cl s z with q | q
          · omega
          · rw [b3] at q
            exact m2 q
        · have := List.mem_singleton.mp z
          have := cu_lt pl b1
          omega
    · rintro ⟨a1, a2, a3⟩
      have a2' : s ∉ M ∧ s ≠ m := ⟨fun z => a2 (List.mem_append.mpr (.inl z)), fun z => a2 (List.mem_append.mpr (.inr (by rw [z]; simp)))⟩
      rcases a3 with z | z
      · exact .inl ⟨⟨a1, a2'.1, .inl z⟩, a2'.2⟩
      · rcases List.mem_append.mp z with z | z
        · exact .inl ⟨⟨a1, a2'.1, .inr z⟩, a2'.2⟩
        · by_cases q : s = 0
          · exact .inl ⟨⟨a1, a2'.1, .inl q⟩, a2'.2⟩
          · exact .inr ⟨by omega, a1, List.mem_singleton.mp z⟩
  · subst e
    rw [List.mem_singleton.mp hb] at ha
    exact m2 ha
  · rcases List.mem_append.mp h1 with z | z
    · exact h.mm s z
    · rw [List.mem_singleton.mp z]
      exact m1
  · rcases List.mem_append.mp h1 with z | z
    · exact (h.cl s z).imp id fun q => List.mem_append.mpr (.inl q)
    · rw [List.mem_singleton.mp z]
      exact m3.imp id fun q => List.mem_append.mpr (.inl q)
  · show _ ↔ ¬ inAt pl (day pl (dyn pl f i) 0).2 0 (bx f s)
    rw [inAt_in hP dl dn (chn_self 0) (fm s h1), List.mem_append, List.mem_singleton]
    constructor
    · rintro (z | z)
      · exact fun y => (h.ms s h1).mp z y.1
      · exact fun y => y.2 (by rw [z]; exact e0.symm)
    · intro z
      by_cases q : s ∈ M
      · exact .inl q
      · refine .inr ?_
        have q2 := inM s h1 q
        have q3 : bx f s = bx (dyn pl f i) ((0 : Nat) : Int) := Classical.byContradiction fun y => z ⟨q2, y⟩
        exact bx_inj hn (by omega) (by omega) (q3.trans e0)
  · rw [sold_step, h.sl, List.map_append, ← bx0, e0]
    rfl
theorem Sel.le {pl f : List Int} {i : Nat} {ws M : List Nat} (h : Sel pl f i ws M) : i ≤ pl.length + 1 := by
  have z := h.mn.length_le_of_subset (l₂ := List.range (pl.length + 1)) fun s hs => List.mem_range.mpr (by have := h.mm s hs; omega)
  rw [List.length_range, h.ml] at z
  exact z
theorem Sel.end {pl f : List Int} {i : Nat} {ws M : List Nat} (h : Sel pl f i ws M) : ws = [] ↔ i = pl.length + 1 := by
  constructor
  · intro e
    have all : ∀ s, s ≤ pl.length → s ∈ M := by
      intro s
      induction s using Nat.strongRecOn with
      | ind s ih =>
        intro hs
        refine Classical.byContradiction fun z => ?_
        have : s ∈ ws := (h.wm s).mpr ⟨hs, z, by
          by_cases q : s = 0
          · exact .inl q
          · have := cu_lt pl (show 0 < s by omega)
            exact .inr (ih _ this (by omega))⟩
        rw [e] at this
        cases this
    have z := (List.nodup_range (n := pl.length + 1)).length_le_of_subset (l₂ := M) fun s hs => all s (by have := List.mem_range.mp hs; omega)
    rw [List.length_range, h.ml] at z
    have := h.le
    omega
  · intro e
    cases hw : ws with
    | nil => rfl
    | cons a r =>
      exfalso
      obtain ⟨a1, a2, _⟩ := (h.wm a).mp (by rw [hw]; simp)
      have z := (List.nodup_cons.mpr ⟨a2, h.mn⟩).length_le_of_subset (l₂ := List.range (pl.length + 1)) fun s hs => by
        rcases List.mem_cons.mp hs with y | y
        · exact List.mem_range.mpr (by omega)
        · exact List.mem_range.mpr (by have := h.mm s y; omega)
      rw [List.length_range, List.length_cons, h.ml] at z
      omega
theorem Sel.wl {pl f : List Int} {i : Nat} {ws M : List Nat} (h : Sel pl f i ws M) : ws.length ≤ pl.length + 1 := by
  have z := h.wn.length_le_of_subset (l₂ := List.range (pl.length + 1)) fun s hs => List.mem_range.mpr (by have := ((h.wm s).mp hs).1; omega)
  rw [List.length_range] at z
  exact z
end PT

set_option maxHeartbeats 4000000
/-! every new box is sold n days after it was made -/
namespace PT
theorem ord_late {pl ss : List Int} (hP : Plant pl) (hs : ss.length = pl.length + 1) (hn : ss.Nodup) {d : Nat} (h : pl.length ≤ d) : Ord pl (dyn pl ss d) := by
  obtain ⟨a, b⟩ := dyn_len hs hn pl.length
  have z := ord_dyn hP a b (ord_end hP hs hn) (d - pl.length)
  rw [← dyn_add, show pl.length + (d - pl.length) = d by omega] at z
  exact z
theorem all_sold {pl ss : List Int} (hP : Plant pl) (hs : ss.length = pl.length + 1) (hn : ss.Nodup) : ∀ x ∈ dyn pl ss (pl.length + 1), mxv ss < x := by
  have hI : Waits (mxv ss < ·) pl ss := fun k a b c => by
    have := mxv_lt (ss := ss) (k := cu pl k) (by have := cu_lt pl a; omega)
    omega
  have h1 := olds_dyn hP hs hn hI pl.length (Nat.le_refl _)
  have h2 := olds_day (m := 0) (dyn_len hs hn pl.length).1 (by rw [dyn_mxv hs hn]; omega) (inv_dyn hP hs hn hI pl.length) (by omega)
  intro x hx
  refine Classical.byContradiction fun z => ?_
  have : 0 < olds (mxv ss) (dyn pl ss (pl.length + 1)) := List.countP_pos_iff.mpr ⟨x, hx, decide_eq_true (by omega)⟩
  have e : dyn pl ss (pl.length + 1) = (day pl (dyn pl ss pl.length) 0).2 := rfl
  rw [e] at this
  omega
theorem late_box {pl ss : List Int} (hP : Plant pl) (hs : ss.length = pl.length + 1) (hn : ss.Nodup) {d : Nat} (h : pl.length + 1 ≤ d) : ∀ x ∈ dyn pl ss d, mxv ss + d - (pl.length + 1 : Nat) < x ∧ x ≤ mxv ss + d := by
  obtain ⟨a, b⟩ := dyn_len hs hn (d - (pl.length + 1))
  have z := all_sold hP a b
  rw [← dyn_add, show d - (pl.length + 1) + (pl.length + 1) = d by omega, dyn_mxv hs hn] at z
  intro x hx
  have h1 := z x hx
  have h2 := (mxv_mem (l := dyn pl ss d) (fun e => by rw [e] at hx; cases hx)).2 x hx
  rw [dyn_mxv hs hn] at h2
  omega
end PT

/-! far days: the boxes of an ordered late stock are told by its order alone; its chain by its words -/
namespace PT
/-- increasing numbers that fill a stretch -/
theorem stretch_at {f : Nat → Int} {n : Nat} {t : Int} (inc : ∀ i j, i < j → j < n → f i < f j) (b : ∀ i, i < n → t < f i ∧ f i ≤ t + n) : ∀ i, i < n → f i = t + 1 + i := by
  have lo : ∀ i, i < n → t + 1 + i ≤ f i := by
    intro i
    induction i with
    | zero => intro h; have := (b 0 h).1; omega
    | succ i ih =>
      intro h
      have := ih (by omega)
      have := inc i (i + 1) (by omega) h
      omega
  have hi : ∀ k, ∀ i, i + k + 1 = n → f i ≤ t + n - k := by
    intro k
    induction k with
    | zero => intro i h; have := (b i (by omega)).2; omega
    | succ k ih =>
      intro i h
      have := ih (i + 1) (by omega)
      have := inc i (i + 1) (by omega) (by omega)
      omega
  intro i h
  have := lo i h
  have := hi (n - 1 - i) i (by omega)
  omega
/-- the box at a place of the order -/
theorem late_idx {pl ss : List Int} {L : List Nat} {t : Int} (hs : ss.length = pl.length + 1) (hL : IsOrd ss L) (b : ∀ x ∈ ss, t < x ∧ x ≤ t + (pl.length + 1 : Nat)) : ∀ s, s ≤ pl.length → bx ss s = t + 1 + (L.idxOf s : Nat) := by
  have lL := ord_len hL
  have z := stretch_at (f := fun i => bx ss (L.getD i 0)) (n := pl.length + 1) (t := t) (fun i j ij hj => by
    have hi1 : i < L.length := by omega
    have hj1 : j < L.length := by omega
    have e1 : L.getD i 0 = L[i] := by rw [List.getD_eq_getElem?_getD, List.getElem?_eq_getElem hi1]; rfl
    have e2 : L.getD j 0 = L[j] := by rw [List.getD_eq_getElem?_getD, List.getElem?_eq_getElem hj1]; rfl
    show bx ss (L.getD i 0) < bx ss (L.getD j 0)
    rw [e1, e2]
    exact List.pairwise_iff_getElem.mp hL.inc i j hi1 hj1 ij) (fun i hi => by
    have hi1 : i < L.length := by omega
    have e1 : L.getD i 0 = L[i] := by rw [List.getD_eq_getElem?_getD, List.getElem?_eq_getElem hi1]; rfl
    show t < bx ss (L.getD i 0) ∧ bx ss (L.getD i 0) ≤ _
    rw [e1]
    exact b _ (bx_mem ((hL.mem _).mp (List.getElem_mem hi1))))
  intro s hs1
  have sm : s ∈ L := (hL.mem s).mpr (by omega)
  have lt := List.idxOf_lt_length_of_mem sm
  have e := z (L.idxOf s) (by omega)
  have e1 : L.getD (L.idxOf s) 0 = s := by
    rw [List.getD_eq_getElem?_getD, List.getElem?_eq_getElem lt]
    exact List.getElem_idxOf lt
  have e2 : bx ss (L.getD (L.idxOf s) 0) = t + 1 + (L.idxOf s : Nat) := e
  rw [e1] at e2
  exact e2
/-- the pattern of words is the order of any ordered stock that has them -/
theorem patW_is {pl ss : List Int} {W : Nat → List Nat} {L : List Nat} (hP : Plant pl) (ok : WordsOk pl W) (hs : ss.length = pl.length + 1) (ho : Ord pl ss) (hL : IsOrd ss L) (e : ∀ v, v ≤ pl.length → wd pl L v = W v) : patW pl W = rankS pl L := by
  have d := layN_done hP ok
  have z := lay_same hs (rank_len pl _) ho d.calm hL d.ord fun v hv => by rw [e v hv, d.words hP ok hv]
  unfold patW
  rw [← z]
theorem late_map {pl ss : List Int} {L : List Nat} {t : Int} (hs : ss.length = pl.length + 1) (h : ∀ s, s ≤ pl.length → bx ss s = t + 1 + (L.idxOf s : Nat)) : ss = (rankS pl L).map fun r => t + 1 + r := by
  refine List.ext_getElem? fun j => ?_
  by_cases hj : j < pl.length + 1
  · have e2 : (rankS pl L)[j]? = some ((L.idxOf j : Nat) : Int) := by
      rw [bx_at (by rw [rank_len]; exact hj), rank_at (by omega)]
    rw [bx_at (by omega), h j (by omega), List.getElem?_map, e2]
    rfl
  · rw [List.getElem?_eq_none (by omega), List.getElem?_eq_none (by rw [List.length_map, rank_len]; omega)]
/-- the stock of a late day, out of its words -/
theorem far_dyn {pl ss : List Int} {L : List Nat} (hP : Plant pl) (hs : ss.length = pl.length + 1) (hn : ss.Nodup) {m d : Nat} (ho : Ord pl (dyn pl ss m)) (hL : IsOrd (dyn pl ss m) L) (md : m ≤ d) (hd : pl.length + 1 ≤ d) :
    dyn pl ss d = (patW pl (rotW pl (wd pl L) (d - m))).map fun r => mxv ss + d - (pl.length + 1 : Nat) + 1 + r := by
  obtain ⟨m1, m2⟩ := dyn_len (pl := pl) hs hn m
  obtain ⟨d1, d2⟩ := dyn_len (pl := pl) hs hn d
  obtain ⟨M, hM⟩ := ord_ex d2
  have hM2 := hM
  have ed : dyn pl ss d = dyn pl (dyn pl ss m) (d - m) := by
    rw [← dyn_add]
    congr 1
    omega
  rw [ed] at hM2
  have w := wd_days hP m1 m2 ho hL (d - m) hM2
  have od := ord_dyn hP m1 m2 ho (d - m)
  rw [← ed] at od
  rw [patW_is hP (rotW_ok (wd_ok m1 hL) (d - m)) d1 od hM w]
  refine late_map (t := mxv ss + d - (pl.length + 1 : Nat)) d1 (late_idx d1 hM fun x hx => ?_)
  have z := late_box hP hs hn hd x hx
  omega
end PT


set_option maxHeartbeats 4000000
/-! far_stock, far_chain, stock_after, chain_on, maker_on, box_at -/
namespace PT
open PySem PySem.Spec PyProof.Rows L2 LamX NdefX
section
variable {P : Program} {w : World} {K : PySem.W.Frag} {mg : Str → Option Value} {base : Heap}
def spFarStockS (T : Tx K mg) : Sp := fun vs H Q _ => ∃ (p q : Addr) (pl ss : List Int) (d : Nat), vs = [.ref p, .ref q, .int (d : Int)] ∧ PlantAt H p pl ∧ StkAt H q ss ∧ ss.length = pl.length + 1 ∧ ss.Nodup ∧ Tabs T.tabW H ∧
  ∀ (H' : Hp) (ot : Addr), ExtN H H' → Tabs T.tabW H' → NewN H ot → H' ot = some (.tup ((dyn pl ss d).map V.int)) → Q (.ref ot) H'
theorem Tx.farStockS (T : Tx K mg) (B : TabB base mg T.c_words_by_age T.P_words_by_age) (B2 : TabB base mg T.c_oldest_giver T.P_oldest_giver) {k : Nat} :
    FnOk P w K mg base CX0 (k + 9) T.f_far_stock T.d_far_stock ["plant", "stock", "days"] (spFarStockS T) := by
  refine T.F_far_stock.ok scFarStock (fun vs H Q E h => ?_) (fun cdv A outer s H vs Q E hr h => ?_)
  · obtain ⟨p, q, pl, ss, d, rfl, _⟩ := h
    rfl
  · obtain ⟨p, q, pl, ss, d, rfl, hP, hq, hs, hn, hT, qq⟩ := h
    have nd := scFarStock.nd
    have hlen := hP.ok.len
    refine ⟨_, (pss_cons (ps_if (pt_cmpR op_lt (pv 2) (pe_callB call_len_seq (by rfl) T.n_len PySem.boot_len (pa_cons (pv 1) pa_nil)) (nomark _))
(pss_one (ps_ret (pe_call (T.runS B2 (k := 0)) (hr.mono (by omega)) (by rfl) T.g_run T.F_run.kp T.b_run .nil pass0 (pa_cons (pv 0) (pa_cons (pv 1) (pa_cons (pv 2) pa_nil)))))) pss_nil)
(pss_cons (ps_asg (pe_call (T.daysToOrderS B2 (k := 0)) (hr.mono (by omega)) (by rfl) T.g_days_to_order T.F_days_to_order.kp T.b_days_to_order .nil pass0 (pa_cons (pv 0) (pa_cons (pv 1) pa_nil))) (pg_tup (by rfl) (pgs_cons (pg_name (i := 3) nd rfl (.inl rfl)) (pgs_cons (pg_name (i := 4) nd rfl (.inl rfl)) pgs_nil))))
(pss_cons (ps_set (i := 5) nd rfl (.inl rfl) (pe_call (T.turnedWords (k := 0)) (hr.mono (by omega)) (by rfl) T.g_turned_words T.F_turned_words.kp T.b_turned_words .nil pass0 (pa_cons (pv 0) (pa_cons (pe_call (T.wordsBy B (k := 0)) (hr.mono (by omega)) (by rfl) T.g_words_by_age T.F_words_by_age.kp T.b_words_by_age .nil pass0 (pa_cons (pv 0) (pa_cons (pv 4) pa_nil))) (pa_cons (pe_op op_sub (pv 2) (pe_callB call_len_seq (by rfl) T.n_len PySem.boot_len (pa_cons (pv 3) pa_nil))) pa_nil)))))
(pss_cons (ps_set (i := 6) nd rfl (.inr rfl) (pe_op op_add (pe_op op_sub (pe_op op_add (pe_callB (call_maxT rfl hr.units) (by rfl) T.n_max (by decide +kernel) (pa_cons (pv 1) pa_nil)) (pv 2)) (pe_callB call_len_seq (by rfl) T.n_len PySem.boot_len (pa_cons (pv 1) pa_nil))) pe_int))
(pss_one (ps_ret (pe_callTy call_tuple_of (by rfl) T.n_tuple (by decide +kernel) (pa_cons (pe_lc (own := [("rank", 7)]) (g := gName 7) (tt := tYes) (te := (tOp (rI0 fun i j => .int (i + j)) (tVar 6) (tVar 7))) rfl nd (pi_tup (pe_call (T.ranksByWords (k := 0)) (hr.mono (by omega)) (by rfl) T.g_ranks_by_words T.F_ranks_by_words.kp T.b_ranks_by_words .nil pass0 (pa_cons (pv 5) pa_nil)))
(blkOk_by (N := ["plant", "stock", "days", "chains", "ordered", "words", "oldest", "rank"]) (sc := defScope sFarStock) (by decide +kernel)) (fun _ _ _ _ _ => (pg_name (i := 7) nd rfl (.inl rfl))) (fun _ _ _ _ _ => pts_nil) (fun _ _ _ _ _ => (pe_op op_add (pv 6) (pv 7)))) pa_nil)))))))), ?_⟩
    have elq : ((ss.map V.int).length : Int) = ((pl.length + 1 : Nat) : Int) := by rw [List.length_map, hs]
    refine ⟨.int (d : Int), rfl, .ref q, rfl, q, _, rfl, .inr hq.seq, (d : Int), ((pl.length + 1 : Nat) : Int), rfl, by rw [elq], _, rfl, ite2 (fun e => ?_) fun e => ?_⟩
    · have lt : d < pl.length + 1 := by
        have := of_decide_eq_true e
        omega
      exact ⟨.ref p, rfl, .ref q, rfl, .int (d : Int), rfl, p, q, pl, ss, d, rfl, hP, hq, hs, hn, by omega, hT, fun H' ot x1 t1 n1 e1 => qq H' ot x1 t1 n1 e1⟩
    have ge : pl.length + 1 ≤ d := by
      have := of_decide_eq_false (eq_false_of_ne_true e)
      omega
    obtain ⟨o1, o2, _⟩ := ordN_ok hP.ok hs hn
    refine ⟨.ref p, rfl, .ref q, rfl, p, q, pl, ss, rfl, hP, hq, hs, hn, hT, fun H1 t cl ot cs x1 t1 nt ncl not_ ncs C eot et => ?_⟩
    generalize ordN pl ss = m at o1 o2 C eot
    obtain ⟨d1, d2⟩ := dyn_len (pl := pl) hs hn m
    have hP1 := extN_plant x1 hP
    refine ⟨t, _, rfl, .inl (.inl et), rfl, _, _, rfl, _, _, rfl, rfl, ?_⟩
    have em1 : (((cs.map V.ref).length : Nat) : Int) = (m : Int) := by rw [List.length_map, C.len]
    refine ⟨.ref p, rfl, .ref p, rfl, .ref ot, rfl, p, ot, pl, dyn pl ss m, rfl, hP1, eot, d1, d2, t1, fun H3 wl as L x3 t3 hO RA => ?_⟩
    have R := RA.toN
    have hP3 := extN_plant x3 hP1
    have hcl := extN_lst x3 C.hl
    refine ⟨.int (d : Int), rfl, .ref cl, rfl, cl, _, rfl, .inl (.inl (.inl hcl)), (d : Int), (m : Int), rfl, by rw [em1], ?_⟩
    have e0 : (d : Int) - (m : Int) = ((d - m : Nat) : Int) := by omega
    have ok := wd_ok (pl := pl) d1 hO
    refine ⟨p, wl, pl, as, wd pl L, d - m, congrArg (fun z : Int => [V.ref p, .ref wl, .int z]) e0, hP3, R, ok, fun H4 tw bs s4 ntw nbs R4 => ?_⟩
    have hq4 := ((hq.ext (x1.trans x3)).same s4).seq (K := K)
    have hne : ss ≠ [] := fun z => by
      rw [z] at hs
      simp at hs
    refine ⟨.ref q, rfl, q, ss, rfl, hq4, hne, .int (d : Int), rfl, _, _, rfl, rfl, .ref q, rfl, q, _, rfl, .inr hq4, mxv ss + (d : Int), ((pl.length + 1 : Nat) : Int), rfl, by rw [elq], _, 1, rfl, rfl, ?_⟩
    refine ⟨.ref tw, rfl, tw, pl, bs, rotW pl (wd pl L) (d - m), rfl, hP.ok, R4, rotW_ok ok _, fun H5 rt s5 nrt ert => ?_⟩
    obtain ⟨rl, _, _⟩ := patW_ok hP.ok (rotW_ok ok (d - m))
    have ed := far_dyn hP.ok hs hn o1 hO (by omega) ge
    generalize patW pl (rotW pl (wd pl L) (d - m)) = rs at ert rl ed
    refine ⟨rt, rfl, ⟨_, .inl (.inl ert)⟩, fun D nD => ?_⟩
    refine lc_tup (xs := rs.map V.int) (fun i G => Same H5 G ∧ G D = some (.lst (((rs.take i).map fun r => mxv ss + d - (pl.length + 1 : Nat) + 1 + r).map V.int))) ⟨same_new nD, upd_same⟩ (fun i G _ p1 => .inl (.inl (p1.1 _ _ ert))) (fun i x G ex p1 => ?_) (fun G p1 => ?_)
    · obtain ⟨sG, eD⟩ := p1
      have hi := (List.getElem?_eq_some_iff.mp ex).1
      rw [List.length_map] at hi
      have ei : rs[i]? = some rs[i] := List.getElem?_eq_getElem hi
      rw [List.getElem?_map, ei] at ex
      have ex2 := Option.some.inj ex
      subst ex2
      refine ⟨rfl, tyes_if ⟨_, rfl, .int rs[i], rfl, _, rs[i], rfl, rfl, ?_⟩⟩
      refine ⟨_, eD, ?_, fun b o hb => ?_, ?_⟩
      · rw [List.length_map, List.length_map, List.length_take]
        exact small300 (by omega)
      · rw [upd_ne (ne_of_none hb nD)]
        exact sG _ _ hb
      · rw [upd_same, List.take_add_one, ei, List.map_append, List.map_append]
        rfl
    · obtain ⟨sG, eD⟩ := p1
      rw [List.length_map, List.take_length, ← ed] at eD
      have xG := x1.trans (x3.trans (same_extN (s4.trans (s5.trans sG))))
      refine ⟨D, _, rfl, .inl ⟨.inl (.inl eD), fun ft nft => ?_⟩⟩
      have s9 := same_new (o := .tup ((dyn pl ss d).map V.int)) nft
      exact qq _ ft (xG.trans (same_extN s9)) (tabs_same (tabs_same t3 (s4.trans (s5.trans sG))) s9) ((newN_of nft).back xG) upd_same
def spFarStock (T : Tx K mg) : Sp := fun vs H Q _ => ∃ (p q : Addr) (pl ss : List Int) (d : Nat), vs = [.ref p, .ref q, .int (d : Int)] ∧ PlantAt H p pl ∧ H q = some (.tup (ss.map V.int)) ∧ ss.length = pl.length + 1 ∧ ss.Nodup ∧ Tabs T.tabW H ∧
  ∀ (H' : Hp) (ot : Addr), ExtN H H' → Tabs T.tabW H' → NewN H ot → H' ot = some (.tup ((dyn pl ss d).map V.int)) → Q (.ref ot) H'
theorem Tx.farStock (T : Tx K mg) (B : TabB base mg T.c_words_by_age T.P_words_by_age) (B2 : TabB base mg T.c_oldest_giver T.P_oldest_giver) {k : Nat} : FnOk P w K mg base CX0 (k + 9) T.f_far_stock T.d_far_stock ["plant", "stock", "days"] (spFarStock T) :=
  fnOk_of (T.farStockS B B2) fun vs H Q E h => let ⟨p, q, pl, ss, d, e, hP, hq, r⟩ := h; ⟨p, q, pl, ss, d, e, hP, .inl hq, r⟩
def spFarChain (T : Tx K mg) : Sp := fun vs H Q _ => ∃ (p q : Addr) (pl ss : List Int) (d : Nat), vs = [.ref p, .ref q, .int ((d + 1 : Nat) : Int)] ∧ PlantAt H p pl ∧ H q = some (.tup (ss.map V.int)) ∧ ss.length = pl.length + 1 ∧ ss.Nodup ∧ Tabs T.tabW H ∧
  ∀ (H' : Hp) (c : Addr), ExtN H H' → Tabs T.tabW H' → NewN H c → H' c = some (.lst ((natI (chn pl (dyn pl ss d) 0)).map V.int)) → Q (.ref c) H'
def spStockAfter (T : Tx K mg) : Sp := fun vs H Q _ => ∃ (p q : Addr) (pl ss : List Int) (d : Nat), vs = [.ref p, .ref q, .int (d : Int)] ∧ PlantAt H p pl ∧ H q = some (.tup (ss.map V.int)) ∧ ss.length = pl.length + 1 ∧ ss.Nodup ∧ d ≤ 10 ^ 30 ∧ Tabs T.tabW H ∧
  ∀ (H' : Hp) (ot : Addr), ExtN H H' → Tabs T.tabW H' → NewN H ot → H' ot = some (.tup ((dyn pl ss d).map V.int)) → Q (.ref ot) H'
def spChainOn (T : Tx K mg) : Sp := fun vs H Q _ => ∃ (p q : Addr) (pl ss : List Int) (d : Nat), vs = [.ref p, .ref q, .int ((d + 1 : Nat) : Int)] ∧ PlantAt H p pl ∧ H q = some (.tup (ss.map V.int)) ∧ ss.length = pl.length + 1 ∧ ss.Nodup ∧ d + 1 ≤ 10 ^ 30 ∧ Tabs T.tabW H ∧
  ∀ (H' : Hp) (c : Addr), ExtN H H' → Tabs T.tabW H' → NewN H c → H' c = some (.lst ((natI (chn pl (dyn pl ss d) 0)).map V.int)) → Q (.ref c) H'
/-- the chain ends at its maker -/
def spMakerOn (T : Tx K mg) : Sp := fun vs H Q _ => ∃ (p q : Addr) (pl ss : List Int) (d : Nat), vs = [.ref p, .ref q, .int ((d + 1 : Nat) : Int)] ∧ PlantAt H p pl ∧ H q = some (.tup (ss.map V.int)) ∧ ss.length = pl.length + 1 ∧ ss.Nodup ∧ d + 1 ≤ 10 ^ 30 ∧ Tabs T.tabW H ∧
  ∀ (H' : Hp), ExtN H H' → Tabs T.tabW H' → Q (.int ((lst pl (dyn pl ss d) 0 : Nat) : Int)) H'
def spBoxAt (T : Tx K mg) : Sp := fun vs H Q _ => ∃ (p q : Addr) (pl ss : List Int) (v d : Nat), vs = [.ref p, .ref q, .int (v : Int), .int (d : Int)] ∧ PlantAt H p pl ∧ H q = some (.tup (ss.map V.int)) ∧ ss.length = pl.length + 1 ∧ ss.Nodup ∧ v ≤ pl.length ∧ d ≤ 10 ^ 30 ∧ Tabs T.tabW H ∧
  ∀ (H' : Hp), ExtN H H' → Tabs T.tabW H' → Q (.int (bx (dyn pl ss d) v)) H'
end
end PT


set_option maxHeartbeats 4000000
/-! live plants: the methods -/
namespace PT
open PySem PySem.Spec PyProof.Rows L2 LamX NdefX
theorem codeO_ins {c : Addr} {q : Str} (C dx : Addr) (fs : List (Str × V)) : CodeO c q ≠ .ins C dx fs := fun h => by cases h
theorem tabs_bar2 {T : List (Addr × Str)} {C : Addr} {H H' : Hp} {x r p q : Addr} {pl ss : List Int} {es : List Ent} (h : Tabs T H) (L : LiveAt C H x r p q pl ss es) (k : Bar2 x r H H') : Tabs T H' := fun t ht => by
  obtain ⟨dx, e1⟩ := L.ob
  obtain ⟨vs, e2, _⟩ := L.pa
  obtain ⟨ps, h1, h2, h3⟩ := h t ht
  refine ⟨ps, k _ _ (fun z => ?_) (fun z => ?_) h1, h2, fun pos cv hc => ?_⟩
  · rw [z, e1] at h1
    cases h1
  · rw [z, e2] at h1
    cases h1
  · obtain ⟨c, e3, e4⟩ := h3 pos cv hc
    refine ⟨c, e3, k _ _ (fun z => ?_) (fun z => ?_) e4⟩
    · rw [z, e1] at e4
      exact codeO_ins _ _ _ (Option.some.inj e4).symm
    · rw [z, e2] at e4
      exact codeO_lst vs (Option.some.inj e4).symm
/-- all but the object, its list and tables are kept -/
def BarL (x r : Addr) (H H' : Hp) : Prop := ∀ c o, c ≠ x → c ≠ r → H c = some o → (∀ ps, o ≠ .tbl ps) → H' c = some o
theorem BarL.refl (x r : Addr) (H : Hp) : BarL x r H H := fun _ _ _ _ h _ => h
theorem BarL.trans {x r : Addr} {H H1 H2 : Hp} (a : BarL x r H H1) (b : BarL x r H1 H2) : BarL x r H H2 := fun c o h1 h2 h z => b c o h1 h2 (a c o h1 h2 h z) z
theorem Bar2.barL {x r : Addr} {H H' : Hp} (e : Bar2 x r H H') : BarL x r H H' := fun c o h1 h2 h _ => e c o h1 h2 h
theorem extN_barL {x r : Addr} {H H' : Hp} (e : ExtN H H') : BarL x r H H' := fun c o _ _ h z => e c o h z
theorem extN_kt {H H' : Hp} (e : ExtN H H') : KT H H' := fun c _ h => extN_tup e h
theorem BarL.kt {C : Addr} {H H' : Hp} {x r p q : Addr} {pl ss : List Int} {es : List Ent} (b : BarL x r H H') (h : LiveAt C H x r p q pl ss es) : KT H H' := fun c xs e => b c _ (h.neT e).1 (h.neT e).2 e (fun _ z => by cases z)
theorem BarL.extN {x r : Addr} {H0 H H' : Hp} (b : BarL x r H H') (e : ExtN H0 H) (nx : H0 x = none) (nr : H0 r = none) : ExtN H0 H' := fun c o h z => b c o (ne_of_none h nx) (ne_of_none h nr) (e c o h z) z
theorem LiveAt.ext {C : Addr} {H H' : Hp} {x r p q : Addr} {pl ss : List Int} {es : List Ent} (h : LiveAt C H x r p q pl ss es) (s : ExtN H H') : LiveAt C H' x r p q pl ss es :=
  let ⟨_, e⟩ := h.ob; let ⟨_, e2, _⟩ := h.pa; h.mv (extN_kt s) ((s _ _ e (fun _ z => by cases z)).trans e.symm) ((extN_lst s e2).trans e2.symm)
section
variable {P : Program} {w : World} {K : PySem.W.Frag} {mg : Str → Option Value} {base : Heap}
/-! ### what is asked -/
def spLvPlant (T : Tx K mg) : Sp := fun vs H Q _ => ∃ (x p q r : Addr), vs = [.ref x] ∧ (∃ dx, H x = some (.ins T.x_LivePlant dx (lvF p q r))) ∧ Q (.ref p) H
def spLvStock (T : Tx K mg) : Sp := fun vs H Q _ => ∃ (x p q r : Addr), vs = [.ref x] ∧ (∃ dx, H x = some (.ins T.x_LivePlant dx (lvF p q r))) ∧ Q (.ref q) H
theorem ok_lv_stock (T : Tx K mg) : FnOk P w K mg base CX0 1 T.f_lv_stock T.d_lv_stock ["self"] (spLvStock T) := by
  refine T.F_lv_stock.ok scLvStock (fun vs H Q E h => ?_) (fun cdv A outer s H vs Q E hr h => ?_)
  · obtain ⟨x, p, q, r, rfl, _⟩ := h
    rfl
  · obtain ⟨x, p, q, r, rfl, ⟨dx, e⟩, k⟩ := h
    have nd := scLvStock.nd
    refine ⟨_, (pss_one (ps_ret (pe_fld (pv 0) rfl))), ?_⟩
    exact ⟨_, rfl, x, _, dx, _, _, rfl, e, T.C_LivePlant, T.a_boxes, lvF_b _ _ _, k⟩
/-! ### an operation is kept, and what was before it -/
def spLvChange (T : Tx K mg) : Sp := fun vs H Q _ => ∃ (x r p q p2 q2 : Addr) (pl ss pl2 ss2 : List Int) (es : List Ent) (o : V) (op : Op), vs = [.ref x, o, .ref p2, .ref q2] ∧ LiveAt T.x_LivePlant H x r p q pl ss es ∧ StAt H p2 q2 pl2 ss2 ∧ OpAt H o op ∧ es.length ≤ 1000 ∧
  ∀ H', Bar2 x r H H' → LiveAt T.x_LivePlant H' x r p2 q2 pl2 ss2 (es ++ [⟨op, pl, ss⟩]) → Q .non H'
theorem ok_lv_change (T : Tx K mg) : FnOk P w K mg base CX0 1 T.f_lv_change T.d_lv_change ["self", "operation", "customers", "boxes"] (spLvChange T) := by
  refine T.F_lv_change.ok scLvChange (fun vs H Q E h => ?_) (fun cdv A outer s H vs Q E hr h => ?_)
  · obtain ⟨x, r, p, q, p2, q2, pl, ss, pl2, ss2, es, o, op, rfl, _⟩ := h
    rfl
  · obtain ⟨x, r, p, q, p2, q2, pl, ss, pl2, ss2, es, o, op, rfl, L, S2, hop, hl, k⟩ := h
    have nd := scLvChange.nd
    refine ⟨_, (pss_cons (ps_expr (pe_bm PySem.F.plainAttrs_list PySem.F.slot_list_append PySem.F.type_list_append mt_append (pe_fld (pv 0) rfl) (pa_cons (pe_tup (pa_cons (pv 1) (pa_cons (pe_fld (pv 0) rfl) (pa_cons (pe_fld (pv 0) rfl) pa_nil)))) pa_nil)))
(pss_cons (ps_fld (pv 0) (pv 2) rfl)
(pss_one (ps_fld (pv 0) (pv 3) rfl)))), ?_⟩
    have L0 := L
    obtain ⟨⟨dx, e⟩, St, ⟨vs, er, pa⟩⟩ := L0
    have xr := L.xr
    refine ⟨.ref x, rfl, x, _, dx, _, _, rfl, e, T.C_LivePlant, T.a_past, lvF_p _ _ _, .inl ⟨rfl, vs, .inl (.inl er)⟩, o, rfl, .ref x, rfl, x, _, dx, _, _, rfl, e, T.C_LivePlant, T.a_customers, lvF_c _ _ _, .ref x, rfl, x, _, dx, _, _, rfl, e, T.C_LivePlant, T.a_boxes, lvF_b _ _ _, (by show 3 ≤ sizeLine; decide), fun t nt => ?_⟩
    have st := same_new (o := .tup [o, V.ref p, .ref q]) nt
    have xt : x ≠ t := ne_of_none e nt
    have rt : r ≠ t := ne_of_none er nt
    refine ⟨r, vs, .ref t, rfl, rfl, st _ _ er, ?_, ?_⟩
    · rw [pa.len]; have := small1000 (n := es.length) hl; omega
    refine ⟨.ref p2, rfl, .ref x, rfl, x, _, dx, _, rfl, (by rw [upd_ne xr, upd_ne xt]; exact e), T.C_LivePlant, T.a_customers, (by show 3 < 1000; decide), .ref q2, rfl, .ref x, rfl, x, _, dx, _, rfl, upd_same, T.C_LivePlant, T.a_boxes, (by rw [lvF_putC]; show 3 < 1000; decide), ?_⟩
    rw [lvF_putC, lvF_putB]
    have ne : ∀ c, c ≠ x → c ≠ r → (upd (upd (upd (upd H t (.tup [o, V.ref p, .ref q])) r (.lst (vs ++ [.ref t]))) x (.ins T.x_LivePlant dx (lvF p2 q r))) x (.ins T.x_LivePlant dx (lvF p2 q2 r))) c = upd H t (.tup [o, V.ref p, .ref q]) c := fun c h1 h2 => by rw [upd_ne h1, upd_ne h1, upd_ne h2]
    have b : Bar2 x r H _ := fun c o' h1 h2 h => (ne c h1 h2).trans (st c o' h)
    have kt := b.kt L
    refine k _ b ⟨⟨dx, upd_same⟩, S2.kt kt, ⟨vs ++ [.ref t], ?_, (pa.kt kt).snoc ⟨t, o, p, q, rfl, ?_, hop.kt kt, St.kt kt⟩⟩⟩
    · rw [upd_ne (Ne.symm xr), upd_ne (Ne.symm xr), upd_same]
    · rw [ne t (Ne.symm xt) (Ne.symm rt), upd_same]
end
end PT


set_option maxHeartbeats 4000000
/-! live plants: made, changed, undone -/
namespace PT
open PySem PySem.Spec PyProof.Rows L2 LamX NdefX
section
variable {P : Program} {w : World} {K : PySem.W.Frag} {mg : Str → Option Value} {base : Heap}
def spLvInit (T : Tx K mg) : Sp := fun vs H Q _ => ∃ (x p q dx : Addr) (pl ss : List Int), vs = [.ref x, .ref p, .ref q] ∧ H x = some (.ins T.x_LivePlant dx []) ∧ StAt H p q pl ss ∧
  ∀ (H' : Hp) (r : Addr), (∀ c o, c ≠ x → H c = some o → H' c = some o) → H r = none → LiveAt T.x_LivePlant H' x r p q pl ss [] → Q .non H'
theorem ok_lv_init (T : Tx K mg) : FnOk P w K mg base CX0 5 T.f_lv_init T.d_lv_init ["self", "plant", "stock"] (spLvInit T) := by
  refine okK T.F_lv_init scLvInit (fun vs H Q E h => ?_) (fun cdv A outer s H vs Q E hr h => ?_)
  · obtain ⟨x, p, q, dx, pl, ss, rfl, _⟩ := h
    rfl
  · obtain ⟨x, p, q, dx, pl, ss, rfl, e, St, k⟩ := h
    have nd := scLvInit.nd
    have lp := St.P.ok.len
    have ls := St.ls
    refine ⟨_, (pss_cons (ps_expr (pe_call (T.checkPlant (k := 0)) (hr.mono (by omega)) (by rfl) T.g_check_plant T.F_check_plant.kp T.b_check_plant .nil pass0 (pa_cons (pv 1) pa_nil)))
(pss_cons (ps_if (pt_cmpR op_isN (pv 2) pe_non (nomark _))
(pss_one (ps_set (i := 2) nd rfl (.inl rfl) (pe_tupRg rfl (by rfl) T.n_tuple (prg_1 (by rfl) T.n_range (pe_op op_add (pe_callB call_len_seq (by rfl) T.n_len PySem.boot_len (pa_cons (pv 1) pa_nil)) pe_int))))) pss_nil)
(pss_cons (ps_expr (pe_call (T.checkStock (k := 0)) (hr.mono (by omega)) (by rfl) T.g_check_stock T.F_check_stock.kp T.b_check_stock .nil pass0 (pa_cons (pv 1) (pa_cons (pv 2) pa_nil))))
(pss_cons (ps_fld (pv 0) (pv 1) rfl)
(pss_cons (ps_fld (pv 0) (pv 2) rfl)
(pss_one (ps_fld (pv 0) (pe_lst pa_nil) rfl))))))), ?_⟩
    refine ⟨.ref p, rfl, .ref p, rfl, St.P.fits, fun G1 s1 => ?_⟩
    refine ⟨.ref q, rfl, rfl, _, rfl, iteF ?_⟩
    refine ⟨.ref p, rfl, .ref q, rfl, p, q, pl.map V.int, ss, rfl, seqT s1 St.P.seq, s1 _ _ St.S, by rw [List.length_map]; exact St.ls, by omega, St.nd, fun G2 s2 => ?_⟩
    have s12 := s1.trans s2
    have e2 := s12 _ _ e
    refine ⟨.ref p, rfl, .ref x, rfl, x, _, dx, _, rfl, e2, T.C_LivePlant, T.a_customers, (by show 0 < 1000; decide), .ref q, rfl, .ref x, rfl, x, _, dx, _, rfl, upd_same, T.C_LivePlant, T.a_boxes, (by show 1 < 1000; decide), Nat.zero_le _, fun r nr => ?_⟩
    have xr : x ≠ r := fun z => by rw [← z, upd_same] at nr; cases nr
    refine ⟨.ref x, rfl, x, _, dx, _, rfl, (upd_ne xr).trans upd_same, T.C_LivePlant, T.a_past, ?_, ?_⟩
    · refine Nat.lt_of_le_of_lt (length_putF _ _ _) ?_
      show 1 + 1 < 1000
      decide
    rw [lvF_made]
    have nr2 : G2 r = none := by
      rw [upd_ne (Ne.symm xr), upd_ne (Ne.symm xr)] at nr
      exact nr
    have kp : ∀ c o, c ≠ x → H c = some o → (upd (upd (upd (upd G2 x (.ins T.x_LivePlant dx (putF "customers" (.ref p) []))) x (.ins T.x_LivePlant dx (putF "boxes" (.ref q) (putF "customers" (.ref p) [])))) r (.lst [])) x (.ins T.x_LivePlant dx (lvF p q r))) c = some o := fun c o h1 h => by
      have z := s12 _ _ h
      rw [upd_ne h1, upd_ne (ne_of_none z nr2), upd_ne h1, upd_ne h1]
      exact z
    have kt : KT H _ := fun c xs h => kp c _ (ne_of h e (by intro z; cases z)) h
    exact k _ r kp (s12.free nr2) ⟨⟨dx, upd_same⟩, St.kt kt, ⟨[], (upd_ne (Ne.symm xr)).trans upd_same, .nil⟩⟩
/-! ### a sale at a station -/
theorem day_ln {pl ss : List Int} (hs : ss.length = pl.length + 1) (hn : ss.Nodup) {j : Nat} (hj : j ≤ pl.length) : (day pl ss j).2.length = pl.length + 1 ∧ (day pl ss j).2.Nodup := by
  have z := day_ok hs hn hj
  exact ⟨z.1, z.2.1⟩
def spLvPull (T : Tx K mg) : Sp := fun vs H Q _ => ∃ (x r p q : Addr) (pl ss : List Int) (es : List Ent) (o : V) (op : Op) (j : Nat), vs = [.ref x, o, .int (j : Int)] ∧ LiveAt T.x_LivePlant H x r p q pl ss es ∧ OpAt H o op ∧ j ≤ pl.length ∧ es.length ≤ 1000 ∧ Tabs T.tabW H ∧
  ∀ (H' : Hp) (q2 : Addr), BarL x r H H' → Tabs T.tabW H' → LiveAt T.x_LivePlant H' x r p q2 pl (day pl ss j).2 (es ++ [⟨op, pl, ss⟩]) → Q (.int (bx ss j)) H'
theorem ok_lv_pull (T : Tx K mg) (B2 : TabB base mg T.c_oldest_giver T.P_oldest_giver) : FnOk P w K mg base CX0 8 T.f_lv_pull T.d_lv_pull ["self", "operation", "first"] (spLvPull T) := by
  refine T.F_lv_pull.ok scLvPull (fun vs H Q E h => ?_) (fun cdv A outer s H vs Q E hr h => ?_)
  · obtain ⟨x, r, p, q, pl, ss, es, o, op, j, rfl, _⟩ := h
    rfl
  · obtain ⟨x, r, p, q, pl, ss, es, o, op, j, rfl, L, hop, hj, hl, hT, k⟩ := h
    have nd := scLvPull.nd
    refine ⟨_, (pss_cons (ps_set (i := 3) nd rfl (.inl rfl) (pe_callTy call_list_of (by rfl) T.n_list (by decide +kernel) (pa_cons (pe_fld (pv 0) rfl) pa_nil)))
(pss_cons (ps_asg (pe_call (T.passDayJ B2 (k := 0)) (hr.mono (by omega)) (by rfl) T.g_pass_day T.F_pass_day.kp T.w_pass_day .nil pass0 (pa_cons (pe_call (ok_lists T) (hr.mono (by omega)) (by rfl) T.g_supplier_lists T.F_supplier_lists.kp T.b_supplier_lists .nil pass0 (pa_cons (pe_fld (pv 0) rfl) pa_nil)) (pa_cons (pv 3) (pa_cons (pv 2) pa_nil)))) (pg_tup (by rfl) (pgs_cons (pg_name (i := 4) nd rfl (.inl rfl)) (pgs_cons (pg_name (i := 5) nd rfl (.inl rfl)) pgs_nil))))
(pss_cons (ps_expr (pe_meth (pv 0) T.C_LivePlant T.M_lv_change (ok_lv_change T) (hr.mono (by omega)) T.b_lv_change .nil pass0 (pa_cons (pv 1) (pa_cons (pe_fld (pv 0) rfl) (pa_cons (pe_callTy call_tuple_of (by rfl) T.n_tuple (by decide +kernel) (pa_cons (pv 3) pa_nil)) pa_nil)))))
(pss_one (ps_ret (pv 4)))))), ?_⟩
    obtain ⟨dx, e⟩ := L.ob
    have St := L.st
    have ls := St.ls
    refine ⟨.ref x, rfl, x, _, dx, _, _, rfl, e, T.C_LivePlant, T.a_boxes, lvF_b _ _ _, q, _, rfl, .inr (.inl (.inl St.S)), fun b nb => ?_⟩
    have s1 := same_new (o := .lst (ss.map V.int)) nb
    refine ⟨.ref x, rfl, x, _, dx, _, _, rfl, s1 _ _ e, T.C_LivePlant, T.a_customers, lvF_c _ _ _, p, pl, rfl, St.P.same s1, fun H1 g as R => ?_⟩
    have R0 := R.rows
    have s2 := s1.trans R.sm
    have eb := R.sm _ _ (upd_same (a := b) (H := H))
    have gb : g ≠ b := fun e => by
      have z := R.nl
      rw [e, upd_same] at z
      cases z
    have bas : b ∉ as := fun h => by
      have z := R.new b h
      rw [upd_same] at z
      cases z
    refine ⟨.ref b, rfl, .int (j : Int), rfl, g, b, j, pl, ss, as, rfl, St.P.ok, hj, R0, gb, bas, eb, ls, tabs_same hT s2, fun H2 t c bN t2 nc nt eb2 ec et => ?_⟩
    refine ⟨t, _, rfl, .inl (.inl et), rfl, _, _, rfl, _, _, rfl, rfl, ?_⟩
    have x2 : ExtN H H2 := bN.extN' nb (same_extN s2)
    have L2 := L.ext x2
    obtain ⟨dx2, e2⟩ := L2.ob
    have hd := day_ln ls St.nd hj
    refine ⟨.ref x, rfl, x, dx2, _, rfl, e2, lvF_no _ _ _ (by decide +kernel) (by decide +kernel) (by decide +kernel), o, rfl, .ref x, rfl, x, _, dx2, _, _, rfl, e2, T.C_LivePlant, T.a_customers, lvF_c _ _ _, .ref b, rfl, b, _, rfl, .inl ⟨.inl (.inl eb2), fun q2 nq => ?_⟩⟩
    have s3 := same_new (o := .tup ((day pl ss j).2.map V.int)) nq
    have L3 := L2.same s3
    refine ⟨x, r, p, q, p, q2, pl, ss, pl, (day pl ss j).2, es, o, op, rfl, L3, ⟨L3.st.P, upd_same, hd.1, hd.2⟩, hop.kt (KT.trans (extN_kt x2) (Same.kt s3)), hl, fun H4 b4 L4 => ?_⟩
    exact ⟨_, rfl, k H4 q2 ((extN_barL (x2.trans (same_extN s3))).trans b4.barL) (tabs_bar2 (tabs_same t2 s3) L3 b4) L4⟩
/-! ### days -/
def opDay : Op := ("day", [])
def opDays (d : Nat) : Op := ("days", [(d : Int)])
def spLvDay (T : Tx K mg) : Sp := fun vs H Q _ => ∃ (x r p q : Addr) (pl ss : List Int) (es : List Ent), vs = [.ref x] ∧ LiveAt T.x_LivePlant H x r p q pl ss es ∧ es.length ≤ 1000 ∧ Tabs T.tabW H ∧
  ∀ (H' : Hp) (q2 : Addr), BarL x r H H' → Tabs T.tabW H' → LiveAt T.x_LivePlant H' x r p q2 pl (dyn pl ss 1) (es ++ [⟨opDay, pl, ss⟩]) → Q (.int (bx ss 0)) H'
theorem ok_lv_day (T : Tx K mg) (B2 : TabB base mg T.c_oldest_giver T.P_oldest_giver) : FnOk P w K mg base CX0 9 T.f_lv_day T.d_lv_day ["self"] (spLvDay T) := by
  refine T.F_lv_day.ok scLvDay (fun vs H Q E h => ?_) (fun cdv A outer s H vs Q E hr h => ?_)
  · obtain ⟨x, r, p, q, pl, ss, es, rfl, _⟩ := h
    rfl
  · obtain ⟨x, r, p, q, pl, ss, es, rfl, L, hl, hT, k⟩ := h
    have nd := scLvDay.nd
    refine ⟨_, (pss_one (ps_ret (pe_meth (pv 0) T.C_LivePlant T.M_lv_pull (ok_lv_pull T B2) (hr.mono (by omega)) T.b_lv_pull .nil pass0 (pa_cons (pe_tup (pa_cons pe_str pa_nil)) (pa_cons pe_int pa_nil))))), ?_⟩
    obtain ⟨dx, e⟩ := L.ob
    refine ⟨.ref x, rfl, x, dx, _, rfl, e, lvF_no _ _ _ (by decide +kernel) (by decide +kernel) (by decide +kernel), (by show 1 ≤ sizeLine; decide), fun o no => ?_⟩
    have s1 := same_new (o := .tup [V.str "day"]) no
    refine ⟨x, r, p, q, pl, ss, es, .ref o, opDay, 0, rfl, L.same s1, ⟨o, rfl, upd_same⟩, Nat.zero_le _, hl, tabs_same hT s1, fun H2 q2 b2 t2 L2 => k H2 q2 ((extN_barL (same_extN s1)).trans b2) t2 L2⟩
def spLvDays (T : Tx K mg) : Sp := fun vs H Q _ => ∃ (x r p q : Addr) (pl ss : List Int) (es : List Ent) (d : Nat), vs = [.ref x, .int (d : Int)] ∧ LiveAt T.x_LivePlant H x r p q pl ss es ∧ 1 ≤ d ∧ d ≤ 10 ^ 30 ∧ es.length ≤ 1000 ∧ Tabs T.tabW H ∧
  ∀ (H' : Hp) (q2 : Addr), BarL x r H H' → Tabs T.tabW H' → LiveAt T.x_LivePlant H' x r p q2 pl (dyn pl ss d) (es ++ [⟨opDays d, pl, ss⟩]) → Q .non H'
theorem ok_lv_days (T : Tx K mg) (B : TabB base mg T.c_words_by_age T.P_words_by_age) (B2 : TabB base mg T.c_oldest_giver T.P_oldest_giver) : FnOk P w K mg base CX0 12 T.f_lv_days T.d_lv_days ["self", "days"] (spLvDays T) := by
  refine T.F_lv_days.ok scLvDays (fun vs H Q E h => ?_) (fun cdv A outer s H vs Q E hr h => ?_)
  · obtain ⟨x, r, p, q, pl, ss, es, d, rfl, _⟩ := h
    rfl
  · obtain ⟨x, r, p, q, pl, ss, es, d, rfl, L, h1, h30, hl, hT, k⟩ := h
    have nd := scLvDays.nd
    refine ⟨_, (pss_cons (ps_expr (pe_call (T.checkDays (k := 0)) (hr.mono (by omega)) (by rfl) T.g_check_days T.F_check_days.kp T.b_check_days .nil pass0 (pa_cons (pv 1) (pa_cons pe_int (pa_cons (pe_glob (v := .int 1000000000000000000000000000000) (by rfl) T.g_FARTHEST_DAY ⟨_, rfl⟩) pa_nil)))))
(pss_one (ps_expr (pe_meth (pv 0) T.C_LivePlant T.M_lv_change (ok_lv_change T) (hr.mono (by omega)) T.b_lv_change .nil pass0 (pa_cons (pe_tup (pa_cons pe_str (pa_cons (pv 1) pa_nil))) (pa_cons (pe_fld (pv 0) rfl) (pa_cons (pe_call (T.farStock B B2 (k := 0)) (hr.mono (by omega)) (by rfl) T.g_far_stock T.F_far_stock.kp T.b_far_stock .nil pass0 (pa_cons (pe_fld (pv 0) rfl) (pa_cons (pe_fld (pv 0) rfl) (pa_cons (pv 1) pa_nil)))) pa_nil))))))), ?_⟩
    obtain ⟨dx, e⟩ := L.ob
    have St := L.st
    refine ⟨.int (d : Int), rfl, (d : Int), 1, 10 ^ 30, rfl, by omega, by omega, ?_⟩
    refine ⟨.ref x, rfl, x, dx, _, rfl, e, lvF_no _ _ _ (by decide +kernel) (by decide +kernel) (by decide +kernel), .int (d : Int), rfl, (by show 2 ≤ sizeLine; decide), fun o no => ?_⟩
    have s1 := same_new (o := .tup [V.str "days", .int (d : Int)]) no
    have L1 := L.same s1
    obtain ⟨dx1, e1⟩ := L1.ob
    refine ⟨.ref x, rfl, x, _, dx1, _, _, rfl, e1, T.C_LivePlant, T.a_customers, lvF_c _ _ _, .ref x, rfl, x, _, dx1, _, _, rfl, e1, T.C_LivePlant, T.a_customers, lvF_c _ _ _, .ref x, rfl, x, _, dx1, _, _, rfl, e1, T.C_LivePlant, T.a_boxes, lvF_b _ _ _, .int (d : Int), rfl, p, q, pl, ss, d, rfl, L1.st.P, L1.st.S, St.ls, St.nd, tabs_same hT s1, fun H2 q2 x2 t2 n2 e2 => ?_⟩
    have L2 := L1.ext x2
    have hd := dyn_len St.ls St.nd d
    refine ⟨x, r, p, q, p, q2, pl, ss, pl, dyn pl ss d, es, .ref o, opDays d, rfl, L2, ⟨L2.st.P, e2, hd.1, hd.2⟩, ⟨o, rfl, extN_tup x2 upd_same⟩, hl, fun H4 b4 L4 => ?_⟩
    exact k H4 q2 ((extN_barL ((same_extN s1).trans x2)).trans b4.barL) (tabs_bar2 t2 L2 b4) L4
def spLvUndo (T : Tx K mg) : Sp := fun vs H Q _ => ∃ (x r p q : Addr) (pl ss : List Int) (es : List Ent) (e : Ent), vs = [.ref x] ∧ LiveAt T.x_LivePlant H x r p q pl ss (es ++ [e]) ∧ es.length ≤ 1000 ∧
  ∀ (H' : Hp) (p2 q2 : Addr), Bar2 x r H H' → LiveAt T.x_LivePlant H' x r p2 q2 e.pl e.ss es → Q .non H'
theorem ok_lv_undo (T : Tx K mg) : FnOk P w K mg base CX0 1 T.f_lv_undo T.d_lv_undo ["self"] (spLvUndo T) := by
  refine T.F_lv_undo.ok scLvUndo (fun vs H Q E h => ?_) (fun cdv A outer s H vs Q E hr h => ?_)
  · obtain ⟨x, r, p, q, pl, ss, es, e, rfl, _⟩ := h
    rfl
  · obtain ⟨x, r, p, q, pl, ss, es, en, rfl, L, hl, k⟩ := h
    have nd := scLvUndo.nd
    refine ⟨_, (pss_cons (ps_if (pt_cmpR op_eq (pe_callB call_len_seq (by rfl) T.n_len PySem.boot_len (pa_cons (pe_fld (pv 0) rfl) pa_nil)) pe_int (nomark _))
(pss_one ps_never) pss_nil)
(pss_one (ps_asg (pe_bm0 PySem.F.plainAttrs_list PySem.F.slot_list_pop PySem.F.type_list_pop mt_pop (pe_fld (pv 0) rfl) ) (pg_tup (by rfl) (pgs_cons (pg_name (i := 1) nd rfl (.inl rfl)) (pgs_cons (pg_fld (pv 0)) (pgs_cons (pg_fld (pv 0)) pgs_nil))))))), ?_⟩
    obtain ⟨dx, e⟩ := L.ob
    obtain ⟨vs, er, pa⟩ := L.pa
    have xr := L.xr
    obtain ⟨us, u, rfl, pu, a, o, p2, q2, rfl, ea, ho, S2⟩ := pa.dropLast
    have lu := pu.len
    refine ⟨.ref x, rfl, x, _, dx, _, _, rfl, e, T.C_LivePlant, T.a_past, lvF_p _ _ _, r, _, rfl, .inl (.inl (.inl er)), rfl, _, rfl, ?_⟩
    have ne : decide (V.int (((us ++ [V.ref a]).length : Nat) : Int) = V.int 0) = false := decide_eq_false fun z => by
      have z := V.int.inj z
      rw [List.length_append] at z
      have : ([V.ref a] : List V).length = 1 := rfl
      omega
    rw [ne]
    refine iteF ?_
    have hx : x ≠ a := ne_of e ea (by intro z; cases z)
    have hra : r ≠ a := ne_of er ea (by intro z; cases z)
    have elast : (us ++ [V.ref a])[(us ++ [V.ref a]).length - 1]? = some (.ref a) := by
      rw [List.length_append]
      show (us ++ [V.ref a])[us.length + 1 - 1]? = _
      rw [Nat.add_sub_cancel, List.getElem?_append_right (Nat.le_refl _), Nat.sub_self]
      rfl
    refine ⟨.ref x, rfl, x, _, dx, _, _, rfl, e, T.C_LivePlant, T.a_past, lvF_p _ _ _, .inl ⟨rfl, _, .inl (.inl er)⟩, r, _, .ref a, rfl, rfl, er, elast, ?_⟩
    have ed : (us ++ [V.ref a]).dropLast = us := List.dropLast_concat
    rw [ed]
    have e1 : upd H r (.lst us) x = some (.ins T.x_LivePlant dx (lvF p q r)) := (upd_ne xr).trans e
    refine ⟨a, _, rfl, .inl (.inl ((upd_ne (Ne.symm hra)).trans ea)), rfl, o, _, rfl, .ref p2, _, rfl, .ref x, rfl, x, _, dx, _, rfl, e1, T.C_LivePlant, T.a_customers, (by show 3 < 1000; decide), .ref q2, _, rfl, .ref x, rfl, x, _, dx, _, rfl, upd_same, T.C_LivePlant, T.a_boxes, (by rw [lvF_putC]; show 3 < 1000; decide), rfl, ?_⟩
    rw [lvF_putC, lvF_putB]
    have ne2 : ∀ c, c ≠ x → c ≠ r → (upd (upd (upd H r (.lst us)) x (.ins T.x_LivePlant dx (lvF p2 q r))) x (.ins T.x_LivePlant dx (lvF p2 q2 r))) c = H c := fun c h1 h2 => by rw [upd_ne h1, upd_ne h1, upd_ne h2]
    have b : Bar2 x r H _ := fun c o' h1 h2 h => (ne2 c h1 h2).trans h
    have kt := b.kt L
    refine k _ p2 q2 b ⟨⟨dx, upd_same⟩, S2.kt kt, ⟨us, ?_, pu.kt kt⟩⟩
    rw [upd_ne (Ne.symm xr), upd_ne (Ne.symm xr), upd_same]
end
end PT


set_option maxHeartbeats 4000000
set_option exponentiation.threshold 5000
/-! draws out of a fount: three ints, the third one counts -/
namespace PT
open PySem PySem.Spec PyProof.Rows L2

/-- ** of great ints, to small powers -/
def CPowW (i j : Int) : Prop := 0 ≤ j ∧ j ≤ 10 ∧ i.natAbs < 2 ^ 4000
theorem op_powW {X : Cx} : OpR X (binaryOp .Pow) (rI CPowW fun i j => .int (i ^ j.toNat)) := opI fun i j _ _ _ _ _ hc q => pow_int hc.1 (by
  have h1 : Builtin.Int.intBits i ≤ i.natAbs.log2 + 1 := by
    unfold Builtin.Int.intBits
    split <;> omega
  have h2 := PySem.Flt.log2_lt_of (by decide) hc.2.2
  have h3 := hc.1
  have h4 := hc.2.1
  have h5 : (Builtin.Int.intBits i : Int) ≤ 4000 := by omega
  have h6 : (Builtin.Int.intBits i : Int) * j ≤ 4000 * 10 := Int.mul_le_mul h5 h4 h3 (by decide)
  have h7 : (4000 * 10 : Int) ≤ 2 ^ 27 := by decide
  omega) q
theorem pow_small {i : Int} (h0 : 0 ≤ i) (h1 : i < 10 ^ 60) {j : Int} (j0 : 0 ≤ j) (j1 : j ≤ 10) : CPowW i j := ⟨j0, j1, Nat.lt_trans (show i.natAbs < 10 ^ 60 by omega) (by decide)⟩
/-- a fount: a list of three ints; at most n draws so far -/
def PotAt (H : Hp) (b : Addr) (n : Nat) : Prop := ∃ x y z : Int, H b = some (.lst [.int x, .int y, .int z]) ∧ 0 ≤ y ∧ y < 10 ^ 45 ∧ 0 ≤ z ∧ z ≤ n
theorem PotAt.same {H H' : Hp} {b : Addr} {n : Nat} (e : Same H H') (h : PotAt H b n) : PotAt H' b n := let ⟨x, y, z, q, r⟩ := h; ⟨x, y, z, e _ _ q, r⟩
theorem PotAt.mono {H : Hp} {b : Addr} {n m : Nat} (h : PotAt H b n) (l : n ≤ m) : PotAt H b m := let ⟨x, y, z, q, a, b, c, d⟩ := h; ⟨x, y, z, q, a, b, c, by omega⟩
theorem PotAt.isL {H : Hp} {b : Addr} {n : Nat} (h : PotAt H b n) : ∃ xs, H b = some (.lst xs) := let ⟨x, y, z, q, _⟩ := h; ⟨_, q⟩
theorem PotAt.some {H : Hp} {b c : Addr} {n : Nat} (h : PotAt H b n) (e : H c = none) : c ≠ b := fun z => by
  obtain ⟨x, y, w, q, _⟩ := h
  rw [z, q] at e
  cases e
theorem PotAt.neT {H : Hp} {b c : Addr} {n : Nat} {xs : List V} (h : PotAt H b n) (e : H c = Option.some (.tup xs)) : c ≠ b := fun z => by
  obtain ⟨ys, q⟩ := h.isL
  rw [z, q] at e
  cases e
theorem PotAt.ne0 {H : Hp} {b : Addr} {n : Nat} (h : PotAt H b n) : H b ≠ none := fun e => by
  obtain ⟨xs, z⟩ := h.isL
  rw [z] at e
  cases e
theorem Bar.freeP {b : Addr} {H H' : Hp} {n : Nat} (e : Bar b H H') (hb2 : PotAt H' b n) {l : Addr} (n : H' l = none) : H l = none := by
  cases q : H l with
  | none => rfl
  | some o =>
    by_cases c : l = b
    · exact absurd c (hb2.some n)
    · rw [e l o c q] at n
      cases n
theorem big_lt {m : Int} (h0 : 0 < m) (h1 : m < 10 ^ 40) : m.natAbs < 2 ^ 140 := by
  have z : m.natAbs < 10 ^ 40 := by omega
  exact Nat.lt_trans z (by decide)
theorem pot41 : (0 : Int) < 10 ^ (Int.toNat 43) + 103 := by decide
theorem pot40 : (0 : Int) < 10 ^ (Int.toNat 41) + 109 := by decide
section
variable {P : Program} {w : World} {K : PySem.W.Frag} {mg : Str → Option Value} {base : Heap}
def spSip : Sp := fun vs H Q _ => ∃ (b : Addr) (m : Int) (n : Nat), vs = [.ref b, .int m] ∧ 0 < m ∧ m < 10 ^ 40 ∧ PotAt H b n ∧ n ≤ 1000000000000 ∧ ∀ (r : Int) (H' : Hp), 0 ≤ r → r < m → PotAt H' b (n + 1) → Bar b H H' → (∀ c, c ≠ b → H' c = H c) → Q (.int r) H'
theorem ok_sip (T : Tx K mg) : FnOk P w K mg base CX0 1 T.f__law_sip T.d__law_sip ["fount", "many"] spSip := by
  refine T.F__law_sip.ok scLawSip (fun vs H Q E h => ?_) (fun cdv A outer s H vs Q E hr h => ?_)
  · obtain ⟨b, m, n, rfl, _⟩ := h
    rfl
  · obtain ⟨b, m, n, rfl, h0, h1, ⟨x, y, z, hb, y0, y1, z0, z1⟩, hn, q⟩ := h
    have nd := scLawSip.nd
    refine ⟨_, pss_cons (ps_if (pt_cmpR op_gt (pe_ix ix_list (pv 0) pe_int (fun _ _ => rfl)) pe_int (nomark _))
        (pss_cons (ps_set (i := 2) nd rfl (.inl rfl) (pe_op op_mod (pe_ix ix_list (pv 0) pe_int (fun _ _ => rfl)) (pv 1)))
        (pss_cons (ps_asg (pe_op op_fdivW (pe_ix ix_list (pv 0) pe_int (fun _ _ => rfl)) (pv 1)) (pg_sub (pv 0) pe_int set_list))
        (pss_one (ps_ret (pv 2))))) pss_nil)
      (pss_cons (ps_asg (pe_op op_add (pe_ix ix_list (pv 0) pe_int (fun _ _ => rfl)) pe_int) (pg_sub (pv 0) pe_int set_list))
      (pss_cons (ps_set (i := 3) nd rfl (.inl rfl) (pe_op op_mod (pe_op op_powW (pe_op op_add (pe_ix ix_list (pv 0) pe_int (fun _ _ => rfl)) (pe_op op_mul pe_int (pe_ix ix_list (pv 0) pe_int (fun _ _ => rfl)))) pe_int) (pe_op op_add (pe_op op_pow pe_int pe_int) pe_int)))
      (pss_cons (ps_set (i := 3) nd rfl (.inl rfl) (pe_op op_mod (pe_op op_powW (pe_op op_add (pv 3) (pe_op op_mul pe_int (pe_ix ix_list (pv 0) pe_int (fun _ _ => rfl)))) pe_int) (pe_op op_add (pe_op op_pow pe_int pe_int) pe_int)))
      (pss_one (ps_ret (pe_op op_mod (pe_op op_fdiv (pv 3) pe_int) (pv 1))))))), ?_⟩
    have hs : SqL K H b [.int x, .int y, .int z] := .inl (.inl hb)
    refine ⟨.ref b, rfl, b, _, 0, .int x, rfl, rfl, hs, rfl, x, 0, rfl, rfl, _, rfl, ite2 (fun e => ?_) fun e => ?_⟩
    · refine ⟨.ref b, rfl, b, _, 0, .int x, rfl, rfl, hs, rfl, .int m, rfl, x, m, rfl, rfl, h0, ?_⟩
      refine ⟨.ref b, rfl, b, _, 0, .int x, rfl, rfl, hs, rfl, .int m, rfl, x, m, rfl, rfl, wide_div h0 (b := 140) (big_lt h0 h1) (by decide) (by decide), .ref b, rfl, b, _, 0, 0, rfl, rfl, hb, rfl, ?_⟩
      refine ⟨_, rfl, ?_⟩
      exact q _ _ (Int.emod_nonneg _ (by omega)) (Int.emod_lt_of_pos _ h0) ⟨x / m, y, z, upd_same, y0, y1, z0, by omega⟩ bar_upd fun c hc => upd_ne hc
    · refine ⟨.ref b, rfl, b, _, 2, .int z, rfl, rfl, hs, rfl, z, 1, rfl, rfl, .ref b, rfl, b, _, 2, 2, rfl, rfl, hb, rfl, ?_⟩
      have hs1 : SqL K (upd H b (.lst ([V.int x, .int y, .int z].set 2 (.int (z + 1))))) b [.int x, .int y, .int (z + 1)] := .inl (.inl upd_same)
      refine ⟨.ref b, rfl, b, _, 1, .int y, rfl, rfl, hs1, rfl, .ref b, rfl, b, _, 2, .int (z + 1), rfl, rfl, hs1, rfl, 67867979, z + 1, rfl, rfl, .inl ⟨by decide, by decide⟩, _, _, rfl, rfl, _, 3, rfl, rfl, pow_small (by omega) (by omega) (by decide) (by decide), ?_⟩
      refine ⟨10, 43, rfl, rfl, ⟨by decide, by decide, by decide⟩, _, 103, rfl, rfl, _, _, rfl, rfl, pot41, ?_⟩
      have t0 : 0 ≤ (y + 67867979 * (z + 1)) ^ (Int.toNat 3) % (10 ^ (Int.toNat 43) + 103) := Int.emod_nonneg _ (Int.ne_of_gt pot41)
      have t1 : (y + 67867979 * (z + 1)) ^ (Int.toNat 3) % (10 ^ (Int.toNat 43) + 103) < 10 ^ (Int.toNat 43) + 103 := Int.emod_lt_of_pos _ pot41
      have t2 : (y + 67867979 * (z + 1)) ^ (Int.toNat 3) % (10 ^ (Int.toNat 43) + 103) < 10 ^ 44 := Int.lt_of_lt_of_le t1 (by decide)
      refine ⟨_, rfl, .ref b, rfl, b, _, 2, .int (z + 1), rfl, rfl, hs1, rfl, 32452867, z + 1, rfl, rfl, .inl ⟨by decide, by decide⟩, _, _, rfl, rfl, _, 3, rfl, rfl, pow_small (by omega) (by omega) (by decide) (by decide), ?_⟩
      refine ⟨10, 41, rfl, rfl, ⟨by decide, by decide, by decide⟩, _, 109, rfl, rfl, _, _, rfl, rfl, pot40, ?_⟩
      refine ⟨_, rfl, _, 262147, rfl, rfl, ⟨by decide, by decide⟩, .int m, rfl, _, m, rfl, rfl, h0, ?_⟩
      exact q _ _ (Int.emod_nonneg _ (by omega)) (Int.emod_lt_of_pos _ h0) ⟨x, y, z + 1, upd_same, y0, y1, by omega, by omega⟩ bar_upd fun c hc => upd_ne hc
end
end PT


set_option maxHeartbeats 4000000
/-! pots, rows in another order, plants and stocks out of a pot -/
namespace PT
open PySem PySem.Spec PyProof.Rows L2
section
variable {P : Program} {w : World} {K : PySem.W.Frag} {mg : Str → Option Value} {base : Heap}
theorem pot38 : (0 : Int) < 10 ^ (Int.toNat 38) + 133 := by decide
def spFount (K : PySem.W.Frag) : Sp := fun vs H Q _ => ∃ (a : Addr) (ns : List Int) (k : Nat), vs = [.ref a, .int (k : Int)] ∧ SqL K H a (ns.map V.int) ∧ k ≤ 1000 ∧ ∀ (b : Addr) (o : HO), H b = none → PotAt (upd H b o) b 0 → Q (.ref b) (upd H b o)
theorem ok_fount (T : Tx K mg) : FnOk P w K mg base CX0 1 T.f__law_fount T.d__law_fount ["script", "k"] (spFount K) := by
  refine T.F__law_fount.ok scLawFount (fun vs H Q E h => ?_) (fun cdv A outer s H vs Q E hr h => ?_)
  · obtain ⟨a, ns, k, rfl, _⟩ := h
    rfl
  · obtain ⟨a, ns, k, rfl, hS, hk, q⟩ := h
    have nd := scLawFount.nd
    refine ⟨_, pss_cons (ps_set (i := 2) nd rfl (.inl rfl) pe_int)
      (pss_cons (ps_if (pt_cmpR op_lt (pv 1) (pe_callB call_len_seq (by rfl) T.n_len PySem.boot_len (pa_cons (pv 0) pa_nil)) (nomark _)) (pss_one (ps_set (i := 2) nd rfl (.inl rfl) (pe_ix ix_list (pv 0) (pv 1) (fun _ _ => rfl)))) pss_nil)
      (pss_one (ps_ret (pe_lst (pa_cons (pe_callB (call_max2 rfl) (by rfl) T.n_max (by decide +kernel) (pa_cons pe_int (pa_cons (pe_op op_sub (pv 2) (pe_op op_pow pe_int pe_int)) pa_nil)))
        (pa_cons (pe_op op_add (pe_op op_mul (pe_op op_mod (pv 2) (pe_op op_add (pe_op op_pow pe_int pe_int) pe_int)) pe_int) (pv 1)) (pa_cons pe_int pa_nil))))))), ?_⟩
    refine ⟨.int (k : Int), rfl, .ref a, rfl, a, _, rfl, .inl hS, (k : Int), _, rfl, rfl, _, rfl, ite2 (fun e => ?_) fun e => ?_⟩
    · have hk2 : k < ns.length := by
        have z := of_decide_eq_true e
        rw [List.length_map] at z
        omega
      refine ⟨.ref a, rfl, .int (k : Int), rfl, a, _, (k : Int), .int ns[k], rfl, rfl, hS, atI_nat (by rw [List.getElem?_map, List.getElem?_eq_getElem hk2]; rfl), ?_⟩
      generalize ns[k] = c
      refine ⟨.int c, rfl, 10, 18, rfl, rfl, ⟨by decide, by decide, by decide⟩, _, _, rfl, rfl, _, _, rfl, .int c, rfl, 10, 38, rfl, rfl, ⟨by decide, by decide, by decide⟩, _, 133, rfl, rfl, _, _, rfl, rfl, pot38, _, 512, rfl, rfl, .inr ⟨by decide, by decide⟩, .int (k : Int), rfl, _, _, rfl, rfl, (by show 3 ≤ sizeLine; decide), fun b nb => ?_⟩
      have t0 : 0 ≤ c % (10 ^ (Int.toNat 38) + 133) := Int.emod_nonneg _ (Int.ne_of_gt pot38)
      have t1 : c % (10 ^ (Int.toNat 38) + 133) < 10 ^ (Int.toNat 38) + 133 := Int.emod_lt_of_pos _ pot38
      have t2 : (10 : Int) ^ (Int.toNat 38) + 133 ≤ 10 ^ 39 := by decide
      exact q b _ nb ⟨_, _, _, upd_same, by omega, by omega, by decide, by decide⟩
    · refine ⟨.int 0, rfl, 10, 18, rfl, rfl, ⟨by decide, by decide, by decide⟩, _, _, rfl, rfl, _, _, rfl, .int 0, rfl, 10, 38, rfl, rfl, ⟨by decide, by decide, by decide⟩, _, 133, rfl, rfl, _, _, rfl, rfl, pot38, _, 512, rfl, rfl, .inr ⟨by decide, by decide⟩, .int (k : Int), rfl, _, _, rfl, rfl, (by show 3 ≤ sizeLine; decide), fun b nb => ?_⟩
      have t0 : 0 ≤ (0 : Int) % (10 ^ (Int.toNat 38) + 133) := Int.emod_nonneg _ (Int.ne_of_gt pot38)
      have t1 : (0 : Int) % (10 ^ (Int.toNat 38) + 133) < 10 ^ (Int.toNat 38) + 133 := Int.emod_lt_of_pos _ pot38
      have t2 : (10 : Int) ^ (Int.toNat 38) + 133 ≤ 10 ^ 39 := by decide
      exact q b _ nb ⟨_, _, _, upd_same, by omega, by omega, by decide, by decide⟩
/-! ### a row in another order -/
def spMixed : Sp := fun vs H Q _ => ∃ (b q : Addr) (xs : List V) (n : Nat), vs = [.ref b, .ref q] ∧ PotAt H b n ∧ n ≤ 100000000000 ∧ (H q = some (.lst xs) ∨ H q = some (.tup xs)) ∧ xs.length ≤ 300 ∧ ∀ (H' : Hp) (l : Addr) (ys : List V), PotAt H' b (n + xs.length) → Bar b H H' → H l = none → H' l = some (.lst ys) → ys.Perm xs → Q (.ref l) H'
theorem ok_mixed (T : Tx K mg) : FnOk P w K mg base CX0 2 T.f__law_mixed T.d__law_mixed ["fount", "items"] spMixed := by
  refine T.F__law_mixed.ok scLawMixed (fun vs H Q E h => ?_) (fun cdv A outer s H vs Q E hr h => ?_)
  · obtain ⟨b, q, xs, n, rfl, _⟩ := h
    rfl
  · obtain ⟨b, q, xs, n, rfl, hb, hn, hq, hl, qq⟩ := h
    have nd := scLawMixed.nd
    refine ⟨_, pss_cons (ps_set (i := 2) nd rfl (.inr rfl) (pe_callTy call_list_of (by rfl) T.n_list (by decide +kernel) (pa_cons (pv 1) pa_nil)))
      (pss_one (ps_ret (pe_lc (own := [("turn", 3)]) (g := gName 3) (tt := tYes) (te := tBM K "list" rPopAt (tVar 2) (tCons (tCall spSip [] E0 (tCons (tVar 0) (tCons (tCB (fun xs H Q => ∃ p ys, xs = [.ref p] ∧ (SqL K H p ys ∨ SqT K H p ys) ∧ Q (.int (ys.length : Int)) H) (tCons (tVar 2) tNil)) tNil))) tNil)) rfl nd (pi_range1 rfl T.n_range (pa_cons (pe_callB call_len_seq (by rfl) T.n_len PySem.boot_len (pa_cons (pv 2) pa_nil)) pa_nil))
        (blkOk_by (N := ["fount", "items", "left", "turn"]) (sc := defScope sLawMixed) (by decide +kernel)) (fun _ _ _ _ _ => pg_name (i := 3) nd rfl (Or.inl rfl)) (fun _ _ _ _ _ => pts_nil)
        (fun _ _ _ _ _ => pe_bm PySem.F.plainAttrs_list PySem.F.slot_list_pop PySem.F.type_list_pop mt_popAt (pv 2) (pa_cons (pe_call (ok_sip T) hr (by rfl) T.g__law_sip T.F__law_sip.kp T.b__law_sip .nil pass0
          (pa_cons (pv 0) (pa_cons (pe_callB call_len_seq (by rfl) T.n_len PySem.boot_len (pa_cons (pv 2) pa_nil)) pa_nil))) pa_nil))))), ?_⟩
    have hq0 : SqL K H q xs ∨ SqT K H q xs := hq.imp (fun z => .inl (.inl z)) fun z => .inl (.inl z)
    refine ⟨.ref q, rfl, q, _, rfl, hq0, fun lf nlf => ?_⟩
    have s1 : Same H (upd H lf (.lst xs)) := same_new nlf
    have hq1 : SqL K (upd H lf (.lst xs)) q xs ∨ SqT K (upd H lf (.lst xs)) q xs := hq.imp (fun z => .inl (.inl (s1 _ _ z))) fun z => .inl (.inl (s1 _ _ z))
    have hb1 := hb.same s1
    have hlfb : lf ≠ b := hb.some nlf
    refine ⟨.ref lf, rfl, lf, xs, rfl, .inl (.inl (.inl upd_same)), (xs.length : Int), rfl, by omega, by omega, ?_⟩
    rw [Int.toNat_natCast]
    intro D nD
    have hDb : D ≠ b := hb1.some nD
    have nHD : H D = none := s1.free nD
    have hDl : D ≠ lf := fun e => by
      rw [e, upd_same] at nD
      cases nD
    refine lc_range (lo := 0) (n := xs.length) (fun i H' => ∃ rest out : List V, PotAt H' b (n + i) ∧ Bar b H H' ∧ H' lf = some (.lst rest) ∧ H' D = some (.lst out) ∧ (out ++ rest).Perm xs ∧ rest.length + i = xs.length)
      ⟨xs, [], hb1.same (same_new nD), (Same.bar (s1.trans (same_new nD))), upd_at upd_same nD, upd_same, .refl _, rfl⟩ (fun i H1 hi p1 => ?_) (fun H1 p1 => ?_)
    · obtain ⟨rest, out, kb, br, el, eD, pm, ln⟩ := p1
      have hr0 : 0 < rest.length := by omega
      refine ⟨rfl, tyes_if ⟨.ref lf, rfl, .inl ⟨rfl, _, .inl (.inl el)⟩, .ref b, rfl, .ref lf, rfl, lf, _, rfl, .inl (.inl (.inl el)), b, (rest.length : Int), n + i, rfl, by omega, by omega, kb, by omega, fun r H2 h0 h1 k2 b2 o2 => ?_⟩⟩
      have hk : r.toNat < rest.length := by omega
      have ek : rest[r.toNat]? = some rest[r.toNat] := List.getElem?_eq_getElem hk
      have el2 : H2 lf = some (.lst rest) := b2 _ _ hlfb el
      have eD2 : (upd H2 lf (.lst (rest.eraseIdx r.toNat))) D = some (.lst out) := by
        rw [upd_ne hDl]
        exact b2 _ _ hDb eD
      refine ⟨lf, _, r, r.toNat, rest[r.toNat], rfl, rfl, el2, by omega, by omega, seqIndex_of h0 h1, ek, _, eD2, ?_, rest.eraseIdx r.toNat, out ++ [rest[r.toNat]], ?_, ?_, ?_, ?_, ?_, ?_⟩
      · have := pm.length_eq
        rw [List.length_append] at this
        exact small300 (by omega)
      · obtain ⟨x, y, z, k3, k4⟩ := k2
        refine ⟨x, y, z, ?_, k4⟩
        rw [upd_ne (Ne.symm hDb), upd_ne (Ne.symm hlfb)]
        exact k3
      · intro c o nc hc
        rw [upd_ne (ne_of_none hc nHD), upd_ne (ne_of_none hc nlf)]
        exact b2 _ _ nc (br c o nc hc)
      · rw [upd_ne (Ne.symm hDl), upd_same]
      · rw [upd_same]
      · rw [List.append_assoc]
        exact ((perm_pick ek).append_left out).trans pm
      · rw [List.length_eraseIdx, if_pos hk]
        omega
    · obtain ⟨rest, out, kb, br, el, eD, pm, ln⟩ := p1
      have e0 : rest = [] := List.eq_nil_of_length_eq_zero (by omega)
      rw [e0, List.append_nil] at pm
      exact qq H1 D out kb br nHD eD pm
end
end PT


set_option maxHeartbeats 4000000
/-! plants out of a fount -/
namespace PT
open PySem PySem.Spec PyProof.Rows L2
section
variable {P : Program} {w : World} {K : PySem.W.Frag} {mg : Str → Option Value} {base : Heap}
def spGrown : Sp := fun vs H Q _ => ∃ (b : Addr) (m : Int) (n : Nat), vs = [.ref b, .int m] ∧ 1 ≤ m ∧ m ≤ 40 ∧ PotAt H b n ∧ n ≤ 100000000000 ∧ ∀ (H' : Hp) (p : Addr) (pl : List Int), PotAt H' b (n + 100) → Bar b H H' → H p = none → PlantAt H' p pl → pl.length + 1 ≤ m → Q (.ref p) H'
theorem ok_grown (T : Tx K mg) : FnOk P w K mg base CX0 2 T.f__law_grown T.d__law_grown ["fount", "most"] spGrown := by
  refine T.F__law_grown.ok scLawGrown (fun vs H Q E h => ?_) (fun cdv A outer s H vs Q E hr h => ?_)
  · obtain ⟨b, m, n, rfl, _⟩ := h
    rfl
  · obtain ⟨b, m, n, rfl, hm1, hm2, hb, hn, q⟩ := h
    have nd := scLawGrown.nd
    refine ⟨_, (pss_cons (ps_set (i := 2) nd rfl (.inl rfl) (pe_ix ix_list (pe_lst (pa_cons (pe_op op_add pe_int (pe_call (ok_sip T) (hr.mono (by omega)) (by rfl) T.g__law_sip T.F__law_sip.kp T.b__law_sip .nil pass0 (pa_cons (pv 0) (pa_cons (pv 1) pa_nil)))) (pa_cons (pv 1) (pa_cons (pe_op op_add pe_int (pe_call (ok_sip T) (hr.mono (by omega)) (by rfl) T.g__law_sip T.F__law_sip.kp T.b__law_sip .nil pass0 (pa_cons (pv 0) (pa_cons (pe_callB (call_min2 rfl) (by rfl) T.n_min (by decide +kernel) (pa_cons (pv 1) (pa_cons pe_int pa_nil))) pa_nil)))) pa_nil)))) (pe_call (ok_sip T) (hr.mono (by omega)) (by rfl) T.g__law_sip T.F__law_sip.kp T.b__law_sip .nil pass0 (pa_cons (pv 0) (pa_cons pe_int pa_nil))) (fun _ _ => rfl)))
(pss_cons (ps_par (i := 3) (j := 4) rfl nd rfl rfl (by decide) rfl rfl (pa_cons (pe_call (ok_sip T) (hr.mono (by omega)) (by rfl) T.g__law_sip T.F__law_sip.kp T.b__law_sip .nil pass0 (pa_cons (pv 0) (pa_cons pe_int pa_nil))) (pa_cons (pe_lst pa_nil) pa_nil)) (by rfl))
(pss_cons (ps_for PassesOwn.never rfl (pi_range2 (by rfl) T.n_range (pa_cons pe_int (pa_cons (pv 2) pa_nil))) (pg_name (i := 5) nd rfl (.inl rfl))
(pss_cons (ps_set (i := 6) nd rfl (.inl rfl) (pe_call (ok_sip T) (hr.mono (by omega)) (by rfl) T.g__law_sip T.F__law_sip.kp T.b__law_sip .nil pass0 (pa_cons (pv 0) (pa_cons (pv 5) pa_nil))))
(pss_one (ps_expr (pe_bm PySem.F.plainAttrs_list PySem.F.slot_list_append PySem.F.type_list_append mt_append (pv 4) (pa_cons (pe_ix ix_list (pe_lst (pa_cons (pe_op op_sub (pv 5) pe_int) (pa_cons pe_int (pa_cons (pe_callB (call_max2 rfl) (by rfl) T.n_max (by decide +kernel) (pa_cons pe_int (pa_cons (pe_op op_sub (pv 5) pe_int) pa_nil))) (pa_cons (pe_op op_fdiv (pe_op op_sub (pv 5) pe_int) pe_int) (pa_cons (pv 6) pa_nil)))))) (pv 3) (fun _ _ => rfl)) pa_nil))))))
(pss_one (ps_ret (pe_callTy call_tuple_of (by rfl) T.n_tuple (by decide +kernel) (pa_cons (pv 4) pa_nil))))))), ?_⟩
    obtain ⟨m5, em5, m51, m52⟩ : ∃ M : Int, (if (5 : Int) < m then (5 : Int) else m) = M ∧ 1 ≤ M ∧ M ≤ m := ⟨_, rfl, by split <;> omega, by split <;> omega⟩
    refine ⟨.ref b, rfl, .int m, rfl, b, m, n, rfl, by omega, by omega, hb, by omega, fun r1 H1 a0 a1 k1 B1 O1 => ⟨_, _, rfl, rfl, .int m, rfl, .ref b, rfl, .int m, rfl, _, _, rfl, b, m5, n + 1, congrArg (fun z => [V.ref b, V.int z]) em5, by omega, by omega, k1, by omega, fun r2 H2 c0 c1 k2 B2 O2 => ⟨_, _, rfl, rfl, (by show 3 ≤ sizeLine; decide), fun z nz => ?_⟩⟩⟩
    have zb : z ≠ b := k2.some nz
    refine ⟨.ref b, rfl, b, 3, n + 2, rfl, by decide, by decide, k2.same (same_new nz), by omega, fun r3 H3 d0 d1 k3 B3 O3 => ?_⟩
    obtain ⟨v, ev, cv⟩ := three_at (u0 := .int (1 + r1)) (u1 := .int m) (u2 := .int (1 + r2)) d0 d1
    obtain ⟨M, rfl, M1, M2⟩ : ∃ W : Int, v = .int W ∧ 1 ≤ W ∧ W ≤ m := by
      rcases cv with rfl | rfl | rfl
      · exact ⟨_, rfl, by omega, by omega⟩
      · exact ⟨_, rfl, by omega, by omega⟩
      · exact ⟨_, rfl, by omega, by omega⟩
    refine ⟨z, _, r3, .int M, rfl, rfl, .inl (.inl (B3 _ _ zb upd_same)), ev, .ref b, rfl, b, 5, n + 3, rfl, by decide, by decide, k3, by omega, fun way H4 f0 f1 k4 B4 O4 => ⟨Nat.zero_le _, fun l nl => ⟨_, _, rfl, ?_⟩⟩⟩
    have B5' : Bar b H H4 := (B1.trans B2).trans ((Same.bar (same_new nz)).trans (B3.trans B4))
    have lb : l ≠ b := k4.some nl
    have l0 : H l = none := by
      cases e : H l with
      | none => rfl
      | some o => rw [B5' _ _ lb e] at nl; cases nl
    refine ⟨.int M, rfl, 1, M, rfl, ⟨by decide, by decide, by omega, by omega⟩, ?_⟩
    refine for_range (lo := 1) (n := (M - 1).toNat) (fun i σ H' => ∃ (y5 y6 : Option V) (pl : List Int), σ = [some (.ref b), some (.int m), some (.int M), some (.int way), some (.ref l), y5, y6] ∧ PotAt H' b (n + 4 + i) ∧ Bar b H H' ∧ H' l = some (.lst (pl.map V.int)) ∧ pl.length = i ∧ Plant pl)
      ⟨none, none, [], rfl, k4.same (same_new nl), B5'.trans (Same.bar (same_new nl)), upd_same, rfl, ⟨Nat.zero_le _, fun i x e => by simp at e⟩⟩ (fun i σ H' hi p1 => ?_) (fun σ H' p1 => ?_)
    · obtain ⟨y5, y6, pl, rfl, hB, sb, el, ln, hP⟩ := p1
      have hi2 : i ≤ 38 := by omega
      refine ⟨.ref b, rfl, .int (1 + ((i : Nat) : Int)), rfl, b, _, n + 4 + i, rfl, by omega, by omega, hB, by omega, fun r5 H5 g0 g1 k5 B5 O5 => ?_⟩
      have el5 := B5 _ _ lb el
      refine ⟨.ref l, rfl, .inl ⟨rfl, _, .inl (.inl el5)⟩, .int (1 + ((i : Nat) : Int)), rfl, _, 1, rfl, rfl, .int (1 + ((i : Nat) : Int)), rfl, _, 2, rfl, rfl, _, _, rfl, .int (1 + ((i : Nat) : Int)), rfl, _, 1, rfl, rfl, _, 2, rfl, rfl, ⟨by decide, by decide⟩, .int r5, rfl, (by show 5 ≤ sizeLine; decide), fun t nt => ?_⟩
      obtain ⟨v, ev, cv⟩ := five_at (u0 := .int (1 + ((i : Nat) : Int) - 1)) (u1 := .int 0) (u2 := .int (if 1 + ((i : Nat) : Int) - 2 > 0 then 1 + ((i : Nat) : Int) - 2 else 0)) (u3 := .int ((1 + ((i : Nat) : Int) - 1) / 2)) (u4 := .int r5) f0 f1
      obtain ⟨u, rfl, u0, u1⟩ : ∃ u : Int, v = .int u ∧ 0 ≤ u ∧ u ≤ i := by
        rcases cv with rfl | rfl | rfl | rfl | rfl
        · exact ⟨_, rfl, by omega, by omega⟩
        · exact ⟨_, rfl, by omega, by omega⟩
        · refine ⟨_, rfl, ?_, ?_⟩ <;> split <;> omega
        · exact ⟨_, rfl, by omega, by omega⟩
        · exact ⟨_, rfl, by omega, by omega⟩
      have tb : t ≠ b := k5.some nt
      refine ⟨.int way, rfl, t, _, way, .int u, rfl, rfl, .inl (.inl upd_same), ev, l, _, _, rfl, rfl, upd_at el5 nt, ?_, ?_⟩
      · rw [List.length_map, ln]
        exact small300 (by omega)
      · refine ⟨_, _, pl ++ [u], rfl, ?_, ?_, ?_, ?_, hP.snoc (by omega) (by omega) (by omega)⟩
        · obtain ⟨x, y, z, k7, k8, k9, k10, k11⟩ := k5.same (same_new nt)
          exact ⟨x, y, z, by rw [upd_ne (Ne.symm lb)]; exact k7, k8, k9, k10, by omega⟩
        · intro c o nc hc
          rw [upd_ne (ne_of_none hc l0)]
          exact same_new nt _ _ (B5 _ _ nc (sb c o nc hc))
        · rw [upd_same, List.map_append]
          rfl
        · rw [List.length_append, ln]
          rfl
    · obtain ⟨y5, y6, pl, rfl, hB, sb, el, ln, hP⟩ := p1
      refine ⟨.ref l, rfl, l, _, rfl, .inl ⟨.inl (.inl el), fun p np => ?_⟩⟩
      have p0 : H p = none := sb.freeP hB np
      exact q _ p pl ((hB.same (same_new np)).mono (by omega)) (sb.trans (Same.bar (same_new np))) p0 ⟨upd_same, hP⟩ (by omega)
end
end PT


set_option maxHeartbeats 4000000
/-! stocks out of a fount -/
namespace PT
open PySem PySem.Spec PyProof.Rows L2
theorem six_at {u0 u1 u2 u3 u4 u5 : V} {r : Int} (h0 : 0 ≤ r) (h6 : r < 6) : ∃ v, atI [u0, u1, u2, u3, u4, u5] r = some v ∧ (v = u0 ∨ v = u1 ∨ v = u2 ∨ v = u3 ∨ v = u4 ∨ v = u5) := by
  have c : r = 0 ∨ r = 1 ∨ r = 2 ∨ r = 3 ∨ r = 4 ∨ r = 5 := by omega
  rcases c with rfl | rfl | rfl | rfl | rfl | rfl
  · exact ⟨_, rfl, .inl rfl⟩
  · exact ⟨_, rfl, .inr (.inl rfl)⟩
  · exact ⟨_, rfl, .inr (.inr (.inl rfl))⟩
  · exact ⟨_, rfl, .inr (.inr (.inr (.inl rfl)))⟩
  · exact ⟨_, rfl, .inr (.inr (.inr (.inr (.inl rfl))))⟩
  · exact ⟨_, rfl, .inr (.inr (.inr (.inr (.inr rfl))))⟩
/-- different numbers, none of them great -/
structure NumsOk (m : Nat) (ns : List Int) : Prop where
  len : ns.length = m
  nd : ns.Nodup
  sm : ∀ x ∈ ns, -(10 ^ 36) ≤ x ∧ x ≤ 10 ^ 36
theorem nums_row {m : Nat} {l s : Int} (hs : 1 ≤ s) (h0 : -(10 ^ 36) ≤ l) (h1 : ∀ i : Nat, i < m → l + (i : Int) * s ≤ 10 ^ 36) : NumsOk m ((List.range m).map fun i : Nat => l + (0 + (i : Int)) * s) := by
  refine ⟨by rw [List.length_map, List.length_range], ?_, fun x hx => ?_⟩
  · rw [List.Nodup, List.pairwise_map]
    refine List.nodup_range.imp fun {a b} ne e => ne ?_
    have z : (0 + (a : Int)) * s = (0 + (b : Int)) * s := by omega
    have y := Int.eq_of_mul_eq_mul_right (by omega : s ≠ 0) z
    omega
  · obtain ⟨i, hi, rfl⟩ := List.mem_map.mp hx
    have hi := List.mem_range.mp hi
    have z := h1 i hi
    have y : 0 ≤ (i : Int) * s := Int.mul_nonneg (by omega) (by omega)
    rw [Int.zero_add]
    omega
section
variable {P : Program} {w : World} {K : PySem.W.Frag} {mg : Str → Option Value} {base : Heap}
def spFilled : Sp := fun vs H Q _ => ∃ (b p : Addr) (pl : List Int) (n : Nat), vs = [.ref b, .ref p] ∧ PotAt H b n ∧ n ≤ 10000000000 ∧ PlantAt H p pl ∧ ∀ (H' : Hp) (q : Addr) (ss : List Int), PotAt H' b (n + 200) → Bar b H H' → H q = none → H' q = some (.tup (ss.map V.int)) → StockOk pl ss → Q (.ref q) H'
theorem ok_filled (T : Tx K mg) : FnOk P w K mg base CX0 3 T.f__law_filled T.d__law_filled ["fount", "plant"] spFilled := by
  refine T.F__law_filled.ok scLawFilled (fun vs H Q E h => ?_) (fun cdv A outer s H vs Q E hr h => ?_)
  · obtain ⟨b, p, pl, n, rfl, _⟩ := h
    rfl
  · obtain ⟨b, p, pl, n, rfl, hb, hn, hP, qq⟩ := h
    have nd := scLawFilled.nd
    have lp := hP.ok.len
    refine ⟨_, (pss_cons (ps_asg (pe_tup (pa_cons (pe_op op_add (pe_callB call_len_seq (by rfl) T.n_len PySem.boot_len (pa_cons (pv 1) pa_nil)) pe_int) (pa_cons (pe_call (ok_sip T) (hr.mono (by omega)) (by rfl) T.g__law_sip T.F__law_sip.kp T.b__law_sip .nil pass0 (pa_cons (pv 0) (pa_cons pe_int pa_nil))) (pa_cons (pe_call (ok_sip T) (hr.mono (by omega)) (by rfl) T.g__law_sip T.F__law_sip.kp T.b__law_sip .nil pass0 (pa_cons (pv 0) (pa_cons pe_int pa_nil))) pa_nil)))) (pg_tup (by rfl) (pgs_cons (pg_name (i := 2) nd rfl (.inl rfl)) (pgs_cons (pg_name (i := 3) nd rfl (.inr rfl)) (pgs_cons (pg_name (i := 4) nd rfl (.inl rfl)) pgs_nil)))))
(pss_cons (ps_set (i := 5) nd rfl (.inr rfl) (pe_ix ix_list (pe_lst (pa_cons pe_int (pa_cons (pe_op op_sub (pe_call (ok_sip T) (hr.mono (by omega)) (by rfl) T.g__law_sip T.F__law_sip.kp T.b__law_sip .nil pass0 (pa_cons (pv 0) (pa_cons pe_int pa_nil))) pe_int) (pa_cons (pe_op op_sub pe_int (pe_op op_pow pe_int pe_int)) (pa_cons (pe_op op_sub (pe_op op_pow pe_int pe_int) pe_int) (pa_cons (pe_op op_sub pe_int (pe_call (ok_sip T) (hr.mono (by omega)) (by rfl) T.g__law_sip T.F__law_sip.kp T.b__law_sip .nil pass0 (pa_cons (pv 0) (pa_cons (pe_op op_pow pe_int pe_int) pa_nil)))) pa_nil)))))) (pv 3) (fun _ _ => rfl)))
(pss_cons (ps_setLc (i := 7) (own := [("at", 6)]) (g := gName 6) (tt := tYes) (te := (tOp (rI0 fun i j => .int (i + j)) (tVar 5) (tOp (rI CMul fun i j => .int (i * j)) (tVar 6) (tOp (rIxL K) (tLst (tCons (tC (.int 1)) (tCons (tC (.int 7)) (tCons (tOp (rI CPow fun i j => .int (i ^ j.toNat)) (tC (.int 10)) (tC (.int 34))) (tCons (tC (.int 1)) (tCons (tC (.int 1)) tNil)))))) (tVar 3))))) (by rfl) nd rfl rfl (sw_true rfl rfl rfl (by decide +kernel)) (pi_range1 (by rfl) T.n_range (pa_cons (pv 2) pa_nil))
(blkOk_by (N := ["fount", "plant", "count", "style", "way", "last", "at", "found", "wide"]) (sc := defScope sLawFilled) (by decide +kernel)) (fun _ _ _ _ _ => (pg_name (i := 6) nd rfl (.inl rfl))) (fun _ _ _ _ _ => pts_nil) (fun _ _ _ _ _ => (pe_op op_add (pv 5) (pe_op op_mul (pv 6) (pe_ix ix_list (pe_lst (pa_cons pe_int (pa_cons pe_int (pa_cons (pe_op op_pow pe_int pe_int) (pa_cons pe_int (pa_cons pe_int pa_nil)))))) (pv 3) (fun _ _ => rfl))))))
(Evl.pss_cut (ps_if (pt_cmpR op_eq (pv 3) pe_int (nomark _))
(pss_cons (ps_set (i := 7) nd rfl (.inl rfl) (pe_lst pa_nil))
(pss_one (ps_for PassesOwn.never rfl (pi_range1 (by rfl) T.n_range (pa_cons (pv 2) pa_nil)) (pg_name (i := 6) nd rfl (.inl rfl))
(pss_cons (ps_set (i := 8) nd rfl (.inl rfl) (pe_ix ix_list (pe_lst (pa_cons (pe_op op_pow pe_int pe_int) (pa_cons (pe_op op_pow pe_int pe_int) (pa_cons (pe_op op_pow pe_int pe_int) (pa_cons (pe_op op_pow pe_int pe_int) (pa_cons (pe_op op_pow pe_int pe_int) (pa_cons (pe_op op_pow pe_int pe_int) pa_nil))))))) (pe_call (ok_sip T) (hr.mono (by omega)) (by rfl) T.g__law_sip T.F__law_sip.kp T.b__law_sip .nil pass0 (pa_cons (pv 0) (pa_cons pe_int pa_nil))) (fun _ _ => rfl)))
(pss_cons (ps_set (i := 5) nd rfl (.inr rfl) (pe_op op_add (pe_op op_add (pv 5) pe_int) (pe_call (ok_sip T) (hr.mono (by omega)) (by rfl) T.g__law_sip T.F__law_sip.kp T.b__law_sip .nil pass0 (pa_cons (pv 0) (pa_cons (pv 8) pa_nil)))))
(pss_one (ps_expr (pe_bm PySem.F.plainAttrs_list PySem.F.slot_list_append PySem.F.type_list_append mt_append (pv 7) (pa_cons (pv 5) pa_nil))))))))) pss_nil)
(Evl.pss_cut (ps_if (pt_cmpR op_eq (pv 4) pe_int (nomark _))
(pss_one (ps_set (i := 7) nd rfl (.inl rfl) (pe_call (ok_mixed T) (hr.mono (by omega)) (by rfl) T.g__law_mixed T.F__law_mixed.kp T.b__law_mixed .nil pass0 (pa_cons (pv 0) (pa_cons (pv 7) pa_nil))))) pss_nil)
(pss_one (ps_ret (pe_callTy call_tuple_of (by rfl) T.n_tuple (by decide +kernel) (pa_cons (pe_ifExp (pt_cmpR op_eq (pv 4) pe_int (nomark _)) (pe_revL (pv 7)) (pv 7)) pa_nil))))))))), ?_⟩
    have el : ((pl.map V.int).length : Nat) = pl.length := List.length_map ..
    have pb : p ≠ b := hb.neT hP.at_
    refine ⟨.ref p, rfl, p, _, rfl, .inr hP.seq, _, 1, rfl, rfl, .ref b, rfl, b, 5, n, rfl, by decide, by decide, hb, by omega, fun st H1 a0 a1 k1 B1 O1 => ⟨.ref b, rfl, b, 3, n + 1, rfl, by decide, by decide, k1, by omega, fun way H2 b0 b1 k2 B2 O2 => ⟨(by show 3 ≤ sizeLine; decide), fun t nt => ⟨t, _, rfl, .inl (.inl upd_same), rfl, _, _, rfl, _, _, rfl, _, _, rfl, rfl, ?_⟩⟩⟩⟩
    rw [el]
    have s3 := same_new (o := .tup [V.int (((pl.length : Nat) : Int) + 1), .int st, .int way]) nt
    have k3 := k2.same s3
    have B3 := (B1.trans B2).trans (Same.bar s3)
    generalize upd H2 t (.tup [V.int (((pl.length : Nat) : Int) + 1), .int st, .int way]) = H3 at k3 B3 ⊢
    clear s3 nt k2 B2 O2 k1 B1 O1
    -- the first number
    refine ⟨.ref b, rfl, b, 50, n + 2, rfl, by decide, by decide, k3, by omega, fun r1 H4 c0 c1 k4 B4 O4 => ⟨_, _, rfl, rfl, 10, 36, rfl, rfl, ⟨by decide, by decide, by decide⟩, _, _, rfl, rfl, 10, 36, rfl, rfl, ⟨by decide, by decide, by decide⟩, _, _, rfl, rfl, .ref b, rfl, 10, 20, rfl, rfl, ⟨by decide, by decide, by decide⟩, b, _, n + 3, rfl, by decide, by decide, k4, by omega, fun r2 H5 d0 d1 k5 B5 O5 => ⟨_, _, rfl, rfl, (by show 5 ≤ sizeLine; decide), fun z nz => ?_⟩⟩⟩
    have zb : z ≠ b := k5.some nz
    have k6 := k5.same (same_new (o := .lst [V.int 0, .int (r1 - 25), .int (0 - 10 ^ (Int.toNat 36)), .int (10 ^ (Int.toNat 36) - 40), .int (0 - r2)]) nz)
    have B6 := ((B3.trans B4).trans B5).trans (Same.bar (same_new (o := .lst [V.int 0, .int (r1 - 25), .int (0 - 10 ^ (Int.toNat 36)), .int (10 ^ (Int.toNat 36) - 40), .int (0 - r2)]) nz))
    obtain ⟨L0, S, eL, eS, S1, L1, L2', hL4⟩ : ∃ L0 S : Int, atI [V.int 0, .int (r1 - 25), .int (0 - 10 ^ (Int.toNat 36)), .int (10 ^ (Int.toNat 36) - 40), .int (0 - r2)] st = some (.int L0) ∧ atI [V.int 1, .int 7, .int (10 ^ (Int.toNat 34)), .int 1, .int 1] st = some (.int S) ∧ 1 ≤ S ∧ -(10 ^ 36) ≤ L0 ∧ (∀ i : Nat, i < pl.length + 1 → L0 + (i : Int) * S ≤ 10 ^ 36) ∧ (st = 4 → -(10 ^ 20) ≤ L0 ∧ L0 ≤ 0) := by
      have d1' : r2 < 10 ^ (Int.toNat 20) := d1
      have h20 : (10 : Int) ^ (Int.toNat 20) = 10 ^ 20 := by decide
      have h36 : (10 : Int) ^ (Int.toNat 36) = 10 ^ 36 := by decide
      have h34 : (10 : Int) ^ (Int.toNat 34) = 10 ^ 34 := by decide
      rw [h20] at d1'
      have cs : st = 0 ∨ st = 1 ∨ st = 2 ∨ st = 3 ∨ st = 4 := by omega
      rcases cs with rfl | rfl | rfl | rfl | rfl
      · exact ⟨_, _, rfl, rfl, by decide, by decide, fun i hi => by omega, fun e => by omega⟩
      · exact ⟨_, _, rfl, rfl, by decide, by omega, fun i hi => by omega, fun e => by omega⟩
      · refine ⟨_, _, rfl, rfl, by decide, by rw [h36]; omega, fun i hi => ?_, fun e => by omega⟩
        rw [h36, h34]
        omega
      · refine ⟨_, _, rfl, rfl, by decide, by rw [h36]; omega, fun i hi => ?_, fun e => by omega⟩
        rw [h36]
        omega
      · exact ⟨_, _, rfl, rfl, by decide, by omega, fun i hi => by omega, fun e => ⟨by omega, by omega⟩⟩
    refine ⟨.int st, rfl, z, _, st, .int L0, rfl, rfl, .inl (.inl upd_same), eL, ?_⟩
    generalize upd H5 z (.lst [V.int 0, .int (r1 - 25), .int (0 - 10 ^ (Int.toNat 36)), .int (10 ^ (Int.toNat 36) - 40), .int (0 - r2)]) = H6 at k6 B6 ⊢
    clear nz zb k5 B5 O5 k4 B4 O4 k3 B3 eL c0 c1 d0 d1
    -- the numbers
    have ez : (((pl.length : Nat) : Int) + 1).toNat = pl.length + 1 := by omega
    refine ⟨.int (((pl.length : Nat) : Int) + 1), rfl, _, rfl, by omega, by omega, fun D nD => ?_⟩
    rw [ez]
    refine lc_range (lo := 0) (n := pl.length + 1) (fun i G => Same H6 G ∧ G D = some (.lst (((List.range i).map fun i : Nat => L0 + (0 + (i : Int)) * S).map V.int))) ⟨same_new nD, upd_same⟩ (fun i G hi p1 => ?_) (fun G p1 => ?_)
    · obtain ⟨sG, eD⟩ := p1
      refine ⟨rfl, tyes_if ⟨.int L0, rfl, .int (0 + (i : Int)), rfl, 10, 34, rfl, rfl, ⟨by decide, by decide, by decide⟩, (by show 5 ≤ sizeLine; decide), fun y ny => ⟨.int st, rfl, y, _, st, .int S, rfl, rfl, .inl (.inl upd_same), eS, _, _, rfl, rfl, .inl ⟨by omega, by omega⟩, _, _, rfl, rfl, _, same_new ny _ _ eD, ?_, fun c o h => ?_, ?_⟩⟩⟩
      · rw [List.length_map, List.length_map, List.length_range]
        exact small300 (by omega)
      · rw [upd_ne (ne_of_none h nD)]
        exact same_new ny _ _ (sG _ _ h)
      · rw [upd_same, List.range_succ, List.map_append, List.map_append]
        rfl
    obtain ⟨sG, eD⟩ := p1
    have Db : D ≠ b := k6.some nD
    have NO := nums_row (m := pl.length + 1) S1 L1 L2'
    have k7 := k6.same sG
    have B7 := B6.trans (Same.bar sG)
    revert eD NO
    generalize (List.range (pl.length + 1)).map (fun i : Nat => L0 + (0 + (i : Int)) * S) = ns
    intro eD NO
    clear sG k6 B6 nD
    refine ⟨fun σ' G => ∃ (f : Addr) (ms : List Int) (y5 y6 y8 : Option V), σ' = [some (.ref b), some (.ref p), some (.int (((pl.length : Nat) : Int) + 1)), some (.int st), some (.int way), y5, y6, some (.ref f), y8] ∧ PotAt G b (n + 4 + 90) ∧ Bar b H G ∧ f ≠ b ∧ G f = some (.lst (ms.map V.int)) ∧ NumsOk (pl.length + 1) ms, ?_, ?_⟩
    · refine ⟨.int st, rfl, rfl, _, rfl, ?_⟩
      by_cases h4 : st = 4
      · rw [decide_eq_true (congrArg V.int h4)]
        obtain ⟨q0, q1⟩ := hL4 h4
        refine iteT ⟨Nat.zero_le _, fun f nf => ?_⟩
        have fb : f ≠ b := k7.some nf
        have k8 := k7.same (same_new (o := .lst []) nf)
        have B8 := B7.trans (Same.bar (same_new (o := .lst []) nf))
        have f0 : H f = none := B7.freeP k7 nf
        refine ⟨.int (((pl.length : Nat) : Int) + 1), rfl, _, rfl, by omega, by omega, ?_⟩
        rw [ez]
        refine for_range (lo := 0) (n := pl.length + 1) (fun i σ G => ∃ (l : Int) (ms : List Int) (y6 y8 : Option V), σ = [some (.ref b), some (.ref p), some (.int (((pl.length : Nat) : Int) + 1)), some (.int st), some (.int way), some (.int l), y6, some (.ref f), y8] ∧ PotAt G b (n + 4 + 2 * i) ∧ Bar b H G ∧ G f = some (.lst (ms.map V.int)) ∧ ms.length = i ∧ ms.Pairwise (· < ·) ∧ (∀ x ∈ ms, -(10 ^ 20) ≤ x ∧ x ≤ l) ∧ -(10 ^ 20) ≤ l ∧ l ≤ i * 10 ^ 34)
          ⟨L0, [], _, _, rfl, k8, B8, upd_same, rfl, .nil, fun x hx => (by cases hx), q0, by omega⟩ (fun i σ G hi p1 => ?_) (fun σ G p1 => ?_)
        · obtain ⟨l, ms, y6, y8, rfl, kG, BG, ef, lm, pw, bd, l0, l1⟩ := p1
          refine ⟨10, 3, rfl, rfl, ⟨by decide, by decide, by decide⟩, 10, 7, rfl, rfl, ⟨by decide, by decide, by decide⟩, 10, 12, rfl, rfl, ⟨by decide, by decide, by decide⟩, 10, 18, rfl, rfl, ⟨by decide, by decide, by decide⟩, 10, 25, rfl, rfl, ⟨by decide, by decide, by decide⟩, 10, 33, rfl, rfl, ⟨by decide, by decide, by decide⟩, (by show 6 ≤ sizeLine; decide), fun y ny => ?_⟩
          have yb : y ≠ b := kG.some ny
          refine ⟨.ref b, rfl, b, 6, n + 4 + 2 * i, rfl, by decide, by decide, kG.same (same_new ny), by omega, fun r Ga e0 e1 ka Ba Oa => ?_⟩
          obtain ⟨v, ev, cv⟩ := six_at (u0 := .int (10 ^ (Int.toNat 3))) (u1 := .int (10 ^ (Int.toNat 7))) (u2 := .int (10 ^ (Int.toNat 12))) (u3 := .int (10 ^ (Int.toNat 18))) (u4 := .int (10 ^ (Int.toNat 25))) (u5 := .int (10 ^ (Int.toNat 33))) e0 e1
          obtain ⟨wd, rfl, w0, w1⟩ : ∃ x : Int, v = .int x ∧ 0 < x ∧ x ≤ 10 ^ 33 := by
            rcases cv with rfl | rfl | rfl | rfl | rfl | rfl <;> exact ⟨_, rfl, by decide, by decide⟩
          have kb := ka
          refine ⟨y, _, r, .int wd, rfl, rfl, .inl (.inl (Ba _ _ yb upd_same)), ev, ?_⟩
          refine ⟨.int l, rfl, l, 1, rfl, rfl, .ref b, rfl, .int wd, rfl, b, wd, n + 4 + 2 * i + 1, rfl, w0, by omega, ka, by omega, fun r3 Hc g0 g1 kc Bc Oc => ⟨_, _, rfl, rfl, ?_⟩⟩
          have ef2 : Hc f = some (.lst (ms.map V.int)) := Bc _ _ fb (Ba _ _ fb (same_new ny _ _ ef))
          refine ⟨.ref f, rfl, .inl ⟨rfl, _, .inl (.inl ef2)⟩, .int (l + 1 + r3), rfl, f, _, _, rfl, rfl, ef2, ?_, l + 1 + r3, ms ++ [l + 1 + r3], _, _, rfl, ?_, ?_, ?_, ?_, ?_, ?_, ?_, ?_⟩
          · rw [List.length_map, lm]
            exact small300 (by omega)
          · obtain ⟨x1, x2, x3, x4, x5, x6, x7, x8⟩ := kc
            exact ⟨x1, x2, x3, by rw [upd_ne (Ne.symm fb)]; exact x4, x5, x6, x7, by omega⟩
          · intro c o nc hc
            rw [upd_ne (ne_of_none hc f0)]
            exact Bc _ _ nc (Ba _ _ nc (same_new ny _ _ (BG c o nc hc)))
          · rw [upd_same, List.map_append]
            rfl
          · rw [List.length_append, lm]
            rfl
          · refine List.pairwise_append.mpr ⟨pw, List.pairwise_singleton .., fun x hx y hy => ?_⟩
            rw [List.mem_singleton.mp hy]
            have := (bd x hx).2
            omega
          · intro x hx
            rcases List.mem_append.mp hx with hx | hx
            · have := bd x hx
              omega
            · rw [List.mem_singleton.mp hx]
              omega
          · omega
          · omega
        · obtain ⟨l, ms, y6, y8, rfl, kG, BG, ef, lm, pw, bd, l0, l1⟩ := p1
          refine ⟨f, ms, _, _, _, rfl, kG.mono (by omega), BG, fb, ef, lm, pw.imp fun h e => by omega, fun x hx => ?_⟩
          have := bd x hx
          omega
      · rw [decide_eq_false fun e => h4 (V.int.inj e)]
        exact iteF ⟨D, ns, _, _, _, rfl, k7.mono (by omega), B7, Db, eD, NO⟩
    rintro σ' G ⟨f, ms, y5, y6, y8, rfl, kG, BG, fb, ef, NM⟩
    clear k7 B7 Db eD NO eS hL4 L2' L1 S1
    refine ⟨fun σ' G => ∃ (f : Addr) (ms : List Int) (y5 y6 y8 : Option V), σ' = [some (.ref b), some (.ref p), some (.int (((pl.length : Nat) : Int) + 1)), some (.int st), some (.int way), y5, y6, some (.ref f), y8] ∧ PotAt G b (n + 4 + 150) ∧ Bar b H G ∧ G f = some (.lst (ms.map V.int)) ∧ NumsOk (pl.length + 1) ms, ?_, ?_⟩
    · refine ⟨.int way, rfl, rfl, _, rfl, ?_⟩
      by_cases h2 : way = 2
      · rw [decide_eq_true (congrArg V.int h2)]
        refine iteT ⟨.ref b, rfl, .ref f, rfl, b, f, ms.map V.int, n + 4 + 90, rfl, kG, by omega, .inl ef, by rw [List.length_map, NM.len]; omega, fun Ha l ys ka Ba nl el2 pm => ?_⟩
        rw [List.length_map, NM.len] at ka
        obtain ⟨zs, ez2, pz⟩ : ∃ zs : List Int, ys = zs.map V.int ∧ zs.Perm ms := by
          have hall : ∀ v ∈ ys, ∃ i : Int, v = .int i := fun v hv => by
            obtain ⟨i, _, e⟩ := List.mem_map.mp (pm.subset hv)
            exact ⟨i, e.symm⟩
          obtain ⟨zs, rfl⟩ : ∃ zs : List Int, ys = zs.map V.int := by
            clear pm el2
            induction ys with
            | nil => exact ⟨[], rfl⟩
            | cons y ys ih =>
              obtain ⟨i, rfl⟩ := hall y List.mem_cons_self
              obtain ⟨zs, rfl⟩ := ih fun v hv => hall v (List.mem_cons_of_mem _ hv)
              exact ⟨i :: zs, rfl⟩
          refine ⟨zs, rfl, ?_⟩
          have f : Function.Injective V.int := fun _ _ y => V.int.inj y
          have z := pm.map (fun v : V => match v with | .int i => i | _ => 0)
          rw [List.map_map, List.map_map] at z
          have e : ((fun v : V => match v with | .int i => i | _ => 0) ∘ V.int) = id := rfl
          rw [e, List.map_id, List.map_id] at z
          exact z
        subst ez2
        exact ⟨l, zs, _, _, _, rfl, ka.mono (by omega), BG.trans Ba, el2, pz.length_eq.trans NM.len, pz.nodup_iff.mpr NM.nd, fun x hx => NM.sm x (pz.subset hx)⟩
      · rw [decide_eq_false fun e => h2 (V.int.inj e)]
        exact iteF ⟨f, ms, _, _, _, rfl, kG.mono (by omega), BG, ef, NM⟩
    clear kG BG fb ef NM
    rintro σ' G ⟨f, ms, y5, y6, y8, rfl, kG, BG, ef, NM⟩
    refine ⟨.int way, rfl, rfl, _, rfl, ?_⟩
    by_cases h1 : way = 1
    · rw [decide_eq_true (congrArg V.int h1)]
      refine iteT ⟨.ref f, rfl, f, _, rfl, .inl (.inl ef), fun g ng => ?_⟩
      have sg := same_new (o := .lst (ms.map V.int).reverse) ng
      refine ⟨g, _, rfl, .inl ⟨.inl (.inl upd_same), fun q nq => ?_⟩⟩
      have s2 := sg.trans (same_new (o := .tup (ms.map V.int).reverse) nq)
      have q0 : H q = none := BG.freeP kG (sg.free nq)
      refine qq _ q ms.reverse ((kG.same s2).mono (by omega)) (BG.trans (Same.bar s2)) q0 (by rw [upd_same, List.map_reverse]) ⟨by rw [List.length_reverse]; exact NM.len, List.pairwise_reverse.mpr (NM.nd.imp fun h => Ne.symm h), fun x hx => NM.sm x (List.mem_reverse.mp hx)⟩
    · rw [decide_eq_false fun e => h1 (V.int.inj e)]
      refine iteF ⟨.ref f, rfl, f, _, rfl, .inl ⟨.inl (.inl ef), fun q nq => ?_⟩⟩
      have s2 := same_new (o := .tup (ms.map V.int)) nq
      exact qq _ q ms ((kG.same s2).mono (by omega)) (BG.trans (Same.bar s2)) (BG.freeP kG nq) upd_same ⟨NM.len, NM.nd, NM.sm⟩
end
end PT


set_option maxHeartbeats 4000000
/-! a fount and a live plant beside tables: what a law keeps -/
namespace PT
open PySem PySem.Spec PyProof.Rows L2 LamX NdefX
theorem Bar.kt {b : Addr} {n : Nat} {H H' : Hp} (k : PotAt H b n) (e : Bar b H H') : KT H H' := fun c xs h => by
  obtain ⟨x, y, z, q, _⟩ := k
  exact e c _ (ne_of h q (by intro z; cases z)) h
section
variable {K : PySem.W.Frag} {mg : Str → Option Value}
/-- a fount at b, a live plant at x with its list at r: new since H0 -/
structure LvSt (T : Tx K mg) (b x r : Addr) (H0 G0 G : Hp) (n : Nat) (p q : Addr) (pl ss : List Int) (es : List Ent) : Prop where
  ext : ExtN H0 G
  nb : H0 b = none
  nx : H0 x = none
  nr : H0 r = none
  br : b ≠ r
  pot : PotAt G b n
  lv : LiveAt T.x_LivePlant G x r p q pl ss es
  tabs : Tabs T.tabW G
  kt : KT G0 G
theorem LvSt.sip {T : Tx K mg} {b x r p q : Addr} {H0 G0 G G' : Hp} {n m : Nat} {pl ss : List Int} {es : List Ent} (h : LvSt T b x r H0 G0 G n p q pl ss es) (k : PotAt G' b m) (e : Bar b G G') : LvSt T b x r H0 G0 G' m p q pl ss es := by
  obtain ⟨dx, e1⟩ := h.lv.ob
  obtain ⟨vs, e2, _⟩ := h.lv.pa
  obtain ⟨x1, y1, z1, q1, _⟩ := id h.pot
  refine ⟨e.barN.extN' h.nb h.ext, h.nb, h.nx, h.nr, h.br, k, h.lv.mv (e.kt h.pot) ?_ ?_, tabs_bar h.tabs q1 e, h.kt.trans (e.kt h.pot)⟩
  · exact (e _ _ (ne_of e1 q1 (by intro z; cases z)) e1).trans e1.symm
  · exact (e _ _ (Ne.symm h.br) e2).trans e2.symm
theorem LvSt.grow {T : Tx K mg} {b x r p q : Addr} {H0 G0 G G' : Hp} {n : Nat} {pl ss : List Int} {es : List Ent} (h : LvSt T b x r H0 G0 G n p q pl ss es) (e : ExtN G G') (t : Tabs T.tabW G') : LvSt T b x r H0 G0 G' n p q pl ss es :=
  ⟨h.ext.trans e, h.nb, h.nx, h.nr, h.br, let ⟨x, y, z, q, w⟩ := h.pot; ⟨x, y, z, extN_lst e q, w⟩, h.lv.ext e, t, h.kt.trans (extN_kt e)⟩
theorem LvSt.same {T : Tx K mg} {b x r p q : Addr} {H0 G0 G G' : Hp} {n : Nat} {pl ss : List Int} {es : List Ent} (h : LvSt T b x r H0 G0 G n p q pl ss es) (e : Same G G') : LvSt T b x r H0 G0 G' n p q pl ss es := h.grow (same_extN e) (tabs_same h.tabs e)
theorem LvSt.op {T : Tx K mg} {b x r p q p2 q2 : Addr} {H0 G0 G G' : Hp} {n : Nat} {pl ss pl2 ss2 : List Int} {es es2 : List Ent} (h : LvSt T b x r H0 G0 G n p q pl ss es) (e : BarL x r G G') (t : Tabs T.tabW G') (l : LiveAt T.x_LivePlant G' x r p2 q2 pl2 ss2 es2) : LvSt T b x r H0 G0 G' n p2 q2 pl2 ss2 es2 := by
  obtain ⟨dx, e1⟩ := h.lv.ob
  obtain ⟨x1, y1, z1, q1, w⟩ := id h.pot
  exact ⟨e.extN h.ext h.nx h.nr, h.nb, h.nx, h.nr, h.br, ⟨x1, y1, z1, e _ _ (ne_of q1 e1 (by intro z; cases z)) h.br q1 (fun _ z => by cases z), w⟩, l, t, h.kt.trans (e.kt h.lv)⟩
theorem LvSt.mono {T : Tx K mg} {b x r p q : Addr} {H0 G0 G : Hp} {n m : Nat} {pl ss : List Int} {es : List Ent} (h : LvSt T b x r H0 G0 G n p q pl ss es) (l : n ≤ m) : LvSt T b x r H0 G0 G m p q pl ss es := ⟨h.ext, h.nb, h.nx, h.nr, h.br, h.pot.mono l, h.lv, h.tabs, h.kt⟩
end
end PT

set_option maxHeartbeats 4000000
/-! plain data in the heap; displays of written values -/
namespace PT
open PySem PySem.Spec PyProof.Rows L2 LamX NdefX
/-- the heap without one list that is written to -/
def hide (H : Hp) (b : Addr) : Hp := fun c => if c = b then none else H c
mutual
/-- v stands for d, no locked tuple within -/
inductive DP (H : Hp) : V → PyData → Prop
  | non : DP H .non .none
  | bl (b : Bool) : DP H (.bl b) (.bool b)
  | int (i : Int) : DP H (.int i) (.int i)
  | str (x : Str) : DP H (.str x) (.str x)
  | dic {a : Addr} : H a = some (.dK []) → DP H (.ref a) (.dict [])
  | lst {a : Addr} {xs : List V} {ds : List PyData} : H a = some (.lst xs) → DPs H xs ds → DP H (.ref a) (.list ds)
  | tup {a : Addr} {xs : List V} {ds : List PyData} : H a = some (.tup xs) → DPs H xs ds → DP H (.ref a) (.tuple ds)
inductive DPs (H : Hp) : List V → List PyData → Prop
  | nil : DPs H [] []
  | cons {v : V} {d : PyData} {vs : List V} {ds : List PyData} : DP H v d → DPs H vs ds → DPs H (v :: vs) (d :: ds)
end
mutual
theorem DP.ext {H H' : Hp} (e : ExtN H H') : ∀ (d : PyData) (v : V), DP H v d → DP H' v d
  | .none, _, h => by cases h; exact .non
  | .bool b, _, h => by cases h; exact .bl b
  | .int i, _, h => by cases h; exact .int i
  | .str x, _, h => by cases h; exact .str x
  | .list ds, _, h => by
    cases h with
    | lst a b => exact .lst (extN_lst e a) (DPs.ext e ds _ b)
  | .tuple ds, _, h => by
    cases h with
    | tup a b => exact .tup (extN_tup e a) (DPs.ext e ds _ b)
  | .dict _, _, h => by
    cases h with
    | dic a => exact .dic (e _ _ a fun _ z => by cases z)
theorem DPs.ext {H H' : Hp} (e : ExtN H H') : ∀ (ds : List PyData) (vs : List V), DPs H vs ds → DPs H' vs ds
  | [], _, h => by cases h; exact .nil
  | d :: ds, _, h => by
    cases h with
    | cons a b => exact .cons (DP.ext e d _ a) (DPs.ext e ds _ b)
end
mutual
theorem DP.dd {H : Hp} : ∀ (d : PyData) (v : V), DP H v d → DD H v d
  | .none, _, h => by cases h; exact .non
  | .bool b, _, h => by cases h; exact .bl b
  | .int i, _, h => by cases h; exact .int i
  | .str x, _, h => by cases h; exact .str x
  | .list ds, _, h => by
    cases h with
    | lst a b => exact .lst a (DPs.dd ds _ b)
  | .tuple ds, _, h => by
    cases h with
    | tup a b => exact .tup a (DPs.dd ds _ b)
  | .dict _, _, h => by
    cases h with
    | dic a => exact .dic a
theorem DPs.dd {H : Hp} : ∀ (ds : List PyData) (vs : List V), DPs H vs ds → DDs H vs ds
  | [], _, h => by cases h; exact .nil
  | d :: ds, _, h => by
    cases h with
    | cons a b => exact .cons (DP.dd d _ a) (DPs.dd ds _ b)
end
theorem DP.same {H H' : Hp} (e : Same H H') {v : V} {d : PyData} (h : DP H v d) : DP H' v d := DP.ext (same_extN e) d v h
theorem DPs.same {H H' : Hp} (e : Same H H') {vs : List V} {ds : List PyData} (h : DPs H vs ds) : DPs H' vs ds := DPs.ext (same_extN e) ds vs h
theorem DPs.len {H : Hp} : ∀ {xs : List V} {ds : List PyData}, DPs H xs ds → xs.length = ds.length
  | _, _, .nil => rfl
  | _, _, .cons _ b => by rw [List.length_cons, List.length_cons, b.len]
theorem DPs.app {H : Hp} : ∀ {xs ys : List V} {ds es : List PyData}, DPs H xs ds → DPs H ys es → DPs H (xs ++ ys) (ds ++ es)
  | _, _, _, _, .nil, k => k
  | _, _, _, _, .cons a b, k => .cons a (b.app k)
theorem DPs.ints {H : Hp} : ∀ ns : List Int, DPs H (ns.map V.int) (ns.map PyData.int)
  | [] => .nil
  | n :: r => .cons (.int n) (DPs.ints r)
theorem DPs.get {H : Hp} : ∀ {xs : List V} {ds : List PyData}, DPs H xs ds → ∀ (i : Nat) (x : V), xs[i]? = some x → ∃ d, ds[i]? = some d ∧ DP H x d
  | _, _, .cons a _, 0, x, e => by
    cases e
    exact ⟨_, rfl, a⟩
  | _, _, .cons _ b, i + 1, x, e => b.get i x e
theorem DPs.mem {H : Hp} {xs : List V} {ds : List PyData} (h : DPs H xs ds) {x : V} (hx : x ∈ xs) : ∃ d ∈ ds, DP H x d := by
  obtain ⟨i, e⟩ := List.mem_iff_getElem?.mp hx
  obtain ⟨d, e2, z⟩ := h.get i x e
  exact ⟨d, List.mem_of_getElem? e2, z⟩
theorem DP.kd {H : Hp} {v : V} {d : PyData} (h : DP H v d) : ∃ n, Kd H v n := by
  cases h with
  | non => exact ⟨_, .non⟩
  | bl b => exact ⟨_, .bl b⟩
  | int i => exact ⟨_, .int i⟩
  | str x => exact ⟨_, .str x⟩
  | dic a => exact ⟨_, .dic a⟩
  | lst a b => exact ⟨_, .lst a⟩
  | tup a b => exact ⟨_, .tup a⟩
/-! ### what the checks say of data -/
def okPy (lo hi : Int) : PyData → Bool
  | .int j => decide (lo ≤ j) && decide (j ≤ hi)
  | _ => false
def okPys : Nat → List PyData → Bool
  | _, [] => true
  | i, d :: ds => okPy 0 (i : Nat) d && okPys (i + 1) ds
def fitsD : PyData → Bool
  | .tuple ds => decide (ds.length < 40) && okPys 0 ds
  | _ => false
theorem DP.okV {H : Hp} {v : V} {d : PyData} (h : DP H v d) (lo hi : Int) : okV lo hi v = okPy lo hi d := by
  cases h <;> rfl
theorem okPys_all {H : Hp} : ∀ {xs : List V} {ds : List PyData} (k : Nat), DPs H xs ds → ((List.range xs.length).map fun i => PT.okV 0 ((k + i : Nat) : Int) (xs.getD i .non)).all id = okPys k ds
  | _, _, k, .nil => rfl
  | _, _, k, .cons (v := v) (vs := vs) a b => by
    rw [List.length_cons, List.range_succ_eq_map, List.map_cons, List.all_cons, List.map_map]
    have ih := okPys_all (k + 1) b
    have e : ((fun i => PT.okV 0 ((k + i : Nat) : Int) ((v :: vs).getD i V.non)) ∘ Nat.succ) = fun i => PT.okV 0 ((k + 1 + i : Nat) : Int) (vs.getD i V.non) := by
      funext i
      show PT.okV 0 ((k + (i + 1) : Nat) : Int) _ = _
      rw [show k + (i + 1) = k + 1 + i by omega]
      rfl
    rw [e, ih, show okPys k (_ :: _) = (okPy 0 (k : Nat) _ && okPys (k + 1) _) from rfl, ← a.okV]
    rfl
theorem DP.fits {H : Hp} {v : V} {d : PyData} (h : DP H v d) (small : ∀ ds, d = .tuple ds → ds.length ≤ 300) : FitsIs H v (fitsD d) := by
  cases h with
  | non => exact .no .non (by decide)
  | bl b => exact .no (.bl b) (by decide)
  | int i => exact .no (.int i) (by decide)
  | str x => exact .no (.str x) (by decide)
  | dic a => exact .no (.dic a) (by decide)
  | lst a b => exact .no (.lst a) (by decide)
  | @tup a xs ds e b =>
    have s := small ds rfl
    have z : fitsD (.tuple ds) = fitsV xs := by
      show (decide (ds.length < 40) && okPys 0 ds) = (decide (xs.length < 40) && (okVs xs).all id)
      unfold okVs
      rw [← okPys_all 0 b, b.len]
      congr 2
      refine List.map_congr_left fun i hi => ?_
      rw [Nat.zero_add]
    rw [z]
    exact .tup e (by rw [b.len]; exact s) fun x hx => let ⟨d, _, k⟩ := b.mem hx; k.kd
/-! ### lists of plain data, where b is written to -/
theorem PotNe.same {H H' : Hp} {b : Addr} (e : Same H H') (h : H b ≠ none) : H' b ≠ none := fun z => by
  cases e2 : H b with
  | none => exact h e2
  | some o => rw [e _ _ e2] at z; cases z
/-! ### written values: te reads a display of d -/
def LEv (b : Addr) (te : TE) (d : PyData) : Prop := ∀ (σ : L2.St) (H : Hp) (Q : VK), H b ≠ none → (∀ v H', Same H H' → DP (hide H' b) v d → Q v H') → te σ H Q
def LEvs (b : Addr) (ta : TA) (ds : List PyData) : Prop := ∀ (σ : L2.St) (H : Hp) (Q : List V → Hp → Prop), H b ≠ none → (∀ vs H', Same H H' → DPs (hide H' b) vs ds → Q vs H') → ta σ H Q
section
variable {K : PySem.W.Frag} {b : Addr} {te : TE} {ta : TA} {d : PyData} {ds : List PyData}
/-- a written value, as one step -/
def tLev (b : Addr) (d : PyData) : TE := fun _ H Q => H b ≠ none ∧ ∀ v H', Same H H' → DP (hide H' b) v d → Q v H'
def tLevs (b : Addr) (ds : List PyData) : TA := fun _ H Q => H b ≠ none ∧ ∀ vs H', Same H H' → DPs (hide H' b) vs ds → Q vs H'
end
theorem dp_cut {H : Hp} : ∀ {xs : List V} {ds : List PyData} (n : Nat), DPs H xs ds → DPs H (xs.take n) (ds.take n) ∧ DPs H (xs.drop n) (ds.drop n)
  | _, _, 0, h => ⟨.nil, h⟩
  | _, _, n + 1, .nil => ⟨.nil, .nil⟩
  | _, _, n + 1, .cons a b => ⟨.cons a (dp_cut n b).1, (dp_cut n b).2⟩
/-! ### what may be shown, and is short -/
def NiceV (d : PyData) : Prop := Nice 20000 6 d
def niceB (d : PyData) : Bool := d.showable && decide (d.depth ≤ 6) && d.leavesShort 60 && decide (d.weight ≤ 20000)
end PT

set_option maxHeartbeats 4000000
/-! expressions read as data: at slots that hold data, in any heap that grew from one, but for some lists that are written to -/
namespace PT
open PySem PySem.Spec PyProof.Rows L2 LamX NdefX
/-- the heap without some lists -/
def hides (bs : List Addr) (H : Hp) : Hp := fun c => if c ∈ bs then none else H c
theorem hides_one (b : Addr) (H : Hp) : hides [b] H = hide H b := by
  funext c
  unfold hides hide
  by_cases z : c = b
  · rw [if_pos z, if_pos (List.mem_singleton.mpr z)]
  · rw [if_neg z, if_neg fun y => z (List.mem_singleton.mp y)]
/-- the lists are there -/
def Ther (bs : List Addr) (H : Hp) : Prop := ∀ b ∈ bs, H b ≠ none
theorem Ther.same {bs : List Addr} {H H' : Hp} (e : Same H H') (h : Ther bs H) : Ther bs H' := fun b m => PotNe.same e (h b m)
theorem Ther.ne {bs : List Addr} {H : Hp} {c : Addr} (h : Ther bs H) (n : H c = none) : c ∉ bs := fun m => h c m n
theorem ther_one {b : Addr} {H : Hp} (h : H b ≠ none) : Ther [b] H := fun c m => by
  rw [List.mem_singleton.mp m]
  exact h
def Rd (bs : List Addr) (G : Hp) (σ : L2.St) (te : TE) (d : PyData) : Prop := ∀ (H : Hp) (Q : VK), Same G (hides bs H) → Ther bs H → (∀ v H', Same H H' → DP (hides bs H') v d → Q v H') → te σ H Q
def Rds (bs : List Addr) (G : Hp) (σ : L2.St) (ta : TA) (ds : List PyData) : Prop := ∀ (H : Hp) (Q : List V → Hp → Prop), Same G (hides bs H) → Ther bs H → (∀ vs H', Same H H' → DPs (hides bs H') vs ds → Q vs H') → ta σ H Q
section
variable {K : PySem.W.Frag} {bs : List Addr} {G : Hp} {σ : L2.St} {te tf : TE} {ta : TA} {d : PyData} {ds es : List PyData}
theorem Rd.run {b : Addr} (h : Rd [b] G σ te d) {H : Hp} {Q : VK} (s : Same G (hide H b)) (hb : H b ≠ none) (q : ∀ v H', Same H H' → DP (hide H' b) v d → Q v H') : te σ H Q :=
  h H Q (by rw [hides_one]; exact s) (ther_one hb) fun v H' s1 hv => q v H' s1 (by rw [hides_one] at hv; exact hv)
theorem cutV_last (xs : List V) : cutV xs none (some (-1)) = xs.take (xs.length - 1) := by
  unfold cutV
  rw [HT.sIx_none, List.drop_zero, Nat.sub_zero]
  congr 1
  unfold HT.sIx
  simp
  omega
theorem DPs.takes {H : Hp} {xs : List V} (n : Nat) (h : DPs H xs ds) : DPs H (xs.take n) (ds.take n) := (dp_cut n h).1
abbrev tLen (K : PySem.W.Frag) (te : TE) : TE := tCB (fun xs H Q => ∃ p ys, xs = [.ref p] ∧ (SqL K H p ys ∨ SqT K H p ys) ∧ Q (.int (ys.length : Int)) H) (tCons te tNil)
abbrev tTupOf (K : PySem.W.Frag) (te : TE) : TE := tCB (fun xs H Q => ∃ p ys, xs = [.ref p] ∧ ((SqL K H p ys ∧ ∀ l, H l = none → Q (.ref l) (upd H l (.tup ys))) ∨ (SqT K H p ys ∧ Q (.ref p) H))) (tCons te tNil)
end
section
variable {X : Cx}
/-- max(xs), xs of data alike: one of them -/
def rMaxL (K : PySem.W.Frag) : List V → Hp → VK → Prop := fun vs H Q => ∃ (a : Addr) (xs : List V) (d : PyData) (ds : List PyData), vs = [.ref a] ∧ SqL K H a xs ∧ DpAll K H xs (d :: ds) ∧ PySem.W.AlikeAll (d :: ds) ∧ PyData.depthAll (d :: ds) ≤ 8 ∧ ∀ (i : Nat) (v : V), xs[i]? = some v → Q v H
end
end PT
namespace PT
open PySem PySem.Spec PyProof.Rows L2 LamX NdefX
/-- an expression that is read as data at once -/
noncomputable def tMark (te : TE) : TE := Classical.choose (⟨te, rfl⟩ : ∃ t : TE, t = te)
end PT
namespace PT
open PySem PySem.Spec PyProof.Rows L2 LamX NdefX
end PT
namespace PT
open PySem PySem.Spec PyProof.Rows L2 LamX NdefX
end PT

set_option maxHeartbeats 4000000
/-! a tuple times one: it is the tuple itself -/
namespace PT
open PySem PySem.Spec PyProof.Rows L2
/-- t * k, k from 1 on -/
def rRepU : R2 := fun x y H Q => ∃ a k vs, x = .ref a ∧ y = .int k ∧ H a = some (.tup vs) ∧ vs ≠ [] ∧ 1 ≤ k ∧ k ≤ 1000 ∧ vs.length ≤ 1000 ∧
  ∀ p H', Same H H' → H' p = some (.tup (List.replicate k.toNat vs).flatten) → Q (.ref p) H'
end PT

set_option maxHeartbeats 4000000
/-! readings as data: tuples -/
namespace PT
open PySem PySem.Spec PyProof.Rows L2
/-- t + u: one of the two where the other is empty -/
def rCatT : R2 := fun x y H Q => ∃ a b xs ys, x = .ref a ∧ y = .ref b ∧ H a = some (.tup xs) ∧ H b = some (.tup ys) ∧ xs.length + ys.length ≤ 1000 ∧ (xs = [] → Q (.ref b) H) ∧ (ys = [] → Q (.ref a) H) ∧ ∀ p, H p = none → Q (.ref p) (upd H p (.tup (xs ++ ys)))
theorem op_catT {X : Cx} : OpR X (binaryOp .Add) rCatT := by
  intro pins st σ H x y v u Q I rx ry h
  obtain ⟨a, b, xs, ys, rfl, rfl, ea, eb, hl, q1, q2, q⟩ := h
  exact op_catA pins st σ H _ _ v u Q I rx ry ⟨a, b, xs, ys, rfl, rfl, .inl (.inl ea), .inl (.inl eb), Nat.le_of_lt (small1000 hl), fun e => q1 e, fun _ e => q2 e, fun _ _ p np => q p np⟩
/-- t[i:j]: the tuple itself where nothing is cut -/
def rSlT : V → Option Int → Option Int → Hp → VK → Prop := fun x lo hi H Q => ∃ a xs, x = .ref a ∧ H a = some (.tup xs) ∧ (cutV xs lo hi = xs → Q (.ref a) H) ∧ ∀ p, H p = none → Q (.ref p) (upd H p (.tup (cutV xs lo hi)))
theorem sl_tupT {X : Cx} : SlR X rSlT := by
  intro pins st σ H x v vl vu lo hi sl Q I rx hs pl pu h
  obtain ⟨a, xs, rfl, ea, q1, q⟩ := h
  refine sl_tupA pins st σ H _ v vl vu lo hi sl Q I rx hs pl pu ⟨a, xs, rfl, .inl (.inl ea), fun e => q1 ?_, fun _ p np => q p np⟩
  unfold cutV
  rw [e.1, e.2, List.drop_zero, Nat.sub_zero, List.take_length]
/-- t * k, k from 1 on: the tuple itself where k is 1 -/
def rRepV : R2 := fun x y H Q => ∃ a k vs, x = .ref a ∧ y = .int k ∧ H a = some (.tup vs) ∧ vs ≠ [] ∧ 1 ≤ k ∧ k ≤ 1000 ∧ vs.length ≤ 1000 ∧ (k = 1 → Q (.ref a) H) ∧ ∀ p, H p = none → Q (.ref p) (upd H p (.tup (List.replicate k.toNat vs).flatten))
section
variable {K : PySem.W.Frag} {bs : List Addr} {G : Hp} {σ : L2.St} {te tf : TE} {ta : TA} {d : PyData} {ds es : List PyData}
abbrev tLstOf (K : PySem.W.Frag) (te : TE) : TE := tCB (fun xs H Q => ∃ p ys, xs = [.ref p] ∧ (SqL K H p ys ∨ SqT K H p ys) ∧ ∀ l, H l = none → Q (.ref l) (upd H l (.lst ys))) (tCons te tNil)
end
end PT

set_option maxHeartbeats 4000000
/-! tuples of ints as data -/
namespace PT
open PySem PySem.Spec PyProof.Rows L2
theorem shaped_tints (ns : List Int) : SeqAt.shaped (.tuple (ns.map PyData.int)) = true := by
  unfold SeqAt.shaped
  simp only [PyData.canLay0, PyData.depth, depth_ints, lay_ints, Bool.true_and]
  decide
theorem eqvAll_ints (a b : List Int) : PyData.eqvAll (a.map PyData.int) (b.map PyData.int) = decide (a = b) := by
  have z := eqv_ints a b
  simp only [PyData.eqv] at z
  exact z
theorem eqv_tup (a b : List Int) : PyData.eqv (.tuple (a.map PyData.int)) (.tuple (b.map PyData.int)) = decide (a = b) := by
  simp only [PyData.eqv]
  exact eqvAll_ints a b
end PT


set_option maxHeartbeats 4000000
/-! live plants: sell, add, remove, log, len, == -/
namespace PT
open PySem PySem.Spec PyProof.Rows L2 LamX NdefX
theorem plant_snoc {pl : List Int} {j : Nat} (h : Plant pl) (hj : j ≤ pl.length) (l : pl.length + 1 ≤ 39) : Plant (pl ++ [(j : Int)]) := by
  refine ⟨by rw [List.length_append]; exact l, fun i x e => ?_⟩
  rcases Nat.lt_or_ge i pl.length with c | c
  · rw [List.getElem?_append_left c] at e
    exact h.ok i x e
  · rw [List.getElem?_append_right c] at e
    obtain ⟨z, ez⟩ : ∃ z, z = i - pl.length := ⟨_, rfl⟩
    rw [← ez] at e
    cases z with
    | zero =>
      cases e
      omega
    | succ z => simp at e
theorem plant_cut {pl : List Int} (h : Plant pl) (n : Nat) : Plant (pl.take n) := by
  refine ⟨by rw [List.length_take]; have := h.len; omega, fun i x e => h.ok i x ?_⟩
  rw [List.getElem?_take] at e
  split at e
  · exact e
  · cases e
theorem nd_snoc {ss : List Int} (h : ss.Nodup) : (ss ++ [mxv ss + 1]).Nodup := by
  rw [List.nodup_append]
  refine ⟨h, by simp, fun a ha b hb => ?_⟩
  rw [List.mem_singleton.mp hb]
  intro e
  have := (mxv_mem (List.ne_nil_of_mem ha)).2 a ha
  omega
theorem cut_back {α : Type} (f : α → V) (xs : List α) : cutV (xs.map f) none (some (-1)) = (xs.take (xs.length - 1)).map f := by
  rw [cutV_last, List.length_map, List.map_take]
theorem catT_any {H : Hp} {a b : Addr} {xs ys : List V} {Q : VK} (ea : H a = some (.tup xs)) (eb : H b = some (.tup ys)) (l : xs.length + ys.length ≤ 1000) (k : ∀ p H', Same H H' → H' p = some (.tup (xs ++ ys)) → Q (.ref p) H') : rCatT (.ref a) (.ref b) H Q :=
  ⟨a, b, xs, ys, rfl, rfl, ea, eb, l, fun e => k b H (Same.refl H) (by rw [e]; exact eb), fun e => k a H (Same.refl H) (by rw [e, List.append_nil]; exact ea), fun p np => k p _ (same_new np) upd_same⟩
theorem slT_any {H : Hp} {a : Addr} {xs : List V} {lo hi : Option Int} {Q : VK} (ea : H a = some (.tup xs)) (k : ∀ p H', Same H H' → H' p = some (.tup (cutV xs lo hi)) → Q (.ref p) H') : rSlT (.ref a) lo hi H Q :=
  ⟨a, xs, rfl, ea, fun e => k a H (Same.refl H) (by rw [e]; exact ea), fun p np => k p _ (same_new np) upd_same⟩
def opSell (j : Nat) : Op := ("sell", [(j : Int)])
def opAdd (j : Nat) : Op := ("add", [(j : Int)])
def opRem : Op := ("remove", [])
section
variable {P : Program} {w : World} {K : PySem.W.Frag} {mg : Str → Option Value} {base : Heap}
def spLvSell (T : Tx K mg) : Sp := fun vs H Q _ => ∃ (x r p q : Addr) (pl ss : List Int) (es : List Ent) (j : Nat), vs = [.ref x, .int (j : Int)] ∧ LiveAt T.x_LivePlant H x r p q pl ss es ∧ j ≤ pl.length ∧ es.length ≤ 1000 ∧ Tabs T.tabW H ∧
  ∀ (H' : Hp) (q2 : Addr), BarL x r H H' → Tabs T.tabW H' → LiveAt T.x_LivePlant H' x r p q2 pl (day pl ss j).2 (es ++ [⟨opSell j, pl, ss⟩]) → Q (.int (bx ss j)) H'
theorem ok_lv_sell (T : Tx K mg) (B2 : TabB base mg T.c_oldest_giver T.P_oldest_giver) : FnOk P w K mg base CX0 9 T.f_lv_sell T.d_lv_sell ["self", "station"] (spLvSell T) := by
  refine T.F_lv_sell.ok scLvSell (fun vs H Q E h => ?_) (fun cdv A outer s H vs Q E hr h => ?_)
  · obtain ⟨x, r, p, q, pl, ss, es, j, rfl, _⟩ := h
    rfl
  · obtain ⟨x, r, p, q, pl, ss, es, j, rfl, L, hj, hl, hT, k⟩ := h
    have nd := scLvSell.nd
    refine ⟨_, (pss_cons (ps_expr (pe_call (T.checkStation (k := 0)) (hr.mono (by omega)) (by rfl) T.g_check_station T.F_check_station.kp T.b_check_station .nil pass0 (pa_cons (pe_fld (pv 0) rfl) (pa_cons (pv 1) pa_nil))))
(pss_one (ps_ret (pe_meth (pv 0) T.C_LivePlant T.M_lv_pull (ok_lv_pull T B2) (hr.mono (by omega)) T.b_lv_pull .nil pass0 (pa_cons (pe_tup (pa_cons pe_str (pa_cons (pv 1) pa_nil))) (pa_cons (pv 1) pa_nil)))))), ?_⟩
    obtain ⟨dx, e⟩ := L.ob
    refine ⟨.ref x, rfl, x, _, dx, _, _, rfl, e, T.C_LivePlant, T.a_customers, lvF_c _ _ _, .int (j : Int), rfl, p, pl.map V.int, (j : Int), rfl, L.st.P.seq, by omega, by rw [List.length_map]; omega, ?_⟩
    refine ⟨.ref x, rfl, x, dx, _, rfl, e, lvF_no _ _ _ (by decide +kernel) (by decide +kernel) (by decide +kernel), .int (j : Int), rfl, (by show 2 ≤ sizeLine; decide), fun o no => ?_⟩
    have s1 := same_new (o := .tup [V.str "sell", .int (j : Int)]) no
    refine ⟨.int (j : Int), rfl, x, r, p, q, pl, ss, es, .ref o, opSell j, j, rfl, L.same s1, ⟨o, rfl, upd_same⟩, hj, hl, tabs_same hT s1, fun H2 q2 b2 t2 L2 => k H2 q2 ((extN_barL (same_extN s1)).trans b2) t2 L2⟩
def spLvAdd (T : Tx K mg) : Sp := fun vs H Q _ => ∃ (x r p q : Addr) (pl ss : List Int) (es : List Ent) (j : Nat), vs = [.ref x, .int (j : Int)] ∧ LiveAt T.x_LivePlant H x r p q pl ss es ∧ j ≤ pl.length ∧ pl.length + 1 ≤ 39 ∧ es.length ≤ 1000 ∧
  ∀ (H' : Hp) (p2 q2 : Addr), Bar2 x r H H' → LiveAt T.x_LivePlant H' x r p2 q2 (pl ++ [(j : Int)]) (ss ++ [mxv ss + 1]) (es ++ [⟨opAdd j, pl, ss⟩]) → Q .non H'
theorem ok_lv_add (T : Tx K mg) : FnOk P w K mg base CX0 4 T.f_lv_add T.d_lv_add ["self", "station"] (spLvAdd T) := by
  refine T.F_lv_add.ok scLvAdd (fun vs H Q E h => ?_) (fun cdv A outer s H vs Q E hr h => ?_)
  · obtain ⟨x, r, p, q, pl, ss, es, j, rfl, _⟩ := h
    rfl
  · obtain ⟨x, r, p, q, pl, ss, es, j, rfl, L, hj, h39, hl, k⟩ := h
    have nd := scLvAdd.nd
    refine ⟨_, (pss_cons (ps_expr (pe_call (T.checkStation (k := 0)) (hr.mono (by omega)) (by rfl) T.g_check_station T.F_check_station.kp T.b_check_station .nil pass0 (pa_cons (pe_fld (pv 0) rfl) (pa_cons (pv 1) pa_nil))))
(pss_cons (ps_if (pt_cmpR op_ge (pe_callB call_len_seq (by rfl) T.n_len PySem.boot_len (pa_cons (pe_fld (pv 0) rfl) pa_nil)) (pe_glob (v := .int 40) (by rfl) T.g_MOST_STATIONS ⟨_, rfl⟩) (nomark _))
(pss_one ps_never) pss_nil)
(pss_one (ps_expr (pe_meth (pv 0) T.C_LivePlant T.M_lv_change (ok_lv_change T) (hr.mono (by omega)) T.b_lv_change .nil pass0 (pa_cons (pe_tup (pa_cons pe_str (pa_cons (pv 1) pa_nil))) (pa_cons (pe_op op_catT (pe_fld (pv 0) rfl) (pe_tup (pa_cons (pv 1) pa_nil))) (pa_cons (pe_op op_catT (pe_fld (pv 0) rfl) (pe_tup (pa_cons (pe_op op_add (pe_callB (call_maxT rfl hr.units) (by rfl) T.n_max (by decide +kernel) (pa_cons (pe_fld (pv 0) rfl) pa_nil)) pe_int) pa_nil))) pa_nil)))))))), ?_⟩
    obtain ⟨dx, e⟩ := L.ob
    have St := L.st
    have ls := St.ls
    refine ⟨.ref x, rfl, x, _, dx, _, _, rfl, e, T.C_LivePlant, T.a_customers, lvF_c _ _ _, .int (j : Int), rfl, p, pl.map V.int, (j : Int), rfl, L.st.P.seq, by omega, by rw [List.length_map]; omega, ?_⟩
    refine ⟨.ref x, rfl, x, _, dx, _, _, rfl, e, T.C_LivePlant, T.a_boxes, lvF_b _ _ _, q, _, rfl, .inr (.inl (.inl St.S)), _, _, rfl, rfl, _, rfl, ?_⟩
    rw [List.length_map, decide_eq_false (by omega)]
    refine iteF ?_
    refine ⟨.ref x, rfl, x, dx, _, rfl, e, lvF_no _ _ _ (by decide +kernel) (by decide +kernel) (by decide +kernel), .int (j : Int), rfl, (by show 2 ≤ sizeLine; decide), fun o no => ?_⟩
    have s1 := same_new (o := .tup [V.str "add", .int (j : Int)]) no
    have e1 := s1 _ _ e
    refine ⟨.ref x, rfl, x, _, dx, _, _, rfl, e1, T.C_LivePlant, T.a_customers, lvF_c _ _ _, .int (j : Int), rfl, (by show 1 ≤ sizeLine; decide), fun o2 no2 => ?_⟩
    have s2 := same_new (o := .tup [V.int (j : Int)]) no2
    refine catT_any (xs := pl.map V.int) (ys := [.int (j : Int)]) ((s2 _ _ (s1 _ _ St.P.at_))) upd_same (by rw [List.length_map]; show _ + 1 ≤ _; omega) fun p2 H3 s3 e3 => ?_
    have s13 := s1.trans (s2.trans s3)
    have e4 := s13 _ _ e
    refine ⟨.ref x, rfl, x, _, dx, _, _, rfl, e4, T.C_LivePlant, T.a_boxes, lvF_b _ _ _, .ref x, rfl, x, _, dx, _, _, rfl, e4, T.C_LivePlant, T.a_boxes, lvF_b _ _ _, ?_⟩
    have lss : ss ≠ [] := fun z => by rw [z] at ls; simp at ls
    refine ⟨q, ss, rfl, .inl (.inl (s13 _ _ St.S)), lss, _, _, rfl, rfl, (by show 1 ≤ sizeLine; decide), fun o5 no5 => ?_⟩
    have s5 := same_new (o := .tup [V.int (mxv ss + 1)]) no5
    refine catT_any (xs := ss.map V.int) (ys := [.int (mxv ss + 1)]) (s5 _ _ (s13 _ _ St.S)) upd_same (by rw [List.length_map]; show _ + 1 ≤ _; omega) fun q2 H4 s6 e6 => ?_
    have s14 := s13.trans (s5.trans s6)
    have P2 : PlantAt H4 p2 (pl ++ [(j : Int)]) := ⟨s6 _ _ (s5 _ _ (by rw [e3, List.map_append]; rfl)), plant_snoc St.P.ok hj h39⟩
    refine ⟨x, r, p, q, p2, q2, pl, ss, pl ++ [(j : Int)], ss ++ [mxv ss + 1], es, .ref o, opAdd j, rfl, L.same s14, ⟨P2, by rw [e6, List.map_append]; rfl, by rw [List.length_append, List.length_append, ls]; rfl, nd_snoc St.nd⟩, ⟨o, rfl, (s2.trans (s3.trans (s5.trans s6))) _ _ upd_same⟩, hl, fun H5 b5 L5 => ?_⟩
    exact k H5 p2 q2 ((Same.bar2 s14).trans b5) L5
def spLvRem (T : Tx K mg) : Sp := fun vs H Q _ => ∃ (x r p q : Addr) (pl ss : List Int) (es : List Ent), vs = [.ref x] ∧ LiveAt T.x_LivePlant H x r p q pl ss es ∧ 1 ≤ pl.length ∧ es.length ≤ 1000 ∧
  ∀ (H' : Hp) (p2 q2 : Addr), Bar2 x r H H' → LiveAt T.x_LivePlant H' x r p2 q2 (pl.take (pl.length - 1)) (ss.take (ss.length - 1)) (es ++ [⟨opRem, pl, ss⟩]) → Q .non H'
theorem ok_lv_remove (T : Tx K mg) : FnOk P w K mg base CX0 4 T.f_lv_remove T.d_lv_remove ["self"] (spLvRem T) := by
  refine T.F_lv_remove.ok scLvRemove (fun vs H Q E h => ?_) (fun cdv A outer s H vs Q E hr h => ?_)
  · obtain ⟨x, r, p, q, pl, ss, es, rfl, _⟩ := h
    rfl
  · obtain ⟨x, r, p, q, pl, ss, es, rfl, L, h1, hl, k⟩ := h
    have nd := scLvRemove.nd
    refine ⟨_, (pss_cons (ps_if (pt_cmpR op_eq (pe_callB call_len_seq (by rfl) T.n_len PySem.boot_len (pa_cons (pe_fld (pv 0) rfl) pa_nil)) pe_int (nomark _))
(pss_one ps_never) pss_nil)
(pss_one (ps_expr (pe_meth (pv 0) T.C_LivePlant T.M_lv_change (ok_lv_change T) (hr.mono (by omega)) T.b_lv_change .nil pass0 (pa_cons (pe_tup (pa_cons pe_str pa_nil)) (pa_cons (pe_slice sl_tupT (pe_fld (pv 0) rfl) po_none (po_some (pe_un un_neg pe_int))) (pa_cons (pe_slice sl_tupT (pe_fld (pv 0) rfl) po_none (po_some (pe_un un_neg pe_int))) pa_nil))))))), ?_⟩
    obtain ⟨dx, e⟩ := L.ob
    have St := L.st
    have ls := St.ls
    refine ⟨.ref x, rfl, x, _, dx, _, _, rfl, e, T.C_LivePlant, T.a_boxes, lvF_b _ _ _, q, _, rfl, .inr (.inl (.inl St.S)), rfl, _, rfl, ?_⟩
    rw [List.length_map, decide_eq_false (fun z => by have z := V.int.inj z; omega)]
    refine iteF ?_
    refine ⟨.ref x, rfl, x, dx, _, rfl, e, lvF_no _ _ _ (by decide +kernel) (by decide +kernel) (by decide +kernel), (by show 1 ≤ sizeLine; decide), fun o no => ?_⟩
    have s1 := same_new (o := .tup [V.str "remove"]) no
    have e1 := s1 _ _ e
    refine ⟨.ref x, rfl, x, _, dx, _, _, rfl, e1, T.C_LivePlant, T.a_customers, lvF_c _ _ _, 1, rfl, _, rfl, ?_⟩
    refine slT_any (s1 _ _ St.P.at_) fun p2 H2 s2 e2 => ?_
    have s12 := s1.trans s2
    refine ⟨.ref x, rfl, x, _, dx, _, _, rfl, s12 _ _ e, T.C_LivePlant, T.a_boxes, lvF_b _ _ _, 1, rfl, _, rfl, ?_⟩
    refine slT_any (s12 _ _ St.S) fun q2 H3 s3 e3 => ?_
    have s13 := s12.trans s3
    rw [cut_back] at e2 e3
    refine ⟨x, r, p, q, p2, q2, pl, ss, pl.take (pl.length - 1), ss.take (ss.length - 1), es, .ref o, opRem, rfl, L.same s13, ⟨⟨s3 _ _ e2, plant_cut St.P.ok _⟩, e3, by rw [List.length_take, List.length_take, ls]; omega, St.nd.sublist (List.take_sublist _ _)⟩, ⟨o, rfl, (s2.trans s3) _ _ upd_same⟩, hl, fun H5 b5 L5 => ?_⟩
    exact k H5 p2 q2 ((Same.bar2 s13).trans b5) L5
/-! ### len and log -/
def spLvLen (T : Tx K mg) : Sp := fun vs H Q _ => ∃ (x p q r : Addr) (ss : List Int), vs = [.ref x] ∧ (∃ dx, H x = some (.ins T.x_LivePlant dx (lvF p q r))) ∧ H q = some (.tup (ss.map V.int)) ∧ Q (.int (ss.length : Int)) H
/-- a list of operations -/
structure LogAt (H : Hp) (os : List V) (ops : List Op) : Prop where
  len : os.length = ops.length
  at_ : ∀ (i : Nat) (o : V) (op : Op), os[i]? = some o → ops[i]? = some op → OpAt H o op
theorem LogAt.kt {H H' : Hp} (k : KT H H') {os : List V} {ops : List Op} (h : LogAt H os ops) : LogAt H' os ops := ⟨h.len, fun i o op a b => (h.at_ i o op a b).kt k⟩
theorem LogAt.snoc {H : Hp} {os : List V} {ops : List Op} {o : V} {op : Op} (h : LogAt H os ops) (x : OpAt H o op) : LogAt H (os ++ [o]) (ops ++ [op]) := by
  refine ⟨by rw [List.length_append, List.length_append, h.len]; rfl, fun i u f a b => ?_⟩
  have lv := h.len
  rcases Nat.lt_or_ge i os.length with c | c
  · rw [List.getElem?_append_left c] at a
    rw [List.getElem?_append_left (by omega)] at b
    exact h.at_ i u f a b
  · rw [List.getElem?_append_right c] at a
    rw [List.getElem?_append_right (by omega)] at b
    rw [lv] at a
    obtain ⟨z, ez⟩ : ∃ z, z = i - ops.length := ⟨_, rfl⟩
    rw [← ez] at a b
    cases z with
    | zero => cases a; cases b; exact x
    | succ z => simp at a
def spLvLog (T : Tx K mg) : Sp := fun vs H Q _ => ∃ (x r p q : Addr) (pl ss : List Int) (es : List Ent), vs = [.ref x] ∧ LiveAt T.x_LivePlant H x r p q pl ss es ∧ es.length ≤ 1000 ∧
  ∀ (H' : Hp) (l : Addr) (os : List V), Same H H' → H l = none → H' l = some (.lst os) → LogAt H' os (es.map Ent.op) → Q (.ref l) H'
/-! ### == -/
theorem eqvT2 (xs ys : List Int) : PyData.eqv (.tuple (xs.map PyData.int)) (.tuple (ys.map PyData.int)) = decide (xs = ys) := eqv_tup xs ys
def spLvEq (T : Tx K mg) : Sp := fun vs H Q _ => ∃ (x p q r x2 p2 q2 r2 : Addr) (pl ss pl2 ss2 : List Int), vs = [.ref x, .ref x2] ∧ (∃ dx, H x = some (.ins T.x_LivePlant dx (lvF p q r))) ∧ StAt H p q pl ss ∧ (∃ dx, H x2 = some (.ins T.x_LivePlant dx (lvF p2 q2 r2))) ∧ StAt H p2 q2 pl2 ss2 ∧ ∀ H', Same H H' → Q (.bl (decide (pl = pl2 ∧ ss = ss2))) H'
end
end PT


set_option maxHeartbeats 4000000
/-! operations of a live plant, drawn and performed -/
namespace PT
open PySem PySem.Spec PyProof.Rows L2 LamX NdefX
inductive Opn where
  | day
  | days (d : Nat)
  | sell (j : Nat)
  | add (j : Nat)
  | rem
def Opn.op : Opn → Op
  | .day => opDay
  | .days d => opDays d
  | .sell j => opSell j
  | .add j => opAdd j
  | .rem => opRem
/-- possible at a plant: up to so many days; so many stations are not reached -/
def Opn.ok (pl : List Int) (g : Nat) (m : Int) : Opn → Prop
  | .day => True
  | .days d => 1 ≤ d ∧ d ≤ g
  | .sell j => j ≤ pl.length
  | .add j => j ≤ pl.length ∧ (pl.length : Int) + 1 < m
  | .rem => 1 ≤ pl.length
/-- what it returns -/
def Opn.ans (ss : List Int) : Opn → V
  | .day => .int (bx ss 0)
  | .sell j => .int (bx ss j)
  | _ => .non
def Opn.pl (pl : List Int) : Opn → List Int
  | .add j => pl ++ [(j : Int)]
  | .rem => pl.take (pl.length - 1)
  | _ => pl
def Opn.ss (pl ss : List Int) : Opn → List Int
  | .day => dyn pl ss 1
  | .days d => dyn pl ss d
  | .sell j => (PT.day pl ss j).2
  | .add _ => ss ++ [mxv ss + 1]
  | .rem => ss.take (ss.length - 1)
theorem s1_ : decide (V.str "days" = V.str "day") = false := by decide +kernel
theorem s2_ : decide (V.str "sell" = V.str "day") = false := by decide +kernel
theorem s3_ : decide (V.str "add" = V.str "day") = false := by decide +kernel
theorem s4_ : decide (V.str "remove" = V.str "day") = false := by decide +kernel
theorem s5_ : decide (V.str "sell" = V.str "days") = false := by decide +kernel
theorem s6_ : decide (V.str "add" = V.str "days") = false := by decide +kernel
theorem s7_ : decide (V.str "remove" = V.str "days") = false := by decide +kernel
theorem s8_ : decide (V.str "add" = V.str "sell") = false := by decide +kernel
theorem s9_ : decide (V.str "remove" = V.str "sell") = false := by decide +kernel
theorem s10_ : decide (V.str "remove" = V.str "add") = false := by decide +kernel
section
variable {P : Program} {w : World} {K : PySem.W.Frag} {mg : Str → Option Value} {base : Heap}
def spDone (T : Tx K mg) : Sp := fun vs H Q _ => ∃ (x r p q : Addr) (pl ss : List Int) (es : List Ent) (o : V) (n : Opn) (m : Int), vs = [.ref x, o] ∧ LiveAt T.x_LivePlant H x r p q pl ss es ∧ OpAt H o n.op ∧ n.ok pl (10 ^ 30) m ∧ m ≤ 40 ∧ es.length ≤ 1000 ∧ Tabs T.tabW H ∧
  ∀ (H' : Hp) (p2 q2 : Addr), BarL x r H H' → Tabs T.tabW H' → LiveAt T.x_LivePlant H' x r p2 q2 (n.pl pl) (n.ss pl ss) (es ++ [⟨n.op, pl, ss⟩]) → Q (n.ans ss) H'
/-! ### drawn -/
def spOper (T : Tx K mg) : Sp := fun vs H Q _ => ∃ (b s p q : Addr) (pl ss : List Int) (m : Int) (g n : Nat), vs = [.ref b, .ref s, .int m, .int (g : Int)] ∧ PotAt H b n ∧ n ≤ 1000000 ∧ H s = some (.tup [.ref p, .ref q]) ∧ StAt H p q pl ss ∧ 1 ≤ g ∧ g ≤ 10 ^ 30 ∧
  ∀ (H' : Hp) (o : Addr) (op : Opn), PotAt H' b (n + 5) → Bar b H H' → H o = none → OpAt H' (.ref o) op.op → op.ok pl (max g 5) m → Q (.ref o) H'
theorem ok_oper (T : Tx K mg) : FnOk P w K mg base CX0 2 T.f__law_operation T.d__law_operation ["fount", "state", "most", "great"] (spOper T) := by
  refine T.F__law_operation.ok scLawOperation (fun vs H Q E h => ?_) (fun cdv A outer s0 H vs Q E hr h => ?_)
  · obtain ⟨b, s, p, q, pl, ss, m, g, n, rfl, _⟩ := h
    rfl
  · obtain ⟨b, s, p, q, pl, ss, m, g, n, rfl, hb, hn, es, St, g1, g2, k⟩ := h
    have nd := scLawOperation.nd
    have ls := St.ls
    have lp := St.P.ok.len
    have el : ((ss.map V.int).length : Nat) = ss.length := List.length_map ..
    refine ⟨_, (pss_cons (ps_set (i := 4) nd rfl (.inl rfl) (pe_callB call_len_seq (by rfl) T.n_len PySem.boot_len (pa_cons (pe_ix ix_tup (pv 1) pe_int (fun _ _ => rfl)) pa_nil)))
(pss_cons (ps_set (i := 5) nd rfl (.inl rfl) (pe_call (ok_sip T) (hr.mono (by omega)) (by rfl) T.g__law_sip T.F__law_sip.kp T.b__law_sip .nil pass0 (pa_cons (pv 0) (pa_cons pe_int pa_nil))))
(pss_cons (ps_if (pt_cmpR op_lt (pv 5) pe_int (nomark _))
(pss_one (ps_ret (pe_tup (pa_cons pe_str (pa_cons (pe_ix ix_list (pe_lst (pa_cons pe_int (pa_cons (pe_op op_add pe_int (pe_call (ok_sip T) (hr.mono (by omega)) (by rfl) T.g__law_sip T.F__law_sip.kp T.b__law_sip .nil pass0 (pa_cons (pv 0) (pa_cons pe_int pa_nil)))) (pa_cons (pe_op op_add pe_int (pe_call (ok_sip T) (hr.mono (by omega)) (by rfl) T.g__law_sip T.F__law_sip.kp T.b__law_sip .nil pass0 (pa_cons (pv 0) (pa_cons (pv 3) pa_nil)))) (pa_cons (pv 3) pa_nil))))) (pe_call (ok_sip T) (hr.mono (by omega)) (by rfl) T.g__law_sip T.F__law_sip.kp T.b__law_sip .nil pass0 (pa_cons (pv 0) (pa_cons pe_int pa_nil))) (fun _ _ => rfl)) pa_nil))))) pss_nil)
(pss_cons (ps_if (pt_cmpR op_lt (pv 5) pe_int (nomark _))
(pss_one (ps_ret (pe_tup (pa_cons pe_str (pa_cons (pe_call (ok_sip T) (hr.mono (by omega)) (by rfl) T.g__law_sip T.F__law_sip.kp T.b__law_sip .nil pass0 (pa_cons (pv 0) (pa_cons (pv 4) pa_nil))) pa_nil))))) pss_nil)
(Evl.pss_cut (ps_if (PW.pt (pw_and (pt_cmpR op_eq (pv 5) pe_int (nomark _)) (pw_and1 (pt_cmpR op_lt (pv 4) (pv 2) (nomark _)))))
(pss_one (ps_ret (pe_tup (pa_cons pe_str (pa_cons (pe_call (ok_sip T) (hr.mono (by omega)) (by rfl) T.g__law_sip T.F__law_sip.kp T.b__law_sip .nil pass0 (pa_cons (pv 0) (pa_cons (pv 4) pa_nil))) pa_nil))))) pss_nil)
(Evl.pss_cut (ps_if (PW.pt (pw_and (pt_cmpR op_eq (pv 5) pe_int (nomark _)) (pw_and1 (pt_cmpR op_gt (pv 4) pe_int (nomark _)))))
(pss_one (ps_ret (pe_tup (pa_cons pe_str pa_nil)))) pss_nil)
(pss_one (ps_ret (pe_tup (pa_cons pe_str pa_nil)))))))))), ?_⟩
    refine ⟨.ref s, rfl, s, _, 1, .ref q, rfl, rfl, .inl (.inl es), atI_nat (j := 1) rfl, q, _, rfl, .inr (.inl (.inl St.S)), ?_⟩
    refine ⟨.ref b, rfl, b, 8, n, rfl, by decide, by decide, hb, by omega, fun w1 H1 a0 a1 k1 B1 O1 => ?_⟩
    refine ⟨.int w1, rfl, _, _, rfl, rfl, _, rfl, ite2 (fun c => ?_) (fun c => ?_)⟩
    · refine ⟨.ref b, rfl, b, 5, n + 1, rfl, by decide, by decide, k1, by omega, fun r2 H2 c0 c1 k2 B2 O2 => ⟨_, _, rfl, rfl, ?_⟩⟩
      refine ⟨.ref b, rfl, .int (g : Int), rfl, b, (g : Int), n + 2, rfl, by omega, by omega, k2, by omega, fun r3 H3 d0 d1 k3 B3 O3 => ⟨_, _, rfl, rfl, .int (g : Int), rfl, (by show 4 ≤ sizeLine; decide), fun z nz => ?_⟩⟩
      have sz := same_new (o := .lst [V.int 1, .int (1 + r2), .int (1 + r3), .int (g : Int)]) nz
      have zb : z ≠ b := k3.some nz
      refine ⟨.ref b, rfl, b, 4, n + 3, rfl, by decide, by decide, k3.same sz, by omega, fun r4 H4 f0 f1 k4 B4 O4 => ?_⟩
      obtain ⟨d, ev, d1, d2⟩ : ∃ d : Nat, atI [V.int 1, .int (1 + r2), .int (1 + r3), .int (g : Int)] r4 = some (.int (d : Int)) ∧ 1 ≤ d ∧ d ≤ max g 5 := by
        have c : r4 = 0 ∨ r4 = 1 ∨ r4 = 2 ∨ r4 = 3 := by omega
        rcases c with rfl | rfl | rfl | rfl
        · exact ⟨1, rfl, by decide, by omega⟩
        · exact ⟨(1 + r2).toNat, by show some (V.int (1 + r2)) = _; congr 2; omega, by omega, by omega⟩
        · exact ⟨(1 + r3).toNat, by show some (V.int (1 + r3)) = _; congr 2; omega, by omega, by omega⟩
        · exact ⟨g, rfl, g1, by omega⟩
      refine ⟨z, _, r4, _, rfl, rfl, .inl (.inl (B4 _ _ zb upd_same)), ev, (by show 2 ≤ sizeLine; decide), fun o no => ?_⟩
      have BB : Bar b H H4 := (B1.trans B2).trans (B3.trans ((Same.bar sz).trans B4))
      have so := same_new (o := .tup [V.str "days", .int (d : Int)]) no
      have ob : o ≠ b := Ne.symm (Ne.symm (k4.some no))
      have nH : H o = none := by
        cases e : H o with
        | none => rfl
        | some u => rw [BB o u ob e] at no; cases no
      exact k _ o (.days d) ((k4.same so).mono (by omega)) (BB.trans (Same.bar so)) nH ⟨o, rfl, upd_same⟩ ⟨d1, d2⟩
    · refine ⟨.int w1, rfl, _, _, rfl, rfl, _, rfl, ite2 (fun c => ?_) (fun c => ?_)⟩
      · refine ⟨.ref b, rfl, _, rfl, b, _, n + 1, rfl, by omega, by omega, k1, by omega, fun r2 H2 c0 c1 k2 B2 O2 => ?_⟩
        obtain ⟨j, rfl⟩ := Int.eq_ofNat_of_zero_le c0
        refine ⟨(by show 2 ≤ sizeLine; decide), fun o no => ?_⟩
        have BB : Bar b H H2 := B1.trans B2
        have so := same_new (o := .tup [V.str "sell", .int (j : Int)]) no
        have ob : o ≠ b := k2.some no
        have nH : H o = none := by
          cases e : H o with
          | none => rfl
          | some u => rw [BB o u ob e] at no; cases no
        refine k _ o (.sell j) ((k2.same so).mono (by omega)) (BB.trans (Same.bar so)) nH ⟨o, rfl, upd_same⟩ ?_
        show j ≤ pl.length
        omega
      · refine ⟨fun σ G => σ = [some (.ref b), some (.ref s), some (.int m), some (.int (g : Int)), some (.int ((ss.map V.int).length : Int)), some (.int w1)] ∧ H1 = G, ?_, fun σ G pw => ?_⟩
        · refine ⟨.int w1, rfl, rfl, _, rfl, ite2 (fun c => ?_) (fun c => iteF ⟨rfl, rfl⟩)⟩
          refine ⟨_, rfl, .int m, rfl, _, _, rfl, rfl, _, rfl, ite2 (fun c => ?_) (fun c => ⟨rfl, rfl⟩)⟩
          · have c := of_decide_eq_true c
            refine ⟨.ref b, rfl, _, rfl, b, _, n + 1, rfl, by omega, by omega, k1, by omega, fun r2 H2 c0 c1 k2 B2 O2 => ?_⟩
            obtain ⟨j, rfl⟩ := Int.eq_ofNat_of_zero_le c0
            refine ⟨(by show 2 ≤ sizeLine; decide), fun o no => ?_⟩
            have BB : Bar b H H2 := B1.trans B2
            have so := same_new (o := .tup [V.str "add", .int (j : Int)]) no
            have ob : o ≠ b := k2.some no
            have nH : H o = none := by
              cases e : H o with
              | none => rfl
              | some u => rw [BB o u ob e] at no; cases no
            exact k _ o (.add j) ((k2.same so).mono (by omega)) (BB.trans (Same.bar so)) nH ⟨o, rfl, upd_same⟩ ⟨by omega, by omega⟩
        · obtain ⟨rfl, rfl⟩ := pw
          refine ⟨fun σ G => σ = [some (.ref b), some (.ref s), some (.int m), some (.int (g : Int)), some (.int ((ss.map V.int).length : Int)), some (.int w1)] ∧ H1 = G, ?_, fun σ G pw => ?_⟩
          · refine ⟨.int w1, rfl, rfl, _, rfl, ite2 (fun c => ?_) (fun c => iteF ⟨rfl, rfl⟩)⟩
            refine ⟨_, rfl, _, _, rfl, rfl, _, rfl, ite2 (fun c => ?_) (fun c => ⟨rfl, rfl⟩)⟩
            have c := of_decide_eq_true c
            refine ⟨(by show 1 ≤ sizeLine; decide), fun o no => ?_⟩
            have so := same_new (o := .tup [V.str "remove"]) no
            have ob : o ≠ b := k1.some no
            have nH : H o = none := by
              cases e : H o with
              | none => rfl
              | some u => rw [B1 o u ob e] at no; cases no
            exact k _ o .rem ((k1.same so).mono (by omega)) (B1.trans (Same.bar so)) nH ⟨o, rfl, upd_same⟩ (show 1 ≤ pl.length by omega)
          · obtain ⟨rfl, rfl⟩ := pw
            refine ⟨(by show 1 ≤ sizeLine; decide), fun o no => ?_⟩
            have so := same_new (o := .tup [V.str "day"]) no
            have ob : o ≠ b := k1.some no
            have nH : H o = none := by
              cases e : H o with
              | none => rfl
              | some u => rw [B1 o u ob e] at no; cases no
            exact k _ o .day ((k1.same so).mono (by omega)) (B1.trans (Same.bar so)) nH ⟨o, rfl, upd_same⟩ trivial
end
end PT

set_option maxHeartbeats 4000000
/-! the text of a plant and a stock -/
namespace PT
open PySem PySem.Spec PyProof.Rows L2
/-- a text out of parts -/
def tJoin (ts : List TE) : TE := fun σ H Q => tJs ts Str.empty σ H fun out H1 => Q (.str out) H1
/-- a number's text -/
def numT (i : Int) : Str := Str.ofString (toString i)
theorem numT_len {i : Int} (h : i.natAbs < 10 ^ 50) : (numT i).length ≤ 60 := by
  have z := (nice_int h).lv
  simp only [PyData.leavesShort, decide_eq_true_eq] at z
  exact z
theorem numT_log {i : Int} (h : i.natAbs < 10 ^ 50) : i.natAbs.log2 < 1920 := by
  by_cases z : i.natAbs = 0
  · rw [z]; decide
  · exact (Nat.log2_lt z).mpr (Nat.lt_trans h (by decide))
/-- what stands first in a station's line -/
def bossT (pl : List Int) (k : Nat) : Str := match k with
  | 0 => Str.ofString "shop"
  | k + 1 => numT (pl.getD k 0)
def bosses (pl : List Int) : List Str := Str.ofString "shop" :: pl.map numT
def lineT (a : Str) (i : Int) : Str := a ++ Str.ofString " " ++ numT i ++ Str.ofString "\n"
def linesT : List Str → List Int → List Str
  | a :: as, i :: is => lineT a i :: linesT as is
  | _, _ => []
def showT (pl ss : List Int) : Str := Txt.join Str.empty (linesT (bosses pl) ss)
theorem linesT_len : ∀ {as : List Str} {is : List Int}, as.length = is.length → (linesT as is).length = as.length
  | [], [], _ => rfl
  | a :: as, i :: is, h => by
    rw [linesT, List.length_cons, List.length_cons, linesT_len (Nat.succ.inj h)]
theorem lineT_len {a : Str} {i : Int} (ha : a.length ≤ 60) (hi : i.natAbs < 10 ^ 50) : (lineT a i).length ≤ 130 := by
  have z := numT_len hi
  unfold lineT
  rw [Str.length_append, Str.length_append, Str.length_append]
  have e1 : (Str.ofString " ").length = 1 := by decide
  have e2 : (Str.ofString "\n").length = 1 := by decide
  omega
theorem linesT_all {p : Str → Prop} : ∀ {as : List Str} {is : List Int}, (∀ a ∈ as, ∀ i ∈ is, p (lineT a i)) → ∀ y ∈ linesT as is, p y
  | [], _, _, y, h => by cases h
  | _ :: _, [], _, y, h => by cases h
  | a :: as, i :: is, q, y, h => by
    rcases List.mem_cons.mp h with rfl | h
    · exact q a List.mem_cons_self i List.mem_cons_self
    · exact linesT_all (fun b hb j hj => q b (List.mem_cons_of_mem _ hb) j (List.mem_cons_of_mem _ hj)) y h
theorem bosses_len {pl : List Int} (h : ∀ x ∈ pl, x.natAbs < 10 ^ 50) : ∀ a ∈ bosses pl, a.length ≤ 60 := fun a ha => by
  rcases List.mem_cons.mp ha with rfl | ha
  · decide
  · obtain ⟨x, hx, rfl⟩ := List.mem_map.mp ha
    exact numT_len (h x hx)
theorem sum_le {B : Nat} : ∀ {ys : List Str}, (∀ y ∈ ys, y.length ≤ B) → (ys.map (·.length)).sum ≤ ys.length * B
  | [], _ => Nat.zero_le _
  | y :: ys, h => by
    have z1 := h y List.mem_cons_self
    have z2 := sum_le (ys := ys) fun x hx => h x (List.mem_cons_of_mem _ hx)
    rw [List.map_cons, List.sum_cons, List.length_cons, Nat.succ_mul]
    omega
end PT

set_option maxHeartbeats 4000000
/-! numbers written and read -/
namespace PT
open PySem PySem.Spec PyProof.Rows L2 TL
/-! ### signs -/
theorem digit_small : ∀ c : Nat, c < 128 → Unicode.isDigit c = (decide (48 ≤ c) && decide (c ≤ 57)) := by
  have h : (List.range 128).all (fun c => Unicode.isDigit c == (decide (48 ≤ c) && decide (c ≤ 57))) = true := by decide +kernel
  exact fun c hc => eq_of_beq (List.all_eq_true.mp h c (List.mem_range.mpr hc))
theorem ascii_tl (x : Str) : Txt.isascii x = (tl x).all (fun c => decide (c < 128)) := by
  show x.cps.all _ = x.cps.toList.all _
  rw [Array.all_toList]
theorem digit_tl (x : Str) : Txt.isdigit x = (decide (0 < (tl x).length) && (tl x).all Unicode.isDigit) := by
  show (decide (x.length > 0) && x.cps.all _) = (_ && x.cps.toList.all _)
  rw [Array.all_toList, len_tl]
theorem pre_len {S l : List Nat} (h : pre S l = true) : S.length ≤ l.length := by
  have e := congrArg List.length (eq_of_beq h)
  rw [List.length_take] at e
  omega
theorem starts_tl (x y : Str) : Txt.startswith x y = pre (tl y) (tl x) := by
  have e : Builtin.Str.subAt x y 0 = pre (tl y) (tl x) := by
    rw [PySem.StrLaws.subAt_eq, List.drop_zero, len_tl y]
    rfl
  show (decide (0 + y.length ≤ x.length) && Builtin.Str.subAt x y 0) = _
  rw [e, len_tl x, len_tl y, Nat.zero_add]
  cases h : pre (tl y) (tl x) with
  | false => rw [Bool.and_false]
  | true => rw [decide_eq_true (pre_len h)]; rfl
theorem ends_tl (x y : Str) : Txt.endswith x y = (decide ((tl y).length ≤ (tl x).length) && ((tl x).drop ((tl x).length - (tl y).length) == tl y)) := by
  show (decide (0 + y.length ≤ x.length) && Builtin.Str.subAt x y (x.length - y.length)) = _
  rw [PySem.StrLaws.subAt_eq, len_tl x, len_tl y, Nat.zero_add]
  by_cases h : (tl y).length ≤ (tl x).length
  · rw [List.take_of_length_le (by rw [List.length_drop]; have e : x.cps.toList.length = (tl x).length := rfl; omega)]
  · rw [decide_eq_false h, Bool.false_and, Bool.false_and]
theorem rmpre_tl (x y : Str) : tl (Txt.removeprefix x y) = if pre (tl y) (tl x) = true then (tl x).drop (tl y).length else tl x := by
  rw [PySem.StrLaws.removeprefix_eq]
  have e : (decide (0 + y.length ≤ x.length) && Builtin.Str.subAt x y 0) = pre (tl y) (tl x) := starts_tl x y
  rw [e]
  by_cases h : pre (tl y) (tl x) = true
  · rw [if_pos h, if_pos h, tl_mk, len_tl x, len_tl y, List.take_of_length_le (by rw [List.length_drop]; exact Nat.le_refl _)]
  · rw [if_neg h, if_neg h]
theorem rmsuf_tl (x y : Str) : tl (Txt.removesuffix x y) = if Txt.endswith x y = true then (tl x).take ((tl x).length - (tl y).length) else tl x := by
  rw [PySem.StrLaws.removesuffix_eq]
  have e : (decide (0 + y.length ≤ x.length) && Builtin.Str.subAt x y (x.length - y.length)) = Txt.endswith x y := rfl
  rw [e]
  by_cases h : Txt.endswith x y = true
  · rw [if_pos h, if_pos h, tl_mk, List.drop_zero, Nat.sub_zero, len_tl x, len_tl y]
  · rw [if_neg h, if_neg h]
/-! ### decimal numbers -/
/-- as is_decimal tells it -/
def decT (x : Str) (m : Int) : Bool := if !Txt.isascii x then false else if !Txt.isdigit x then false else if (x.length : Int) > m then false else decide (x = Str.ofString "0") || !Txt.startswith x (Str.ofString "0")
/-- by the signs -/
def decL (l : List Nat) (m : Nat) : Prop := NumText.AllDigits l ∧ l ≠ [] ∧ l.length ≤ m ∧ (l = [48] ∨ l.head? ≠ some 48)
theorem tl_lit {s : String} {l : List Nat} (h : s.toList.map Char.toNat = l) : tl (Str.ofString s) = l := (tl_ofString s).trans h
theorem decT_iff (x : Str) (m : Nat) : decT x (m : Int) = true ↔ decL (tl x) m := by
  unfold decT decL
  rw [ascii_tl, digit_tl, starts_tl, len_tl, show tl (Str.ofString "0") = [48] from tl_lit (by decide)]
  have e0 : (x = Str.ofString "0") ↔ tl x = [48] := ⟨fun h => by rw [h]; exact tl_lit (by decide), fun h => ext_tl (h.trans (tl_lit (by decide)).symm)⟩
  have all : ((tl x).all (fun c => decide (c < 128)) = true ∧ (tl x).all Unicode.isDigit = true) ↔ NumText.AllDigits (tl x) := by
    constructor
    · rintro ⟨h1, h2⟩ c hc
      have a := of_decide_eq_true (List.all_eq_true.mp h1 c hc)
      have b := List.all_eq_true.mp h2 c hc
      rw [digit_small c a, Bool.and_eq_true, decide_eq_true_eq, decide_eq_true_eq] at b
      exact b
    · intro h
      refine ⟨List.all_eq_true.mpr fun c hc => decide_eq_true (by have := h c hc; omega), List.all_eq_true.mpr fun c hc => ?_⟩
      have := h c hc
      rw [digit_small c (by omega), decide_eq_true this.1, decide_eq_true this.2]
      rfl
  have hp : (pre [48] (tl x)) = true ↔ (tl x).head? = some 48 := by
    unfold pre
    cases tl x with
    | nil => simp
    | cons c r => simp
  cases h1 : (tl x).all (fun c => decide (c < 128)) with
  | false =>
    refine ⟨fun z => (by cases z), fun z => ?_⟩
    rw [(all.mpr z.1).1] at h1
    cases h1
  | true =>
    rw [if_neg (by decide)]
    cases h2 : (tl x).all Unicode.isDigit with
    | false =>
      rw [Bool.and_false]
      refine ⟨fun z => (by cases z), fun z => ?_⟩
      rw [(all.mpr z.1).2] at h2
      cases h2
    | true =>
      have hd := all.mp ⟨h1, h2⟩
      rw [Bool.and_true]
      by_cases h3 : 0 < (tl x).length
      · rw [decide_eq_true h3, if_neg (by decide)]
        have ne : tl x ≠ [] := fun z => by rw [z] at h3; exact absurd h3 (by decide)
        by_cases h4 : ((tl x).length : Int) > (m : Int)
        · rw [if_pos h4]
          exact ⟨fun z => (by cases z), fun z => absurd z.2.2.1 (by omega)⟩
        · rw [if_neg h4, Bool.or_eq_true, decide_eq_true_eq, e0, Bool.not_eq_true', ← Bool.not_eq_true, hp]
          exact ⟨fun z => ⟨hd, ne, by omega, z⟩, fun z => z.2.2.2⟩
      · rw [decide_eq_false h3, if_pos (by decide : (!false) = true)]
        exact ⟨fun z => (by cases z), fun z => absurd (List.length_pos_iff.mpr z.2.1) h3⟩
/-! ### the signs of a number -/
theorem numL_head {n : Nat} (h : n ≠ 0) : (numL n).head? ≠ some 48 := by
  induction n using Nat.strongRecOn with
  | _ n ih =>
    by_cases c : n < 10
    · rw [numL_lt c]
      show some (48 + n) ≠ some 48
      intro z
      have := Option.some.inj z
      omega
    · rw [numL_step (by omega), List.head?_append]
      have z := ih (n / 10) (by omega) (by omega)
      cases q : (numL (n / 10)).head? with
      | none => exact absurd (List.head?_eq_none_iff.mp q) (numL_ne _)
      | some v =>
        rw [q] at z
        exact z
theorem numL_dec {n m : Nat} (hm : 0 < m) (h : n < 10 ^ m) : decL (numL n) m := ⟨numL_digits n, numL_ne n, numL_len hm h, by
  by_cases c : n = 0
  · exact .inl (by rw [c]; exact numL_lt (by decide))
  · exact .inr (numL_head c)⟩
theorem numT_pos {i : Int} (h : 0 ≤ i) : tl (numT i) = numL i.natAbs := by
  obtain ⟨n, rfl⟩ := Int.eq_ofNat_of_zero_le h
  exact tl_num n
theorem numT_neg {i : Int} (h : i < 0) : tl (numT i) = 45 :: numL i.natAbs := by
  obtain ⟨n, rfl⟩ : ∃ n : Nat, i = Int.negSucc n := by
    cases i with
    | ofNat n => exact absurd h (by simp)
    | negSucc n => exact ⟨n, rfl⟩
  unfold numT
  rw [tl_ofString]
  show (toString (Int.negSucc n)).toList.map Char.toNat = 45 :: numL (n + 1)
  have e : toString (Int.negSucc n) = "-" ++ toString (n + 1) := rfl
  rw [e, String.toList_append, List.map_append]
  show 45 :: (toString (n + 1)).toList.map Char.toNat = _
  rw [← tl_ofString]
  exact congrArg (45 :: ·) (tl_num (n + 1))
def minus : Str := Str.ofString "-"
theorem tl_minus : tl minus = [45] := tl_lit (by decide)
/-- as number_in asks -/
def numB (x : Str) : Prop := decT (Txt.removeprefix x minus) ((40 : Nat) : Int) = true ∧ x ≠ Str.ofString "-0"
theorem num_ok {i : Int} (h : i.natAbs < 10 ^ 40) : numB (numT i) ∧ intText? (numT i) = some i ∧ (numT i).length ≤ 41 := by
  have hd := numL_dec (m := 40) (by decide) h
  by_cases c : 0 ≤ i
  · have e := numT_pos c
    have hp : ¬ pre [45] (tl (numT i)) = true := fun z => by
      rw [e] at z
      have hm := numL_free (n := i.natAbs) (s := 45) (.inl (by decide))
      unfold pre at z
      cases q : numL i.natAbs with
      | nil => exact numL_ne _ q
      | cons a r =>
        rw [q] at z hm
        have := eq_of_beq z
        have : a = 45 := (List.cons.inj this).1
        exact hm (by rw [this]; exact List.mem_cons_self)
    have er : tl (Txt.removeprefix (numT i) minus) = numL i.natAbs := by rw [rmpre_tl, tl_minus, if_neg hp, e]
    refine ⟨⟨(decT_iff _ 40).mpr (by rw [er]; exact hd), fun z => ?_⟩, ?_, ?_⟩
    · rw [z] at hp
      exact hp (by rw [show tl (Str.ofString "-0") = [45, 48] from tl_lit (by decide)]; decide)
    · have z := intText_digits (x := numT i) (by rw [show (numT i).cps.toList = _ from e]; exact hd.1) (by rw [show (numT i).cps.toList = _ from e]; exact hd.2.1) (by rw [len_tl, e]; exact Nat.le_trans hd.2.2.1 (by decide))
      rw [z, show (numT i).cps.toList = _ from e, numL_val]
      congr 1
      omega
    · rw [len_tl, e]
      exact Nat.le_trans hd.2.2.1 (by decide)
  · have e := numT_neg (i := i) (by omega)
    have er : tl (Txt.removeprefix (numT i) minus) = numL i.natAbs := by
      rw [rmpre_tl, tl_minus, e, if_pos (show pre [45] (45 :: numL i.natAbs) = true from pre_self [45] _)]
      rfl
    refine ⟨⟨(decT_iff _ 40).mpr (by rw [er]; exact hd), fun z => ?_⟩, ?_, ?_⟩
    · have y := congrArg tl z
      rw [e, show tl (Str.ofString "-0") = [45, 48] from tl_lit (by decide)] at y
      have y := (List.cons.inj y).2
      have v := numL_val i.natAbs
      rw [y] at v
      have : i.natAbs = 0 := v.symm
      omega
    · have z := intText_neg (x := numT i) e hd.1 hd.2.1 (by rw [len_tl, e, List.length_cons]; have := hd.2.2.1; omega)
      rw [z, numL_val]
      congr 1
      omega
    · rw [len_tl, e, List.length_cons]
      have := hd.2.2.1
      omega
/-- no blanks, no line feeds in a number's text -/
theorem numT_free {i : Int} {c : Nat} (h : c < 45 ∨ 57 < c) : c ∉ tl (numT i) := fun m => by
  by_cases z : 0 ≤ i
  · rw [numT_pos z] at m
    exact numL_free (by omega) m
  · rw [numT_neg (by omega)] at m
    rcases List.mem_cons.mp m with e | m
    · omega
    · exact numL_free (by omega) m
end PT

set_option maxHeartbeats 4000000
/-! the text of a plant taken apart -/
namespace PT
open PySem PySem.Spec PyProof.Rows L2 TL
def nlT : Str := Str.ofString "\n"
def spT : Str := Str.ofString " "
theorem tl_nl : tl nlT = [10] := tl_lit (by decide)
theorem tl_sp : tl spT = [32] := tl_lit (by decide)
/-- a line without its end -/
def rowT (a : Str) (i : Int) : Str := a ++ spT ++ numT i
def rowsT : List Str → List Int → List Str
  | a :: as, i :: is => rowT a i :: rowsT as is
  | _, _ => []
theorem rowsT_len : ∀ {as : List Str} {is : List Int}, as.length = is.length → (rowsT as is).length = as.length
  | [], [], _ => rfl
  | a :: as, i :: is, h => by rw [rowsT, List.length_cons, List.length_cons, rowsT_len (Nat.succ.inj h)]
theorem rowsT_get : ∀ {as : List Str} {is : List Int} {k : Nat} {a : Str} {i : Int}, as[k]? = some a → is[k]? = some i → (rowsT as is)[k]? = some (rowT a i)
  | _ :: _, _ :: _, 0, _, _, e, f => by cases e; cases f; rfl
  | _ :: as, _ :: is, k + 1, _, _, e, f => rowsT_get (as := as) (is := is) (k := k) e f
theorem rowsT_all {p : Str → Prop} : ∀ {as : List Str} {is : List Int}, (∀ a ∈ as, ∀ i ∈ is, p (rowT a i)) → ∀ y ∈ rowsT as is, p y
  | [], _, _, y, h => by cases h
  | _ :: _, [], _, y, h => by cases h
  | a :: as, i :: is, q, y, h => by
    rcases List.mem_cons.mp h with rfl | h
    · exact q a List.mem_cons_self i List.mem_cons_self
    · exact rowsT_all (fun b hb j hj => q b (List.mem_cons_of_mem _ hb) j (List.mem_cons_of_mem _ hj)) y h
theorem tl_cat : ∀ ys : List Str, tl (Str.join Str.empty ys) = (ys.map tl).flatten
  | [] => rfl
  | [x] => by
    show tl x = _
    rw [List.map_cons, List.map_nil, List.flatten_cons, List.flatten_nil, List.append_nil]
  | x :: z :: r => by
    show tl (x ++ Str.empty ++ Str.join Str.empty (z :: r)) = _
    rw [tl_append, tl_append, tl_cat (z :: r), show tl Str.empty = [] from rfl, List.append_nil, List.map_cons, List.flatten_cons]
    rfl
/-- the lines, joined by line feeds, with one more at the end -/
theorem show_rows : ∀ {as : List Str} {is : List Int}, as.length = is.length → 1 ≤ as.length → ((linesT as is).map tl).flatten = joinL [10] ((rowsT as is).map tl) ++ [10]
  | [a], [i], _, _ => by
    show tl (lineT a i) ++ [] = tl (rowT a i) ++ [10]
    unfold lineT rowT
    rw [List.append_nil, tl_append, show tl (Str.ofString "\n") = [10] from tl_nl]
    rfl
  | a :: b :: as, i :: j :: is, h, _ => by
    have ih := show_rows (as := b :: as) (is := j :: is) (Nat.succ.inj h) (by simp)
    have e : ((linesT (a :: b :: as) (i :: j :: is)).map tl).flatten = tl (lineT a i) ++ ((linesT (b :: as) (j :: is)).map tl).flatten := rfl
    have f : joinL [10] ((rowsT (a :: b :: as) (i :: j :: is)).map tl) = tl (rowT a i) ++ ([10] ++ joinL [10] ((rowsT (b :: as) (j :: is)).map tl)) := rfl
    rw [e, f, ih]
    unfold lineT rowT
    rw [tl_append _ (Str.ofString "\n"), show tl (Str.ofString "\n") = [10] from tl_nl, List.append_assoc, List.append_assoc, List.append_assoc]
    rfl
  | [_], _ :: _ :: _, h, _ => by simp at h
  | _ :: _ :: _, [_], h, _ => by simp at h
  | [], _, _, h => absurd h (by simp)
  | _ :: _, [], h, _ => by simp at h
theorem showT_tl {pl ss : List Int} (h : ss.length = pl.length + 1) : tl (showT pl ss) = joinL [10] ((rowsT (bosses pl) ss).map tl) ++ [10] := by
  have lb : (bosses pl).length = ss.length := by
    rw [h]
    show (pl.map numT).length + 1 = _
    rw [List.length_map]
  unfold showT
  rw [join_eq, tl_cat, show_rows lb (by rw [lb, h]; omega)]
theorem boss_free {pl : List Int} {c : Nat} (h : c = 10 ∨ c = 32) : ∀ a ∈ bosses pl, c ∉ tl a := fun a ha => by
  rcases List.mem_cons.mp ha with rfl | ha
  · rw [show tl (Str.ofString "shop") = [115, 104, 111, 112] from tl_lit (by decide)]
    rcases h with rfl | rfl <;> decide
  · obtain ⟨x, _, rfl⟩ := List.mem_map.mp ha
    exact numT_free (by omega)
theorem row_free {pl ss : List Int} : ∀ y ∈ rowsT (bosses pl) ss, 10 ∉ tl y := rowsT_all fun a ha i _ m => by
  unfold rowT at m
  rw [tl_append, tl_append, tl_sp] at m
  rcases List.mem_append.mp m with m | m
  · rcases List.mem_append.mp m with m | m
    · exact boss_free (.inl rfl) a ha m
    · exact absurd (List.mem_singleton.mp m) (by decide)
  · exact numT_free (.inl (by decide)) m
theorem show_ends {pl ss : List Int} (h : ss.length = pl.length + 1) : Txt.endswith (showT pl ss) nlT = true := by
  rw [ends_tl, showT_tl h, tl_nl]
  rw [List.length_append]
  rw [decide_eq_true (by simp), show (joinL [10] ((rowsT (bosses pl) ss).map tl)).length + [10].length - [10].length = (joinL [10] ((rowsT (bosses pl) ss).map tl)).length from by simp, List.drop_left]
  rfl
theorem show_split {pl ss : List Int} (h : ss.length = pl.length + 1) : Txt.split (Txt.removesuffix (showT pl ss) nlT) nlT = rowsT (bosses pl) ss := by
  have lb : (bosses pl).length = ss.length := by
    rw [h]
    show (pl.map numT).length + 1 = _
    rw [List.length_map]
  have e : Txt.removesuffix (showT pl ss) nlT = Txt.join nlT (rowsT (bosses pl) ss) := by
    refine ext_tl ?_
    rw [rmsuf_tl, if_pos (show_ends h), showT_tl h, tl_nl, join_eq, tl_join, tl_nl, List.length_append]
    rw [show (joinL [10] ((rowsT (bosses pl) ss).map tl)).length + [10].length - [10].length = (joinL [10] ((rowsT (bosses pl) ss).map tl)).length from by simp, List.take_left]
  rw [e]
  refine split_join tl_nl (by decide +kernel) (fun z => ?_) row_free
  have := rowsT_len lb
  rw [z, lb, h] at this
  exact absurd this (by simp)
theorem row_split {pl : List Int} {a : Str} (ha : a ∈ bosses pl) (i : Int) : Txt.split (rowT a i) spT = [a, numT i] := by
  have e : rowT a i = Txt.join spT [a, numT i] := by
    rw [join_eq]
    rfl
  rw [e]
  refine split_join tl_sp (by decide +kernel) (by simp) fun p hp => ?_
  rcases List.mem_cons.mp hp with rfl | hp
  · exact boss_free (.inr rfl) p ha
  · rw [List.mem_singleton.mp hp]
    exact numT_free (.inl (by decide))
theorem showT_len {pl ss : List Int} (hp : pl.length ≤ 39) (h : ss.length = pl.length + 1) (sp : ∀ x ∈ pl, x.natAbs < 10 ^ 50) (sm : ∀ x ∈ ss, x.natAbs < 10 ^ 50) : (showT pl ss).length ≤ 5200 := by
  have lb : (bosses pl).length = ss.length := by
    rw [h]
    show (pl.map numT).length + 1 = _
    rw [List.length_map]
  have ll := linesT_len lb
  have big := sum_le (B := 130) (ys := linesT (bosses pl) ss) (linesT_all fun a ha i hi => lineT_len (bosses_len sp a ha) (sm i hi))
  have e : (showT pl ss).length = ((linesT (bosses pl) ss).map (·.length)).sum := by
    unfold showT
    rw [join_eq, len_tl, tl_cat, List.length_flatten, List.map_map]
    rfl
  have y : (linesT (bosses pl) ss).length * 130 ≤ 40 * 130 := Nat.mul_le_mul_right _ (by omega)
  omega
theorem plant_sm {pl : List Int} (h : Plant pl) : ∀ x ∈ pl, x.natAbs < 10 ^ 40 := fun x hx => by
  obtain ⟨i, hi⟩ := List.mem_iff_getElem?.mp hx
  have lt := (List.getElem?_eq_some_iff.mp hi).1
  obtain ⟨h0, h1⟩ := h.ok i x hi
  have := h.len
  omega
/-- the rows as they stand in the heap -/
structure RowsT (H : Hp) (rs : List Addr) (pl ss : List Int) : Prop where
  len : rs.length = ss.length
  at_ : ∀ (i : Nat) (r : Addr) (a : Str) (n : Int), rs[i]? = some r → (bosses pl)[i]? = some a → ss[i]? = some n → H r = some (.lst [.str a, .str (numT n)])
theorem cutV_tail (xs : List V) : cutV xs (some 1) none = xs.drop 1 := by
  unfold cutV
  rw [HT.sIx_none, show (1 : Int) = ((1 : Nat) : Int) from rfl, HT.sIx_nat]
  by_cases h : 1 ≤ xs.length
  · rw [Nat.min_eq_left h, List.take_of_length_le (by rw [List.length_drop]; exact Nat.le_refl _)]
  · rw [Nat.min_eq_right (by omega), List.drop_length, List.drop_of_length_le (by omega), List.take_nil]
end PT


set_option maxHeartbeats 4000000
/-! numbers in a text -/
namespace PT
open PySem PySem.Spec PyProof.Rows L2
section
variable {P : Program} {w : World} {K : PySem.W.Frag} {mg : Str → Option Value} {base : Heap}
def spIsDecimal : Sp := fun vs H Q _ => ∃ (x : Str) (m : Int), vs = [.str x, .int m] ∧ x.length ≤ sizeLine ∧ Q (.bl (decT x m)) H
theorem Tx.isDecimal (T : Tx K mg) {k : Nat} : FnOk P w K mg base CX0 (k + 1) T.f_is_decimal T.d_is_decimal ["text", "most"] spIsDecimal := by
  refine T.F_is_decimal.ok scIsDecimal (fun vs H Q E h => ?_) (fun cdv A outer s H vs Q E hr h => ?_)
  · obtain ⟨x, m, rfl, _⟩ := h
    rfl
  · obtain ⟨x, m, rfl, hl, q⟩ := h
    refine ⟨_, (pss_cons (ps_if (PW.pt (pw_or (pt_not (pt_val (pe_bm0 PySem.F.plainAttrs_str PySem.F.slot_str_isascii PySem.F.type_str_isascii mt_isascii (pv 0) ))) (pw_or (pt_not (pt_val (pe_bm0 PySem.F.plainAttrs_str PySem.F.slot_str_isdigit PySem.F.type_str_isdigit mt_isdigit (pv 0) ))) (pw_or1 (pt_cmpR op_gt (pe_callB call_len_str (by rfl) T.n_len PySem.boot_len (pa_cons (pv 0) pa_nil)) (pv 1) (nomark _))))))
(pss_one (ps_ret pe_bl)) pss_nil)
(pss_one (ps_ret (pe_or (pe_cmpR op_eq (pv 0) pe_str (nomark _)) (pe_one (pe_not (pe_bm PySem.F.plainAttrs_str PySem.F.slot_str_startswith PySem.F.type_str_startswith mt_startswith (pv 0) (pa_cons pe_str pa_nil)))))))), ?_⟩
    unfold decT at q
    refine ⟨.str x, rfl, rfl, x, rfl, rfl, trivial, _, rfl, ite2 (fun c1 => ?_) (fun c1 => ?_)⟩
    · rw [if_pos c1] at q
      exact q
    rw [if_neg c1] at q
    refine ⟨.str x, rfl, rfl, x, rfl, rfl, trivial, _, rfl, ite2 (fun c2 => ?_) (fun c2 => ?_)⟩
    · rw [if_pos c2] at q
      exact q
    rw [if_neg c2] at q
    refine ⟨.str x, rfl, x, rfl, hl, .int m, rfl, _, _, rfl, rfl, _, rfl, ite2 (fun c3 => ?_) (fun c3 => ?_)⟩
    · rw [if_pos (of_decide_eq_true c3)] at q
      exact q
    rw [if_neg (fun z => c3 (decide_eq_true z))] at q
    refine ⟨.str x, rfl, rfl, _, rfl, ite2 (fun c4 => ?_) (fun c4 => ?_)⟩
    · rw [decide_eq_true (V.str.inj (of_decide_eq_true c4)), Bool.true_or] at q
      exact q
    rw [decide_eq_false (fun z => c4 (decide_eq_true (by rw [z]))), Bool.false_or] at q
    exact ⟨.str x, rfl, rfl, x, Str.ofString "0", rfl, rfl, _, rfl, q⟩
def spCheckText : Sp := fun vs H Q _ => vs = [.bl true] ∧ Q .non H
theorem Tx.checkText (T : Tx K mg) {k : Nat} : FnOk P w K mg base CX0 (k + 1) T.f_check_text T.d_check_text ["holds"] spCheckText := by
  refine T.F_check_text.ok scCheckText (fun vs H Q E h => ?_) (fun cdv A outer s H vs Q E hr h => ?_)
  · obtain ⟨rfl, _⟩ := h
    rfl
  · obtain ⟨rfl, q⟩ := h
    refine ⟨_, (pss_one (ps_if (pt_not (pt_val (pv 0)))
(pss_one ps_never) pss_nil)), ?_⟩
    exact ⟨.bl true, rfl, true, rfl, iteF q⟩
def spNumberIn : Sp := fun vs H Q _ => ∃ (x : Str) (i : Int), vs = [.str x] ∧ numB x ∧ PySem.intText? x = some i ∧ x.length ≤ 640 ∧ Q (.int i) H
theorem Tx.numberIn (T : Tx K mg) {k : Nat} : FnOk P w K mg base CX0 (k + 2) T.f_number_in T.d_number_in ["text"] spNumberIn := by
  refine T.F_number_in.ok scNumberIn (fun vs H Q E h => ?_) (fun cdv A outer s H vs Q E hr h => ?_)
  · obtain ⟨x, i, rfl, _⟩ := h
    rfl
  · obtain ⟨x, i, rfl, hb, hi, hl, q⟩ := h
    refine ⟨_, (pss_cons (ps_expr (pe_call (T.checkText (k := 0)) (hr.mono (by omega)) (by rfl) T.g_check_text T.F_check_text.kp T.b_check_text .nil pass0 (pa_cons (pe_and (pe_call (T.isDecimal (k := 0)) (hr.mono (by omega)) (by rfl) T.g_is_decimal T.F_is_decimal.kp T.b_is_decimal .nil pass0 (pa_cons (pe_bm PySem.F.plainAttrs_str PySem.F.slot_str_removeprefix PySem.F.type_str_removeprefix mt_removeprefix (pv 0) (pa_cons pe_str pa_nil)) (pa_cons (pe_glob (v := .int 40) (by rfl) T.g_MOST_DIGITS_texts ⟨_, rfl⟩) pa_nil))) (pe_one (pe_cmpR op_ne (pv 0) pe_str (nomark _)))) pa_nil)))
(pss_one (ps_ret (pe_callTy call_int_str (by rfl) T.n_int (by decide +kernel) (pa_cons (pv 0) pa_nil))))), ?_⟩
    have small : x.length ≤ sizeLine := Nat.le_trans hl (by decide)
    have l2 : (Txt.removeprefix x minus).length ≤ sizeLine := by
      rw [TL.len_tl, rmpre_tl]
      split
      · rw [List.length_drop, ← TL.len_tl]; omega
      · rw [← TL.len_tl]; exact small
    refine ⟨.str x, rfl, rfl, x, minus, rfl, rfl, small, _, _, rfl, l2, ?_⟩
    refine ⟨_, rfl, ite2 (fun _ => ?_) (fun c => absurd hb.1 c)⟩
    refine ⟨.str x, rfl, rfl, ?_⟩
    rw [decide_eq_false (fun z => hb.2 (V.str.inj z))]
    exact ⟨rfl, .str x, rfl, x, i, rfl, hi, hl, q⟩
end
end PT


set_option maxHeartbeats 4000000
/-! nothing to undo -/
namespace PT
open PySem PySem.Spec PyProof.Rows L2 LamX NdefX
theorem takesNO {X : Cx} : L2N.Takes X (fun _ _ _ _ => False) := fun _ _ ⟨_, _, _, _, _, _, _, _, _, _, _, _, _, _, _, _, z⟩ => z.elim
section
variable {P : Program} {w : World} {K : PySem.W.Frag} {mg : Str → Option Value} {base : Heap}
def spUndoN (T : Tx K mg) : Sp := fun vs H Q E => ∃ (x r p q : Addr) (pl ss : List Int), vs = [.ref x] ∧ LiveAt T.x_LivePlant H x r p q pl ss [] ∧ E (.ref T.x_Nothing) none H
theorem ok_undoN (T : Tx K mg) : FnOk P w K mg base (L2N.CX P w) 1 T.f_lv_undo T.d_lv_undo ["self"] (spUndoN T) := by
  refine Fun.okN T.F_lv_undo scLvUndo (fun vs H Q E h => ?_) (fun cdv A outer s H vs Q E hr h => ?_)
  · obtain ⟨x, r, p, q, pl, ss, rfl, _⟩ := h
    rfl
  · obtain ⟨x, r, p, q, pl, ss, rfl, L, k⟩ := h
    have nd := scLvUndo.nd
    refine ⟨_, pss_cons (ps_if (pt_cmpR op_eq (pe_callB call_len_seq (by rfl) T.n_len PySem.boot_len (pa_cons (pe_fld (pv 0) rfl) pa_nil)) pe_int (nomark _)) (pss_one (L2N.ps_raise rfl (L2N.takes_of rfl rfl rfl rfl) (L2N.pmk_own PySem.F.excBase_ValueError T.X_Nothing.e T.X_Nothing.g T.X_Nothing.k (raises_own T.X_Nothing.s T.X_Nothing.t) (by rfl)))) pss_nil) pss_never, ?_⟩
    obtain ⟨dx, e⟩ := L.ob
    obtain ⟨vs, er, pa⟩ := L.pa
    have lv : vs = [] := List.length_eq_zero_iff.mp pa.len
    subst lv
    exact ⟨.ref x, rfl, x, _, dx, _, _, rfl, e, T.C_LivePlant, T.a_past, lvF_p _ _ _, r, _, rfl, .inl (.inl (.inl er)), rfl, _, rfl, iteT k⟩
def spNothing (T : Tx K mg) : Sp := fun vs H Q _ => ∃ (x r p q : Addr) (pl ss : List Int), vs = [.ref x] ∧ LiveAt T.x_LivePlant H x r p q pl ss [] ∧ Q (.bl true) H
end
end PT

set_option maxHeartbeats 1000000
/-! a text with one sign for another, behind a docstring -/
namespace PT
open PySem PySem.Spec PyProof.Rows L2 CwR TL
section
variable {X : Cx}
theorem pet_call {CX : CXT} {k : Nat} {f : Addr} {fd : FuncData} {ps : List Str} {sp : Sp} {x : Str} {dvs : List V} {ds : List Value} {E : XK} {e : Expr} {es : List Expr} {t : TA} {p pos : Pos} (F : FnOk X.prog X.w X.K X.mg X.base CX k f fd ps sp) (hr : Room k X.A) (hg : Gl X x) (hm : X.mg x = some (.ref f)) (hk : PySem.W.keepIn X.K (.ref f) = true) (hb : Binds X.K fd ps ds) (hd : Vals dvs ds) (hx : Passes CX X E)
    (ha : PAT X (e :: es) t) (hdb : (x == ("__debug__" : Str)) = false := by decide) (he : starEach (e :: es) X.env = (false, eval e X.env) :: starEach es X.env := by rfl) (hpl : (backTo pos (starEach es X.env)).any (·.1) = false := by rfl) :
    PET X (.Call (.Name x p) (e :: es) [] pos) (tCall sp dvs E t) := by
  intro pins s σ H Q h0 I h
  refine wpAny_Call_Name_kw (ld_glob I hg hm ?_ hdb)
  refine PySem.W.callWith_K (h₀ := X.base) I.ok.mod.kin hk (thn (ha pos pins s σ H _ h0 I h) fun us s1 ⟨vs, H1, I1, r, q⟩ => ⟨I1.kIn, ?_⟩) he hpl
  exact run_fn F hr hb hd hx I1 r q
theorem pst_asg {tg e : Expr} {te : TE} {g : TG} {pos : Pos} (he : PET X e te) (hg : PG X tg g) (hs : swapsWithSole [tg] e pos.line X.env = pure false := by rfl) (hw : swappedStores [tg] e X.env = pure none := by rfl)
    (h1 : (assignEach [tg] X.env).map (·.2) = [assign tg X.env] := by rfl) : PST X (.Assign [tg] e pos) (tAsg te g) := by
  intro pins s σ H D h0 I h
  refine wpAny_Assign_stores (thn (he pins s σ H _ h0 I h) fun v s1 ⟨x, H1, I1, r1, q1⟩ => ?_) hs hw
  rw [h1]
  exact thn (hg.run pins s1 σ H1 x v _ I1 r1 q1) fun _ s2 q => q
end
/-! ### ; for the ends of lines -/
def scT : Str := Str.ofString ";"
theorem tl_sc : tl scT = [59] := tl_lit (by decide)
theorem scT_eq : scT = ⟨#[59]⟩ := by
  have z := tl_sc
  unfold tl at z
  cases h : scT with
  | mk a =>
    rw [h] at z
    have z : a.toList = [59] := z
    have : a = #[59] := by
      apply Array.ext'
      rw [z]
    rw [this]
/-- the row that opens a plant, without its first word -/
def openT (pl ss : List Int) : Str := Str.join scT (rowsT (bosses pl) ss)
theorem scT_free {c : Nat} (h : c = 10 ∨ c = 59) {pl ss : List Int} : ∀ y ∈ rowsT (bosses pl) ss, c ∉ tl y := rowsT_all fun a ha i _ m => by
  unfold rowT at m
  rw [tl_append, tl_append, tl_sp] at m
  rcases List.mem_append.mp m with m | m
  · rcases List.mem_append.mp m with m | m
    · rcases List.mem_cons.mp ha with rfl | ha
      · rw [show tl (Str.ofString "shop") = [115, 104, 111, 112] from tl_lit (by decide)] at m
        rcases h with rfl | rfl <;> revert m <;> decide
      · obtain ⟨x, _, rfl⟩ := List.mem_map.mp ha
        exact numT_free (by omega) m
    · rcases h with rfl | rfl <;> exact absurd (List.mem_singleton.mp m) (by decide)
  · exact numT_free (by omega) m
theorem rows_ne {pl ss : List Int} (h : ss.length = pl.length + 1) : rowsT (bosses pl) ss ≠ [] := fun z => by
  have lb : (bosses pl).length = ss.length := by
    rw [h]
    show (pl.map numT).length + 1 = _
    rw [List.length_map]
  have := rowsT_len lb
  rw [z, lb, h] at this
  exact absurd this (by simp)
/-- back to the text of a plant -/
theorem open_back {pl ss : List Int} (h : ss.length = pl.length + 1) : Txt.replace (openT pl ss) scT nlT ++ nlT = showT pl ss := by
  have e : Txt.replace (openT pl ss) scT nlT = Str.join nlT (rowsT (bosses pl) ss) := by
    have z : Txt.split (openT pl ss) scT = rowsT (bosses pl) ss := by
      unfold openT
      rw [← join_eq]
      exact split_join tl_sc (by decide +kernel) (rows_ne h) (scT_free (.inr rfl))
    rw [scT_eq] at z ⊢
    rw [PySem.StrLaws.replace_one, z]
  rw [e]
  refine ext_tl ?_
  rw [tl_append, tl_join, tl_nl, showT_tl h]
/-- the lines of a plant's text -/
theorem show_lines {pl ss : List Int} (h : ss.length = pl.length + 1) : Txt.split (showT pl ss) nlT = rowsT (bosses pl) ss ++ [Str.empty] := by
  have ne := rows_ne h
  have e : showT pl ss = Txt.join nlT (rowsT (bosses pl) ss ++ [Str.empty]) := by
    refine ext_tl ?_
    rw [showT_tl h, join_eq, tl_join, tl_nl, List.map_append]
    have key : ∀ ls : List (List Nat), ls ≠ [] → joinL [10] ls ++ [10] = joinL [10] (ls ++ [[]]) := by
      intro ls
      induction ls with
      | nil => exact fun z => absurd rfl z
      | cons a r ih =>
        intro _
        cases r with
        | nil => simp [joinL]
        | cons b r =>
          have := ih (by simp)
          show a ++ ([10] ++ joinL [10] (b :: r)) ++ [10] = a ++ ([10] ++ joinL [10] (b :: r ++ [[]]))
          rw [← this]
          simp
    exact key _ (fun z => ne (List.map_eq_nil_iff.mp z))
  rw [e]
  refine split_join tl_nl (by decide +kernel) (by simp) fun p hp => ?_
  rcases List.mem_append.mp hp with hp | hp
  · exact scT_free (.inl rfl) p hp
  · rw [List.mem_singleton.mp hp]
    show 10 ∉ ([] : List Nat)
    simp
def opT : Str := Str.ofString "open "
theorem tl_op : tl opT = [111, 112, 101, 110, 32] := tl_lit (by decide)
theorem pre_app (S l : List Nat) : pre S (S ++ l) = true := by
  induction S with
  | nil => rfl
  | cons a r ih => simp [pre, ih]
theorem open_starts (x : Str) : Txt.startswith (opT ++ x) opT = true := by
  rw [starts_tl, tl_append]
  exact pre_app _ _
theorem open_cut (x : Str) : Txt.removeprefix (opT ++ x) opT = x := by
  refine ext_tl ?_
  rw [rmpre_tl, tl_append, if_pos (pre_app _ _), List.drop_left]
theorem joinL_len (a b : Nat) : ∀ ls : List (List Nat), (joinL [a] ls).length = (joinL [b] ls).length
  | [] => rfl
  | [p] => rfl
  | p :: q :: r => by
    have ih := joinL_len a b (q :: r)
    show (p ++ ([a] ++ joinL [a] (q :: r))).length = (p ++ ([b] ++ joinL [b] (q :: r))).length
    rw [List.length_append, List.length_append, List.length_append, List.length_append, ih]
    rfl
theorem openT_len {pl ss : List Int} (hp : Plant pl) (h : ss.length = pl.length + 1) (sm : ∀ x ∈ ss, x.natAbs < 10 ^ 50) : (openT pl ss).length ≤ 5200 := by
  have z := showT_len hp.len h (fun x hx => Nat.lt_trans (plant_sm hp x hx) (by decide)) sm
  have e1 : (tl (openT pl ss)).length = (openT pl ss).length := rfl
  have e2 : (tl (showT pl ss)).length = (showT pl ss).length := rfl
  have e3 : tl (openT pl ss) = joinL [59] ((rowsT (bosses pl) ss).map tl) := by
    unfold openT
    rw [tl_join, tl_sc]
  rw [showT_tl h, List.length_append] at e2
  rw [e3, joinL_len 59 10] at e1
  omega
theorem nlT_eq : nlT = ⟨#[10]⟩ := by
  have z := tl_nl
  unfold tl at z
  cases h : nlT with
  | mk a =>
    rw [h] at z
    have z : a.toList = [10] := z
    have : a = #[10] := by
      apply Array.ext'
      rw [z]
    rw [this]
theorem open_free {pl ss : List Int} : 10 ∉ tl (opT ++ openT pl ss) := fun m => by
  unfold openT at m
  rw [tl_append, tl_op, tl_join, tl_sc] at m
  rcases List.mem_append.mp m with m | m
  · revert m
    decide
  · have key : ∀ ls : List (List Nat), (∀ y ∈ ls, 10 ∉ y) → 10 ∉ joinL [59] ls := by
      intro ls
      induction ls with
      | nil => intro _ z; cases z
      | cons a r ih =>
        intro h
        cases r with
        | nil => exact h a List.mem_cons_self
        | cons b r =>
          intro z
          have z : 10 ∈ a ++ ([59] ++ joinL [59] (b :: r)) := z
          rcases List.mem_append.mp z with z | z
          · exact h a List.mem_cons_self z
          · rcases List.mem_append.mp z with z | z
            · exact absurd (List.mem_singleton.mp z) (by decide)
            · exact ih (fun y hy => h y (List.mem_cons_of_mem _ hy)) z
    refine key _ (fun y hy => ?_) m
    obtain ⟨u, hu, rfl⟩ := List.mem_map.mp hy
    exact scT_free (.inl rfl) u hu
theorem row_free10 {ps : List Str} (h : ∀ y ∈ ps, 32 ∉ tl y ∧ 10 ∉ tl y) : 10 ∉ tl (Txt.join spT ps) := by
  rw [join_eq, tl_join, tl_sp]
  have key : ∀ ls : List (List Nat), (∀ y ∈ ls, 10 ∉ y) → 10 ∉ joinL [32] ls := by
    intro ls
    induction ls with
    | nil => intro _ z; cases z
    | cons a r ih =>
      intro h
      cases r with
      | nil => exact h a List.mem_cons_self
      | cons b r =>
        intro z
        have z : 10 ∈ a ++ ([32] ++ joinL [32] (b :: r)) := z
        rcases List.mem_append.mp z with z | z
        · exact h a List.mem_cons_self z
        · rcases List.mem_append.mp z with z | z
          · exact absurd (List.mem_singleton.mp z) (by decide)
          · exact ih (fun y hy => h y (List.mem_cons_of_mem _ hy)) z
  refine key _ (fun y hy => ?_)
  obtain ⟨u, hu, rfl⟩ := List.mem_map.mp hy
  exact (h u hu).2
theorem row_parts {ps : List Str} (ne : ps ≠ []) (h : ∀ y ∈ ps, 32 ∉ tl y ∧ 10 ∉ tl y) : Txt.split (Txt.join spT ps) spT = ps :=
  split_join tl_sp (by decide +kernel) ne fun p hp => (h p hp).1
end PT


set_option maxHeartbeats 4000000
/-! what the console's rows do on a live plant -/
namespace PT
open PySem PySem.Spec PyProof.Rows L2 LamX NdefX
/-- the answer to an operation, and the values behind its name -/
def ansT (n : Opn) (ss : List Int) : Str := match n with
  | .day => numT (bx ss 0)
  | .sell j => numT (bx ss j)
  | _ => Str.ofString "ok"
def argV (n : Opn) : List V := n.op.2.map V.int
section
variable {P : Program} {w : World} {K : PySem.W.Frag} {mg : Str → Option Value} {base : Heap}
def spSay (T : Tx K mg) (S : Opn → Prop) : Sp := fun vs H Q _ => ∃ (x r p q : Addr) (pl ss : List Int) (es : List Ent) (n : Opn) (m : Int), vs = .ref x :: argV n ∧ S n ∧ LiveAt T.x_LivePlant H x r p q pl ss es ∧ n.ok pl (10 ^ 30) m ∧ m ≤ 40 ∧ es.length ≤ 1000 ∧ (∀ i ∈ ss, i.natAbs < 10 ^ 50) ∧ Tabs T.tabW H ∧
  ∀ (H' : Hp) (p2 q2 : Addr), BarL x r H H' → Tabs T.tabW H' → LiveAt T.x_LivePlant H' x r p2 q2 (n.pl pl) (n.ss pl ss) (es ++ [⟨n.op, pl, ss⟩]) → Q (.str (ansT n ss)) H'
theorem ok_say_day (T : Tx K mg) (B2 : TabB base mg T.c_oldest_giver T.P_oldest_giver) : FnOk P w K mg base CX0 10 T.f_say_day T.d_say_day ["live"] (spSay T fun n => n = .day) := by
  refine T.F_say_day.ok scSayDay (fun vs H Q E h => ?_) (fun cdv A outer s H vs Q E hr h => ?_)
  · obtain ⟨x, r, p, q, pl, ss, es, n, m, rfl, rfl, _⟩ := h
    rfl
  · obtain ⟨x, r, p, q, pl, ss, es, n, m, rfl, rfl, L, hk, hm, hl, sm, hT, k⟩ := h
    have nd := scSayDay.nd
    obtain ⟨dx, e⟩ := L.ob
    have hb : ∀ j : Nat, (bx ss j).natAbs < 10 ^ 50 := fun j => by
      by_cases c : j < ss.length
      · exact sm _ (List.mem_of_getElem? (bx_at c))
      · unfold bx
        rw [Int.toNat_natCast, List.getD_eq_getElem?_getD, List.getElem?_eq_none (by omega)]
        decide
    refine ⟨_, (pss_one (ps_ret (pe_callTy call_str_int (by rfl) T.n_str (by decide +kernel) (pa_cons (pe_meth0 (pv 0) T.C_LivePlant T.M_lv_day (ok_lv_day T B2) (hr.mono (by omega)) T.b_lv_day .nil pass0) pa_nil)))), ?_⟩
    exact ⟨.ref x, rfl, x, dx, _, rfl, e, lvF_no _ _ _ (by decide +kernel) (by decide +kernel) (by decide +kernel), x, r, p, q, pl, ss, es, rfl, L, hl, hT, fun H2 q2 b2 t2 L2 => ⟨_, rfl, numT_log (hb 0), k H2 p q2 b2 t2 L2⟩⟩
theorem ok_say_sell (T : Tx K mg) (B2 : TabB base mg T.c_oldest_giver T.P_oldest_giver) : FnOk P w K mg base CX0 10 T.f_say_sell T.d_say_sell ["live", "station"] (spSay T fun n => ∃ j, n = .sell j) := by
  refine T.F_say_sell.ok scSaySell (fun vs H Q E h => ?_) (fun cdv A outer s H vs Q E hr h => ?_)
  · obtain ⟨x, r, p, q, pl, ss, es, n, m, rfl, ⟨j, rfl⟩, _⟩ := h
    rfl
  · obtain ⟨x, r, p, q, pl, ss, es, n, m, rfl, ⟨j, rfl⟩, L, hk, hm, hl, sm, hT, k⟩ := h
    have nd := scSaySell.nd
    obtain ⟨dx, e⟩ := L.ob
    have hb : ∀ j : Nat, (bx ss j).natAbs < 10 ^ 50 := fun j => by
      by_cases c : j < ss.length
      · exact sm _ (List.mem_of_getElem? (bx_at c))
      · unfold bx
        rw [Int.toNat_natCast, List.getD_eq_getElem?_getD, List.getElem?_eq_none (by omega)]
        decide
    refine ⟨_, (pss_one (ps_ret (pe_callTy call_str_int (by rfl) T.n_str (by decide +kernel) (pa_cons (pe_meth (pv 0) T.C_LivePlant T.M_lv_sell (ok_lv_sell T B2) (hr.mono (by omega)) T.b_lv_sell .nil pass0 (pa_cons (pv 1) pa_nil)) pa_nil)))), ?_⟩
    exact ⟨.ref x, rfl, x, dx, _, rfl, e, lvF_no _ _ _ (by decide +kernel) (by decide +kernel) (by decide +kernel), _, rfl, x, r, p, q, pl, ss, es, j, rfl, L, hk, hl, hT, fun H2 q2 b2 t2 L2 => ⟨_, rfl, numT_log (hb j), k H2 p q2 b2 t2 L2⟩⟩
theorem ok_say_days (T : Tx K mg) (B : TabB base mg T.c_words_by_age T.P_words_by_age) (B2 : TabB base mg T.c_oldest_giver T.P_oldest_giver) : FnOk P w K mg base CX0 13 T.f_say_days T.d_say_days ["live", "many"] (spSay T fun n => ∃ d, n = .days d) := by
  refine T.F_say_days.ok scSayDays (fun vs H Q E h => ?_) (fun cdv A outer s H vs Q E hr h => ?_)
  · obtain ⟨x, r, p, q, pl, ss, es, n, m, rfl, ⟨d, rfl⟩, _⟩ := h
    rfl
  · obtain ⟨x, r, p, q, pl, ss, es, n, m, rfl, ⟨d, rfl⟩, L, hk, hm, hl, sm, hT, k⟩ := h
    have nd := scSayDays.nd
    obtain ⟨dx, e⟩ := L.ob
    have hb : ∀ j : Nat, (bx ss j).natAbs < 10 ^ 50 := fun j => by
      by_cases c : j < ss.length
      · exact sm _ (List.mem_of_getElem? (bx_at c))
      · unfold bx
        rw [Int.toNat_natCast, List.getD_eq_getElem?_getD, List.getElem?_eq_none (by omega)]
        decide
    refine ⟨_, (pss_cons (ps_expr (pe_meth (pv 0) T.C_LivePlant T.M_lv_days (ok_lv_days T B B2) (hr.mono (by omega)) T.b_lv_days .nil pass0 (pa_cons (pv 1) pa_nil)))
(pss_one (ps_ret (pe_glob (v := .str "ok") (by rfl) T.g_DONE ⟨_, rfl⟩)))), ?_⟩
    exact ⟨.ref x, rfl, x, dx, _, rfl, e, lvF_no _ _ _ (by decide +kernel) (by decide +kernel) (by decide +kernel), _, rfl, x, r, p, q, pl, ss, es, d, rfl, L, hk.1, hk.2, hl, hT, fun H2 q2 b2 t2 L2 => k H2 p q2 b2 t2 L2⟩
theorem ok_say_add (T : Tx K mg) : FnOk P w K mg base CX0 5 T.f_say_add T.d_say_add ["live", "station"] (spSay T fun n => ∃ j, n = .add j) := by
  refine T.F_say_add.ok scSayAdd (fun vs H Q E h => ?_) (fun cdv A outer s H vs Q E hr h => ?_)
  · obtain ⟨x, r, p, q, pl, ss, es, n, m, rfl, ⟨j, rfl⟩, _⟩ := h
    rfl
  · obtain ⟨x, r, p, q, pl, ss, es, n, m, rfl, ⟨j, rfl⟩, L, hk, hm, hl, sm, hT, k⟩ := h
    have nd := scSayAdd.nd
    obtain ⟨dx, e⟩ := L.ob
    have hb : ∀ j : Nat, (bx ss j).natAbs < 10 ^ 50 := fun j => by
      by_cases c : j < ss.length
      · exact sm _ (List.mem_of_getElem? (bx_at c))
      · unfold bx
        rw [Int.toNat_natCast, List.getD_eq_getElem?_getD, List.getElem?_eq_none (by omega)]
        decide
    refine ⟨_, (pss_cons (ps_expr (pe_meth (pv 0) T.C_LivePlant T.M_lv_add (ok_lv_add T) (hr.mono (by omega)) T.b_lv_add .nil pass0 (pa_cons (pv 1) pa_nil)))
(pss_one (ps_ret (pe_glob (v := .str "ok") (by rfl) T.g_DONE ⟨_, rfl⟩)))), ?_⟩
    exact ⟨.ref x, rfl, x, dx, _, rfl, e, lvF_no _ _ _ (by decide +kernel) (by decide +kernel) (by decide +kernel), _, rfl, x, r, p, q, pl, ss, es, j, rfl, L, hk.1, by have := hk.2; omega, hl, fun H2 p2 q2 b2 L2 => k H2 p2 q2 b2.barL (tabs_bar2 hT L b2) L2⟩
theorem ok_say_remove (T : Tx K mg) : FnOk P w K mg base CX0 5 T.f_say_remove T.d_say_remove ["live"] (spSay T fun n => n = .rem) := by
  refine T.F_say_remove.ok scSayRemove (fun vs H Q E h => ?_) (fun cdv A outer s H vs Q E hr h => ?_)
  · obtain ⟨x, r, p, q, pl, ss, es, n, m, rfl, rfl, _⟩ := h
    rfl
  · obtain ⟨x, r, p, q, pl, ss, es, n, m, rfl, rfl, L, hk, hm, hl, sm, hT, k⟩ := h
    have nd := scSayRemove.nd
    obtain ⟨dx, e⟩ := L.ob
    have hb : ∀ j : Nat, (bx ss j).natAbs < 10 ^ 50 := fun j => by
      by_cases c : j < ss.length
      · exact sm _ (List.mem_of_getElem? (bx_at c))
      · unfold bx
        rw [Int.toNat_natCast, List.getD_eq_getElem?_getD, List.getElem?_eq_none (by omega)]
        decide
    refine ⟨_, (pss_cons (ps_expr (pe_meth0 (pv 0) T.C_LivePlant T.M_lv_remove (ok_lv_remove T) (hr.mono (by omega)) T.b_lv_remove .nil pass0))
(pss_one (ps_ret (pe_glob (v := .str "ok") (by rfl) T.g_DONE ⟨_, rfl⟩)))), ?_⟩
    exact ⟨.ref x, rfl, x, dx, _, rfl, e, lvF_no _ _ _ (by decide +kernel) (by decide +kernel) (by decide +kernel), x, r, p, q, pl, ss, es, rfl, L, hk, hl, fun H2 p2 q2 b2 L2 => k H2 p2 q2 b2.barL (tabs_bar2 hT L b2) L2⟩
end
end PT


set_option maxHeartbeats 4000000
/-! undo and stock, said -/
namespace PT
open PySem PySem.Spec PyProof.Rows L2 LamX NdefX
/-- numbers, spaced -/
def spacedT (ss : List Int) : Str := Txt.join spT (ss.map numT)
section
variable {P : Program} {w : World} {K : PySem.W.Frag} {mg : Str → Option Value} {base : Heap}
def spSpaced : Sp := fun vs H Q _ => ∃ (q : Addr) (ss : List Int), vs = [.ref q] ∧ H q = some (.tup (ss.map V.int)) ∧ ss.length ≤ 60 ∧ (∀ i ∈ ss, i.natAbs < 10 ^ 50) ∧ ∀ H', Same H H' → Q (.str (spacedT ss)) H'
theorem ok_spaced (T : Tx K mg) : FnOk P w K mg base CX0 1 T.f_spaced T.d_spaced ["numbers"] spSpaced := by
  refine T.F_spaced.ok scSpaced (fun vs H Q E h => ?_) (fun cdv A outer s H vs Q E hr h => ?_)
  · obtain ⟨q, ss, rfl, _⟩ := h
    rfl
  · obtain ⟨q, ss, rfl, eq, l60, sm, k⟩ := h
    have nd := scSpaced.nd
    refine ⟨_, (pss_one (ps_ret (pe_bm PySem.F.plainAttrs_str PySem.F.slot_str_join PySem.F.type_str_join mt_join pe_str (pa_cons (pe_lc (own := [("number", 1)]) (g := gName 1) (tt := tYes) (te := (tCB (fun xs H Q => ∃ i : Int, xs = [.int i] ∧ i.natAbs.log2 < 1920 ∧ Q (.str (toString i)) H) (tCons (tVar 1) tNil))) rfl nd (pi_tup (pv 0))
(blkOk_by (N := ["numbers", "number"]) (sc := defScope sSpaced) (by decide +kernel)) (fun _ _ _ _ _ => (pg_name (i := 1) nd rfl (.inl rfl))) (fun _ _ _ _ _ => pts_nil) (fun _ _ _ _ _ => (pe_callTy call_str_int (by rfl) T.n_str (by decide +kernel) (pa_cons (pv 1) pa_nil)))) pa_nil)))), ?_⟩
    refine ⟨rfl, .ref q, rfl, q, rfl, ⟨_, .inl (.inl eq)⟩, fun D nD => ?_⟩
    refine lc_tup (xs := ss.map V.int) (fun i G => Same H G ∧ G D = some (.lst (((ss.take i).map numT).map V.str))) ⟨same_new nD, upd_same⟩ (fun i G _ p1 => .inl (.inl (p1.1 _ _ eq))) (fun i v G ev p1 => ?_) (fun G p1 => ?_)
    · obtain ⟨sG, eD⟩ := p1
      rw [List.getElem?_map] at ev
      obtain ⟨j, ej, rfl⟩ := Option.map_eq_some_iff.mp ev
      have hi : i < ss.length := (List.getElem?_eq_some_iff.mp ej).1
      refine ⟨rfl, tyes_if ⟨.int j, rfl, j, rfl, numT_log (sm j (List.mem_of_getElem? ej)), _, eD, ?_, fun c' o h => (upd_ne (ne_of_none h nD)).trans (sG _ _ h), ?_⟩⟩
      · rw [List.length_map, List.length_map, List.length_take]
        exact small300 (by omega)
      · rw [upd_same, List.take_add_one, ej, List.map_append, List.map_append]
        rfl
    · obtain ⟨sG, eD⟩ := p1
      rw [List.length_map, List.take_length] at eD
      have big := sum_le (B := 60) (ys := ss.map numT) (fun y hy => by
        obtain ⟨i, hi, rfl⟩ := List.mem_map.mp hy
        exact numT_len (sm i hi))
      refine ⟨spT, D, ss.map numT, rfl, rfl, .inl (.inl (.inl eD)), ?_, k G sG⟩
      rw [show spT.length = 1 by decide +kernel]
      rw [List.length_map] at big ⊢
      have : ss.length * 60 ≤ 60 * 60 := Nat.mul_le_mul_right _ l60
      omega
def spSayUndo (T : Tx K mg) : Sp := fun vs H Q _ => ∃ (x r p q : Addr) (pl ss : List Int) (es : List Ent) (e : Ent), vs = [.ref x] ∧ LiveAt T.x_LivePlant H x r p q pl ss (es ++ [e]) ∧ es.length ≤ 1000 ∧
  ∀ (H' : Hp) (p2 q2 : Addr), Bar2 x r H H' → LiveAt T.x_LivePlant H' x r p2 q2 e.pl e.ss es → Q (.str (Str.ofString "ok")) H'
theorem ok_say_undo (T : Tx K mg) : FnOk P w K mg base CX0 2 T.f_say_undo T.d_say_undo ["live"] (spSayUndo T) := by
  refine T.F_say_undo.ok scSayUndo (fun vs H Q E h => ?_) (fun cdv A outer s H vs Q E hr h => ?_)
  · obtain ⟨x, r, p, q, pl, ss, es, e, rfl, _⟩ := h
    rfl
  · obtain ⟨x, r, p, q, pl, ss, es, en, rfl, L, hl, k⟩ := h
    have nd := scSayUndo.nd
    obtain ⟨dx, e⟩ := L.ob
    refine ⟨_, (pss_cons (ps_expr (pe_meth0 (pv 0) T.C_LivePlant T.M_lv_undo (ok_lv_undo T) (hr.mono (by omega)) T.b_lv_undo .nil pass0))
(pss_one (ps_ret (pe_glob (v := .str "ok") (by rfl) T.g_DONE ⟨_, rfl⟩)))), ?_⟩
    exact ⟨.ref x, rfl, x, dx, _, rfl, e, lvF_no _ _ _ (by decide +kernel) (by decide +kernel) (by decide +kernel), x, r, p, q, pl, ss, es, en, rfl, L, hl, fun H2 p2 q2 b2 L2 => k H2 p2 q2 b2 L2⟩
/-- nothing to undo -/
theorem ok_say_undoN (T : Tx K mg) : FnOk P w K mg base (L2N.CX P w) 2 T.f_say_undo T.d_say_undo ["live"] (spUndoN T) := by
  refine Fun.okN T.F_say_undo scSayUndo (fun vs H Q E h => ?_) (fun cdv A outer s H vs Q E hr h => ?_)
  · obtain ⟨x, r, p, q, pl, ss, rfl, _⟩ := h
    rfl
  · obtain ⟨x, r, p, q, pl, ss, rfl, L, k⟩ := h
    have nd := scSayUndo.nd
    obtain ⟨dx, e⟩ := L.ob
    refine ⟨_, pss_cons (ps_expr (pe_meth0 (pv 0) T.C_LivePlant T.M_lv_undo (ok_undoN T) (hr.mono (by omega)) T.b_lv_undo .nil (L2N.passes_call (L2N.takes_of rfl rfl rfl rfl) fun _ _ _ _ z => z))) pss_never, ?_⟩
    exact ⟨.ref x, rfl, x, dx, _, rfl, e, lvF_no _ _ _ (by decide +kernel) (by decide +kernel) (by decide +kernel), x, r, p, q, pl, ss, rfl, L, k⟩
def spSayStock (T : Tx K mg) : Sp := fun vs H Q _ => ∃ (x r p q : Addr) (pl ss : List Int) (es : List Ent), vs = [.ref x] ∧ LiveAt T.x_LivePlant H x r p q pl ss es ∧ (∀ i ∈ ss, i.natAbs < 10 ^ 50) ∧ ∀ H', Same H H' → Q (.str (spacedT ss)) H'
theorem ok_say_stock (T : Tx K mg) : FnOk P w K mg base CX0 2 T.f_say_stock T.d_say_stock ["live"] (spSayStock T) := by
  refine T.F_say_stock.ok scSayStock (fun vs H Q E h => ?_) (fun cdv A outer s H vs Q E hr h => ?_)
  · obtain ⟨x, r, p, q, pl, ss, es, rfl, _⟩ := h
    rfl
  · obtain ⟨x, r, p, q, pl, ss, es, rfl, L, sm, k⟩ := h
    have nd := scSayStock.nd
    obtain ⟨dx, e⟩ := L.ob
    have lp := L.st.P.ok.len
    have ls := L.st.ls
    refine ⟨_, (pss_one (ps_ret (pe_call (ok_spaced T) (hr.mono (by omega)) (by rfl) T.g_spaced T.F_spaced.kp T.b_spaced .nil pass0 (pa_cons (pe_meth0 (pv 0) T.C_LivePlant T.M_lv_stock (ok_lv_stock T) (hr.mono (by omega)) T.b_lv_stock .nil pass0) pa_nil)))), ?_⟩
    exact ⟨.ref x, rfl, x, dx, _, rfl, e, lvF_no _ _ _ (by decide +kernel) (by decide +kernel) (by decide +kernel), x, p, q, r, rfl, ⟨dx, e⟩, q, ss, rfl, L.st.S, by omega, sm, k⟩
end
end PT

set_option maxHeartbeats 1000000
/-! the call of a def that an expression gives: [f, g][i](..), its errors handled around it -/
namespace PT
open PySem PySem.Spec PyProof.Rows L2
section
variable {X : Cx}
/-- which defs it may be, and what each promises -/
structure Given (X : Cx) (CX : CXT) (k : Nat) (E : L2.St → XK) (S : Addr → Sp → Prop) : Prop where
  fn : ∀ f sp, S f sp → ∃ (fd : FuncData) (ps : List Str), FnOk X.prog X.w X.K X.mg X.base CX k f fd ps sp ∧ PySem.W.keepIn X.K (.ref f) = true ∧ Binds X.K fd ps []
  up : ∀ σ, PassesAt CX X σ (E σ)
/-- the callee is read first, then the values -/
def tCalee (S : Addr → Sp → Prop) (E : L2.St → XK) (tf : TE) (t : TA) : TE := fun σ H Q => tf σ H fun y H1 => ∃ (f : Addr) (sp : Sp), y = .ref f ∧ S f sp ∧ t σ H1 fun vs H2 => sp vs H2 Q (E σ)
theorem pe_calleeE {CX : CXT} {k : Nat} {E : L2.St → XK} {S : Addr → Sp → Prop} {fe e : Expr} {es : List Expr} {tf : TE} {t : TA} {pos : Pos} (g : Given X CX k E S) (hr : Room k X.A) (hf : PE X fe tf) (ha : PA X (e :: es) t)
    (ht : eval (.Call fe (e :: es) [] pos) X.env = (do callWith pos (← eval fe X.env) [] (backTo pos (starEach (e :: es) X.env)) (backToKw pos (keywordEach [] X.env))) := by rfl)
    (he : starEach (e :: es) X.env = (false, eval e X.env) :: starEach es X.env := by rfl) (hpl : (backTo pos (starEach es X.env)).any (·.1) = false := by rfl) : PE X (.Call fe (e :: es) [] pos) (tCalee S E tf t) := by
  refine ⟨fun pins s σ H Q I h => Call_ (thn (hf.run pins s σ H _ I h) fun u s1 ⟨y, H1, I1, ry, f, sp, ey, hS, q⟩ => ?_) ht⟩
  subst ey
  obtain rfl : u = Value.ref f := ry
  obtain ⟨fd, ps, F, hk, hb⟩ := g.fn f sp hS
  exact PySem.W.callWith_K (h₀ := X.base) I1.ok.mod.kin hk (thn (ha.run pos pins s1 σ H1 _ I1 q) fun us s2 ⟨vs, H2, I2, r, q2⟩ => ⟨I2.kIn, run_fnS F hr hb (g.up σ) I2 r q2⟩) he hpl
end
end PT


set_option maxHeartbeats 4000000
/-! rows of words, answered -/
namespace PT
open PySem PySem.Spec PyProof.Rows L2 LamX NdefX
/-- the parts of an operation's row -/
def partsT (n : Opn) : List Str := n.op.1 :: n.op.2.map numT
theorem num31 {j : Nat} (h : j ≤ 10 ^ 30) : decT (numT (j : Int)) 31 = true ∧ PySem.intText? (numT (j : Int)) = some (j : Int) ∧ (numT (j : Int)).length ≤ 41 := by
  have ab : ((j : Int)).natAbs = j := Int.natAbs_natCast j
  have lt : ((j : Int)).natAbs < 10 ^ 40 := by rw [ab]; exact Nat.lt_of_le_of_lt h (by decide)
  obtain ⟨_, h2, h3⟩ := num_ok lt
  refine ⟨(decT_iff _ 31).mpr ?_, h2, h3⟩
  rw [numT_pos (Int.natCast_nonneg j), ab]
  exact numL_dec (by decide) (Nat.lt_of_le_of_lt h (by decide))
section
variable {P : Program} {w : World} {K : PySem.W.Frag} {mg : Str → Option Value} {base : Heap}
def Say1 (T : Tx K mg) : Addr → Sp → Prop := fun f sp => (f = T.f_say_day ∧ sp = spSay T fun n => n = .day) ∨ (f = T.f_say_remove ∧ sp = spSay T fun n => n = .rem) ∨ (f = T.f_say_undo ∧ sp = spSayUndo T) ∨ (f = T.f_say_stock ∧ sp = spSayStock T)
def Say2 (T : Tx K mg) : Addr → Sp → Prop := fun f sp => (f = T.f_say_sell ∧ sp = spSay T fun n => ∃ j, n = .sell j) ∨ (f = T.f_say_days ∧ sp = spSay T fun n => ∃ d, n = .days d) ∨ (f = T.f_say_add ∧ sp = spSay T fun n => ∃ j, n = .add j)
theorem say1_given (T : Tx K mg) (B2 : TabB base mg T.c_oldest_giver T.P_oldest_giver) {X : Cx} (e1 : X.prog = P) (e2 : X.w = w) (e3 : X.K = K) (e4 : X.mg = mg) (e5 : X.base = base) : Given X CX0 13 (fun _ _ _ _ => False) (Say1 T) := by
  subst e1 e2 e3 e4 e5
  refine ⟨fun f sp h => ?_, fun σ _ _ _ _ _ _ h => h.elim⟩
  rcases h with ⟨rfl, rfl⟩ | ⟨rfl, rfl⟩ | ⟨rfl, rfl⟩ | ⟨rfl, rfl⟩
  · exact ⟨_, _, (ok_say_day T B2).mono (by omega), T.F_say_day.kp, T.b_say_day⟩
  · exact ⟨_, _, (ok_say_remove T).mono (by omega), T.F_say_remove.kp, T.b_say_remove⟩
  · exact ⟨_, _, (ok_say_undo T).mono (by omega), T.F_say_undo.kp, T.b_say_undo⟩
  · exact ⟨_, _, (ok_say_stock T).mono (by omega), T.F_say_stock.kp, T.b_say_stock⟩
theorem say2_given (T : Tx K mg) (B : TabB base mg T.c_words_by_age T.P_words_by_age) (B2 : TabB base mg T.c_oldest_giver T.P_oldest_giver) {X : Cx} (e1 : X.prog = P) (e2 : X.w = w) (e3 : X.K = K) (e4 : X.mg = mg) (e5 : X.base = base) : Given X CX0 13 (fun _ _ _ _ => False) (Say2 T) := by
  subst e1 e2 e3 e4 e5
  refine ⟨fun f sp h => ?_, fun σ _ _ _ _ _ _ h => h.elim⟩
  rcases h with ⟨rfl, rfl⟩ | ⟨rfl, rfl⟩ | ⟨rfl, rfl⟩
  · exact ⟨_, _, (ok_say_sell T B2).mono (by omega), T.F_say_sell.kp, T.b_say_sell⟩
  · exact ⟨_, _, ok_say_days T B B2, T.F_say_days.kp, T.b_say_days⟩
  · exact ⟨_, _, (ok_say_add T).mono (by omega), T.F_say_add.kp, T.b_say_add⟩
def spCheckRow : Sp := fun vs H Q _ => vs = [.bl true] ∧ Q .non H
theorem ok_checkRow (T : Tx K mg) {k : Nat} : FnOk P w K mg base CX0 (k + 1) T.f_check_row T.d_check_row ["holds"] spCheckRow := by
  refine T.F_check_row.ok scCheckRow (fun vs H Q E h => ?_) (fun cdv A outer s H vs Q E hr h => ?_)
  · obtain ⟨rfl, _⟩ := h
    rfl
  · obtain ⟨rfl, q⟩ := h
    refine ⟨_, (pss_one (ps_if (pt_not (pt_val (pv 0)))
(pss_one ps_never) pss_nil)), ?_⟩
    exact ⟨.bl true, rfl, true, rfl, iteF q⟩
/-- an operation, undo or stock -/
def spAns (T : Tx K mg) : Sp := fun vs H Q _ => ∃ (x l r p q : Addr) (pl ss : List Int) (ps : List Str), vs = [.ref x, .ref l] ∧ H l = some (.lst (ps.map V.str)) ∧
  ((∃ (es : List Ent) (n : Opn) (m : Int), ps = partsT n ∧ LiveAt T.x_LivePlant H x r p q pl ss es ∧ n.ok pl (10 ^ 30) m ∧ m ≤ 40 ∧ es.length ≤ 1000 ∧ (∀ i ∈ ss, i.natAbs < 10 ^ 50) ∧ Tabs T.tabW H ∧
      ∀ (H' : Hp) (p2 q2 : Addr), BarL x r H H' → Tabs T.tabW H' → LiveAt T.x_LivePlant H' x r p2 q2 (n.pl pl) (n.ss pl ss) (es ++ [⟨n.op, pl, ss⟩]) → Q (.str (ansT n ss)) H') ∨
   (∃ (es : List Ent) (e : Ent), ps = [Str.ofString "undo"] ∧ LiveAt T.x_LivePlant H x r p q pl ss (es ++ [e]) ∧ es.length ≤ 1000 ∧
      ∀ (H' : Hp) (p2 q2 : Addr), Bar2 x r H H' → LiveAt T.x_LivePlant H' x r p2 q2 e.pl e.ss es → Q (.str (Str.ofString "ok")) H') ∨
   (∃ es : List Ent, ps = [Str.ofString "stock"] ∧ LiveAt T.x_LivePlant H x r p q pl ss es ∧ (∀ i ∈ ss, i.natAbs < 10 ^ 50) ∧ ∀ H', Same H H' → Q (.str (spacedT ss)) H'))
theorem ok_answer (T : Tx K mg) (B : TabB base mg T.c_words_by_age T.P_words_by_age) (B2 : TabB base mg T.c_oldest_giver T.P_oldest_giver) (TD : TxD w T) : FnOk P w K mg base CX0 14 T.f_answer T.d_answer ["live", "parts"] (spAns T) := by
  obtain ⟨es1, n1, D1⟩ := TD.D_ALONE
  obtain ⟨es2, n2, D2⟩ := TD.D_WITH_NUMBER
  refine T.F_answer.ok scAnswer (fun vs H Q E h => ?_) (fun cdv A outer s H vs Q E hr h => ?_)
  · obtain ⟨x, l, r, p, q, pl, ss, ps, rfl, _⟩ := h
    rfl
  · obtain ⟨x, l, r, p, q, pl, ss, ps, rfl, el, h⟩ := h
    have nd := scAnswer.nd
    refine ⟨_, (pss_cons (ps_if (PW.pt (pw_and (pt_cmpR op_eq (pe_callB call_len_seq (by rfl) T.n_len PySem.boot_len (pa_cons (pv 1) pa_nil)) pe_int (nomark _)) (pw_and1 (pt_cmpR (op_in_kd D1) (pe_ix ix_list (pv 1) pe_int (fun _ _ => rfl)) (pe_glob (v := .ref T.A_ALONE) (by rfl) T.g_ALONE rfl) (by rfl)))))
(pss_cons (ps_set (i := 2) nd rfl (.inl rfl) (pe_ix ix_kdict (pe_glob (v := .ref T.A_ALONE) (by rfl) T.g_ALONE rfl) (pe_ix ix_list (pv 1) pe_int (fun _ _ => rfl)) (fun _ _ => rfl)))
(pss_one (ps_ret (pe_calleeE (CX := CX0) (k := 13) (S := Say1 T) (say1_given T B2 rfl rfl rfl rfl rfl) (hr.mono (by omega)) (pv 2) (pa_cons (pv 0) pa_nil))))) pss_nil)
(pss_cons (ps_expr (pe_call (ok_checkRow T (k := 0)) (hr.mono (by omega)) (by rfl) T.g_check_row T.F_check_row.kp T.b_check_row .nil pass0 (pa_cons (pe_and (pe_cmpR op_eq (pe_callB call_len_seq (by rfl) T.n_len PySem.boot_len (pa_cons (pv 1) pa_nil)) pe_int (nomark _)) (pe_and (pe_cmpR (op_in_kd D2) (pe_ix ix_list (pv 1) pe_int (fun _ _ => rfl)) (pe_glob (v := .ref T.A_WITH_NUMBER) (by rfl) T.g_WITH_NUMBER rfl) (by rfl)) (pe_one (pe_call (T.isDecimal (k := 0)) (hr.mono (by omega)) (by rfl) T.g_is_decimal T.F_is_decimal.kp T.b_is_decimal .nil pass0 (pa_cons (pe_ix ix_list (pv 1) pe_int (fun _ _ => rfl)) (pa_cons (pe_glob (v := .int 31) (by rfl) T.g_MOST_DIGITS_console ⟨_, rfl⟩) pa_nil)))))) pa_nil)))
(pss_cons (ps_set (i := 2) nd rfl (.inl rfl) (pe_ix ix_kdict (pe_glob (v := .ref T.A_WITH_NUMBER) (by rfl) T.g_WITH_NUMBER rfl) (pe_ix ix_list (pv 1) pe_int (fun _ _ => rfl)) (fun _ _ => rfl)))
(pss_one (ps_ret (pe_calleeE (CX := CX0) (k := 13) (S := Say2 T) (say2_given T B B2 rfl rfl rfl rfl rfl) (hr.mono (by omega)) (pv 2) (pa_cons (pv 0) (pa_cons (pe_callTy call_int_str (by rfl) T.n_int (by decide +kernel) (pa_cons (pe_ix ix_list (pv 1) pe_int (fun _ _ => rfl)) pa_nil)) pa_nil)))))))), ?_⟩
    rcases h with ⟨es, n, m, rfl, L, hk, hm, hl, sm, hT, k⟩ | ⟨es, en, rfl, L, hl, k⟩ | ⟨es, rfl, L, sm, k⟩
    · cases n with
      | day =>
        have el : H l = some (.lst [V.str (Str.ofString "day")]) := el
        refine ⟨.ref l, rfl, l, _, rfl, .inl (.inl (.inl el)), rfl, _, rfl, iteT ?_⟩
        refine ⟨.ref l, rfl, l, _, 0, .str (Str.ofString "day"), rfl, rfl, .inl (.inl el), atI_nat (j := 0) rfl, Str.ofString "day", some _, rfl, rfl, T.y_ALONE_day, _, rfl, iteT ?_⟩
        refine ⟨.ref l, rfl, l, _, 0, .str (Str.ofString "day"), rfl, rfl, .inl (.inl el), atI_nat (j := 0) rfl, T.A_ALONE, Str.ofString "day", .ref T.f_say_day, rfl, rfl, ⟨es1, n1, _, D1.at_, D1.lit, T.y_ALONE_day, rfl⟩, ?_⟩
        exact ⟨.ref T.f_say_day, rfl, T.f_say_day, _, rfl, .inl ⟨rfl, rfl⟩, .ref x, rfl, x, r, p, q, pl, ss, es, .day, m, rfl, rfl, L, hk, hm, hl, sm, hT, k⟩
      | rem =>
        have el : H l = some (.lst [V.str (Str.ofString "remove")]) := el
        refine ⟨.ref l, rfl, l, _, rfl, .inl (.inl (.inl el)), rfl, _, rfl, iteT ?_⟩
        refine ⟨.ref l, rfl, l, _, 0, .str (Str.ofString "remove"), rfl, rfl, .inl (.inl el), atI_nat (j := 0) rfl, Str.ofString "remove", some _, rfl, rfl, T.y_ALONE_remove, _, rfl, iteT ?_⟩
        refine ⟨.ref l, rfl, l, _, 0, .str (Str.ofString "remove"), rfl, rfl, .inl (.inl el), atI_nat (j := 0) rfl, T.A_ALONE, Str.ofString "remove", .ref T.f_say_remove, rfl, rfl, ⟨es1, n1, _, D1.at_, D1.lit, T.y_ALONE_remove, rfl⟩, ?_⟩
        exact ⟨.ref T.f_say_remove, rfl, T.f_say_remove, _, rfl, .inr (.inl ⟨rfl, rfl⟩), .ref x, rfl, x, r, p, q, pl, ss, es, .rem, m, rfl, rfl, L, hk, hm, hl, sm, hT, k⟩
      | days d =>
        have el : H l = some (.lst [V.str (Str.ofString "days"), .str (numT (d : Int))]) := el
        obtain ⟨hd, hi, hl1⟩ := num31 (j := d) (by exact hk.2)
        refine ⟨.ref l, rfl, l, _, rfl, .inl (.inl (.inl el)), rfl, _, rfl, iteF ?_⟩
        refine ⟨.ref l, rfl, l, _, rfl, .inl (.inl (.inl el)), rfl, _, rfl, iteT ?_⟩
        refine ⟨.ref l, rfl, l, _, 0, .str (Str.ofString "days"), rfl, rfl, .inl (.inl el), atI_nat (j := 0) rfl, Str.ofString "days", some _, rfl, rfl, T.y_WITH_NUMBER_days, _, rfl, iteT ?_⟩
        refine ⟨.ref l, rfl, l, _, 1, .str (numT (d : Int)), rfl, rfl, .inl (.inl el), atI_nat (j := 1) rfl, numT (d : Int), 31, rfl, by have : 100 ≤ sizeLine := (by decide); omega, congrArg (fun z => [V.bl z]) hd, ?_⟩
        refine ⟨.ref l, rfl, l, _, 0, .str (Str.ofString "days"), rfl, rfl, .inl (.inl el), atI_nat (j := 0) rfl, T.A_WITH_NUMBER, Str.ofString "days", .ref T.f_say_days, rfl, rfl, ⟨es2, n2, _, D2.at_, D2.lit, T.y_WITH_NUMBER_days, rfl⟩, ?_⟩
        exact ⟨.ref T.f_say_days, rfl, T.f_say_days, _, rfl, .inr (.inl ⟨rfl, rfl⟩), .ref x, rfl, .ref l, rfl, l, _, 1, .str (numT (d : Int)), rfl, rfl, .inl (.inl el), atI_nat (j := 1) rfl, numT (d : Int), (d : Int), rfl, hi, by omega, x, r, p, q, pl, ss, es, .days d, m, rfl, ⟨d, rfl⟩, L, hk, hm, hl, sm, hT, k⟩
      | sell j =>
        have el : H l = some (.lst [V.str (Str.ofString "sell"), .str (numT (j : Int))]) := el
        obtain ⟨hd, hi, hl1⟩ := num31 (j := j) (by exact Nat.le_trans (show j ≤ 39 by have := L.st.P.ok.len; have hk2 : j ≤ pl.length := hk; omega) (by decide))
        refine ⟨.ref l, rfl, l, _, rfl, .inl (.inl (.inl el)), rfl, _, rfl, iteF ?_⟩
        refine ⟨.ref l, rfl, l, _, rfl, .inl (.inl (.inl el)), rfl, _, rfl, iteT ?_⟩
        refine ⟨.ref l, rfl, l, _, 0, .str (Str.ofString "sell"), rfl, rfl, .inl (.inl el), atI_nat (j := 0) rfl, Str.ofString "sell", some _, rfl, rfl, T.y_WITH_NUMBER_sell, _, rfl, iteT ?_⟩
        refine ⟨.ref l, rfl, l, _, 1, .str (numT (j : Int)), rfl, rfl, .inl (.inl el), atI_nat (j := 1) rfl, numT (j : Int), 31, rfl, by have : 100 ≤ sizeLine := (by decide); omega, congrArg (fun z => [V.bl z]) hd, ?_⟩
        refine ⟨.ref l, rfl, l, _, 0, .str (Str.ofString "sell"), rfl, rfl, .inl (.inl el), atI_nat (j := 0) rfl, T.A_WITH_NUMBER, Str.ofString "sell", .ref T.f_say_sell, rfl, rfl, ⟨es2, n2, _, D2.at_, D2.lit, T.y_WITH_NUMBER_sell, rfl⟩, ?_⟩
        exact ⟨.ref T.f_say_sell, rfl, T.f_say_sell, _, rfl, .inl ⟨rfl, rfl⟩, .ref x, rfl, .ref l, rfl, l, _, 1, .str (numT (j : Int)), rfl, rfl, .inl (.inl el), atI_nat (j := 1) rfl, numT (j : Int), (j : Int), rfl, hi, by omega, x, r, p, q, pl, ss, es, .sell j, m, rfl, ⟨j, rfl⟩, L, hk, hm, hl, sm, hT, k⟩
      | add j =>
        have el : H l = some (.lst [V.str (Str.ofString "add"), .str (numT (j : Int))]) := el
        obtain ⟨hd, hi, hl1⟩ := num31 (j := j) (by exact Nat.le_trans (show j ≤ 39 by have := L.st.P.ok.len; have hk2 : j ≤ pl.length := hk.1; omega) (by decide))
        refine ⟨.ref l, rfl, l, _, rfl, .inl (.inl (.inl el)), rfl, _, rfl, iteF ?_⟩
        refine ⟨.ref l, rfl, l, _, rfl, .inl (.inl (.inl el)), rfl, _, rfl, iteT ?_⟩
        refine ⟨.ref l, rfl, l, _, 0, .str (Str.ofString "add"), rfl, rfl, .inl (.inl el), atI_nat (j := 0) rfl, Str.ofString "add", some _, rfl, rfl, T.y_WITH_NUMBER_add, _, rfl, iteT ?_⟩
        refine ⟨.ref l, rfl, l, _, 1, .str (numT (j : Int)), rfl, rfl, .inl (.inl el), atI_nat (j := 1) rfl, numT (j : Int), 31, rfl, by have : 100 ≤ sizeLine := (by decide); omega, congrArg (fun z => [V.bl z]) hd, ?_⟩
        refine ⟨.ref l, rfl, l, _, 0, .str (Str.ofString "add"), rfl, rfl, .inl (.inl el), atI_nat (j := 0) rfl, T.A_WITH_NUMBER, Str.ofString "add", .ref T.f_say_add, rfl, rfl, ⟨es2, n2, _, D2.at_, D2.lit, T.y_WITH_NUMBER_add, rfl⟩, ?_⟩
        exact ⟨.ref T.f_say_add, rfl, T.f_say_add, _, rfl, .inr (.inr ⟨rfl, rfl⟩), .ref x, rfl, .ref l, rfl, l, _, 1, .str (numT (j : Int)), rfl, rfl, .inl (.inl el), atI_nat (j := 1) rfl, numT (j : Int), (j : Int), rfl, hi, by omega, x, r, p, q, pl, ss, es, .add j, m, rfl, ⟨j, rfl⟩, L, hk, hm, hl, sm, hT, k⟩
    · have el : H l = some (.lst [V.str (Str.ofString "undo")]) := el
      refine ⟨.ref l, rfl, l, _, rfl, .inl (.inl (.inl el)), rfl, _, rfl, iteT ?_⟩
      refine ⟨.ref l, rfl, l, _, 0, .str (Str.ofString "undo"), rfl, rfl, .inl (.inl el), atI_nat (j := 0) rfl, Str.ofString "undo", some _, rfl, rfl, T.y_ALONE_undo, _, rfl, iteT ?_⟩
      refine ⟨.ref l, rfl, l, _, 0, .str (Str.ofString "undo"), rfl, rfl, .inl (.inl el), atI_nat (j := 0) rfl, T.A_ALONE, Str.ofString "undo", .ref T.f_say_undo, rfl, rfl, ⟨es1, n1, _, D1.at_, D1.lit, T.y_ALONE_undo, rfl⟩, ?_⟩
      exact ⟨.ref T.f_say_undo, rfl, T.f_say_undo, _, rfl, .inr (.inr (.inl ⟨rfl, rfl⟩)), .ref x, rfl, x, r, p, q, pl, ss, es, en, rfl, L, hl, k⟩
    · have el : H l = some (.lst [V.str (Str.ofString "stock")]) := el
      refine ⟨.ref l, rfl, l, _, rfl, .inl (.inl (.inl el)), rfl, _, rfl, iteT ?_⟩
      refine ⟨.ref l, rfl, l, _, 0, .str (Str.ofString "stock"), rfl, rfl, .inl (.inl el), atI_nat (j := 0) rfl, Str.ofString "stock", some _, rfl, rfl, T.y_ALONE_stock, _, rfl, iteT ?_⟩
      refine ⟨.ref l, rfl, l, _, 0, .str (Str.ofString "stock"), rfl, rfl, .inl (.inl el), atI_nat (j := 0) rfl, T.A_ALONE, Str.ofString "stock", .ref T.f_say_stock, rfl, rfl, ⟨es1, n1, _, D1.at_, D1.lit, T.y_ALONE_stock, rfl⟩, ?_⟩
      exact ⟨.ref T.f_say_stock, rfl, T.f_say_stock, _, rfl, .inr (.inr (.inr ⟨rfl, rfl⟩)), .ref x, rfl, x, r, p, q, pl, ss, es, rfl, L, sm, k⟩
end
end PT


set_option maxHeartbeats 4000000
/-! read_plant of the text of a plant -/
namespace PT
open PySem PySem.Spec PyProof.Rows L2 TL
abbrev rSplit : V → List V → Hp → VK → Prop := fun x xs H Q => ∃ a b, x = .str a ∧ xs = [.str b] ∧ (b.length == 0) = false ∧ a.length + 2 ≤ sizeLine ∧ rNewStrs (Txt.split a b) H Q
section
variable {P : Program} {w : World} {K : PySem.W.Frag} {mg : Str → Option Value} {base : Heap}
def spReadPlant : Sp := fun vs H Q _ => ∃ (pl ss : List Int), vs = [.str (showT pl ss)] ∧ Plant pl ∧ ss.length = pl.length + 1 ∧ ss.Nodup ∧ (∀ n ∈ ss, n.natAbs < 10 ^ 40) ∧
  ∀ (H' : Hp) (t p q : Addr), Same H H' → H t = none → H p = none → H q = none → H' t = some (.tup [.ref p, .ref q]) → H' p = some (.tup (pl.map V.int)) → H' q = some (.tup (ss.map V.int)) → Q (.ref t) H'
theorem Tx.readPlant (T : Tx K mg) {k : Nat} : FnOk P w K mg base CX0 (k + 4) T.f_read_plant T.d_read_plant ["text"] spReadPlant := by
  refine T.F_read_plant.ok scReadPlant (fun vs H Q E h => ?_) (fun cdv A outer s H vs Q E hr h => ?_)
  · obtain ⟨pl, ss, rfl, _⟩ := h
    rfl
  · obtain ⟨pl, ss, rfl, hP, ls, nd0, sm, q⟩ := h
    have nd := scReadPlant.nd
    refine ⟨_, (pss_cons (ps_expr (pe_call (T.checkText (k := 0)) (hr.mono (by omega)) (by rfl) T.g_check_text T.F_check_text.kp T.b_check_text .nil pass0 (pa_cons (pe_and (pe_callB call_isi (by rfl) T.n_isinstance (by decide +kernel) (pa_cons (pv 0) (pa_cons (pe_bltn (v := .ty "str") (by rfl) T.n_str (by decide +kernel) rfl) pa_nil))) (pe_one (pe_bm PySem.F.plainAttrs_str PySem.F.slot_str_endswith PySem.F.type_str_endswith mt_endswith (pv 0) (pa_cons pe_str pa_nil)))) pa_nil)))
(pss_cons (ps_setLc (i := 1) (own := [("line", 4)]) (g := gName 4) (tt := tYes) (te := (tBM K "str" rSplit (tVar 4) (tCons (tC (.str " ")) tNil))) (by rfl) nd rfl rfl (sw_true rfl rfl rfl (by decide +kernel)) (pi_list (pe_bm PySem.F.plainAttrs_str PySem.F.slot_str_split PySem.F.type_str_split mt_split (pe_bm PySem.F.plainAttrs_str PySem.F.slot_str_removesuffix PySem.F.type_str_removesuffix mt_removesuffix (pv 0) (pa_cons pe_str pa_nil)) (pa_cons pe_str pa_nil)))
(blkOk_by (N := ["text", "rows", "plant", "stock", "line", "row"]) (sc := defScope sReadPlant) (by decide +kernel)) (fun _ _ _ _ _ => (pg_name (i := 4) nd rfl (.inl rfl))) (fun _ _ _ _ _ => pts_nil) (fun _ _ _ _ _ => (pe_bm PySem.F.plainAttrs_str PySem.F.slot_str_split PySem.F.type_str_split mt_split (pv 4) (pa_cons pe_str pa_nil))))
(pss_cons (ps_expr (pe_call (T.checkText (k := 0)) (hr.mono (by omega)) (by rfl) T.g_check_text T.F_check_text.kp T.b_check_text .nil pass0 (pa_cons (pe_and (pe_callB (cr_all rfl) (by rfl) T.n_all (by decide +kernel) (pa_cons (pe_lc (own := [("row", 5)]) (g := gName 5) (tt := tYes) (te := (tOp rEq (tCB (fun xs H Q => ∃ p ys, xs = [.ref p] ∧ (SqL K H p ys ∨ SqT K H p ys) ∧ Q (.int (ys.length : Int)) H) (tCons (tVar 5) tNil)) (tC (.int 2)))) rfl nd (pi_list (pv 1))
(blkOk_by (N := ["text", "rows", "plant", "stock", "line", "row"]) (sc := defScope sReadPlant) (by decide +kernel)) (fun _ _ _ _ _ => (pg_name (i := 5) nd rfl (.inl rfl))) (fun _ _ _ _ _ => pts_nil) (fun _ _ _ _ _ => (pe_cmpR op_eq (pe_callB call_len_seq (by rfl) T.n_len PySem.boot_len (pa_cons (pv 5) pa_nil)) pe_int (nomark _)))) pa_nil)) (pe_one (pe_cmpR op_eq (pe_ix ix_list (pe_ix ix_list (pv 1) pe_int (fun _ _ => rfl)) pe_int (fun _ _ => rfl)) pe_str (nomark _)))) pa_nil)))
(pss_cons (ps_set (i := 2) nd rfl (.inl rfl) (pe_callTy call_tuple_of (by rfl) T.n_tuple (by decide +kernel) (pa_cons (pe_lc (own := [("row", 5)]) (g := gName 5) (tt := tYes) (te := (tCall spNumberIn [] E0 (tCons (tOp (rIxL K) (tVar 5) (tC (.int 0))) tNil))) rfl nd (pi_list (pe_slice sl_list (pv 1) (po_some pe_int) po_none))
(blkOk_by (N := ["text", "rows", "plant", "stock", "line", "row"]) (sc := defScope sReadPlant) (by decide +kernel)) (fun _ _ _ _ _ => (pg_name (i := 5) nd rfl (.inl rfl))) (fun _ _ _ _ _ => pts_nil) (fun _ _ _ _ _ => (pe_call (T.numberIn (k := 0)) (hr.mono (by omega)) (by rfl) T.g_number_in T.F_number_in.kp T.b_number_in .nil pass0 (pa_cons (pe_ix ix_list (pv 5) pe_int (fun _ _ => rfl)) pa_nil)))) pa_nil)))
(pss_cons (ps_set (i := 3) nd rfl (.inl rfl) (pe_callTy call_tuple_of (by rfl) T.n_tuple (by decide +kernel) (pa_cons (pe_lc (own := [("row", 5)]) (g := gName 5) (tt := tYes) (te := (tCall spNumberIn [] E0 (tCons (tOp (rIxL K) (tVar 5) (tC (.int 1))) tNil))) rfl nd (pi_list (pv 1))
(blkOk_by (N := ["text", "rows", "plant", "stock", "line", "row"]) (sc := defScope sReadPlant) (by decide +kernel)) (fun _ _ _ _ _ => (pg_name (i := 5) nd rfl (.inl rfl))) (fun _ _ _ _ _ => pts_nil) (fun _ _ _ _ _ => (pe_call (T.numberIn (k := 0)) (hr.mono (by omega)) (by rfl) T.g_number_in T.F_number_in.kp T.b_number_in .nil pass0 (pa_cons (pe_ix ix_list (pv 5) pe_int (fun _ _ => rfl)) pa_nil)))) pa_nil)))
(pss_cons (ps_expr (pe_call (T.checkText (k := 0)) (hr.mono (by omega)) (by rfl) T.g_check_text T.F_check_text.kp T.b_check_text .nil pass0 (pa_cons (pe_and (pe_call (T.fits (k := 0)) (hr.mono (by omega)) (by rfl) T.g_fits_plant T.F_fits_plant.kp T.b_fits_plant .nil pass0 (pa_cons (pv 2) pa_nil)) (pe_one (pe_call (T.fitsStockF (k := 0)) (hr.mono (by omega)) (by rfl) T.g_fits_stock T.F_fits_stock.kp T.b_fits_stock .nil pass0 (pa_cons (pv 2) (pa_cons (pv 3) pa_nil))))) pa_nil)))
(pss_one (ps_ret (pe_tup (pa_cons (pv 2) (pa_cons (pv 3) pa_nil))))))))))), ?_⟩
    refine ⟨.str (showT pl ss), rfl, .str (showT pl ss), .ty "str", _, _, true, rfl, .ty _, .base (.str _), kit_ty (by decide +kernel), _, rfl, iteT ?_⟩
    refine ⟨.str (showT pl ss), rfl, rfl, showT pl ss, nlT, rfl, rfl, ?_⟩
    rw [show_ends ls]
    refine ⟨rfl, ?_⟩
    have lp := hP.len
    have smP := plant_sm hP
    have lX := showT_len lp ls (fun x hx => Nat.lt_trans (smP x hx) (by decide)) (fun x hx => Nat.lt_trans (sm x hx) (by decide))
    have lX2 : (Txt.removesuffix (showT pl ss) nlT).length ≤ 5200 := by
      rw [len_tl, rmsuf_tl]
      split
      · rw [List.length_take, ← len_tl]; omega
      · rw [← len_tl]; exact lX
    have line5 : 5202 ≤ sizeLine := by decide
    refine ⟨.str (showT pl ss), rfl, rfl, showT pl ss, nlT, rfl, rfl, by omega, rfl, Txt.removesuffix (showT pl ss) nlT, nlT, rfl, rfl, by decide +kernel, by omega, fun l nl => ?_⟩
    rw [show_split ls]
    have lb : (bosses pl).length = ss.length := by
      rw [ls]
      show (pl.map numT).length + 1 = _
      rw [List.length_map]
    have lr := rowsT_len lb
    have s1 := same_new (o := .lst ((rowsT (bosses pl) ss).map V.str)) nl
    have el : (upd H l (.lst ((rowsT (bosses pl) ss).map V.str))) l = some (.lst ((rowsT (bosses pl) ss).map V.str)) := upd_same
    generalize upd H l _ = H1 at s1 el ⊢
    refine ⟨l, rfl, ⟨_, .inl (.inl el)⟩, fun D nD => ?_⟩
    refine lc_list (xs := (rowsT (bosses pl) ss).map V.str) (fun i G => Same H1 G ∧ ∃ rs : List Addr, G D = some (.lst (rs.map V.ref)) ∧ rs.length = i ∧ (∀ r ∈ rs, H1 r = none ∧ r ≠ D) ∧ ∀ (k : Nat) (r : Addr) (a : Str) (n : Int), rs[k]? = some r → (bosses pl)[k]? = some a → ss[k]? = some n → G r = some (.lst [.str a, .str (numT n)]))
      ⟨same_new nD, [], upd_same, rfl, fun r h => (by cases h), fun k r a n h => (by cases h)⟩ (fun i G _ p1 => .inl (.inl (p1.1 _ _ el))) (fun i x G ex p1 => ?_) (fun G p1 => ?_)
    · obtain ⟨sG, rs, eD, lrs, new, at_⟩ := p1
      have hi := (List.getElem?_eq_some_iff.mp ex).1
      rw [List.length_map, lr] at hi
      have e1 : (bosses pl)[i]? = some (bosses pl)[i] := List.getElem?_eq_getElem hi
      have e2 : ss[i]? = some ss[i] := List.getElem?_eq_getElem (by omega)
      have m1 : (bosses pl)[i] ∈ bosses pl := List.getElem_mem hi
      have m2 : ss[i] ∈ ss := List.getElem_mem (by omega)
      rw [List.getElem?_map, rowsT_get e1 e2] at ex
      cases ex
      generalize (bosses pl)[i] = a0 at e1 m1
      generalize ss[i] = n0 at e2 m2
      have lrow : (rowT a0 n0).length ≤ 200 := by
        have z1 := bosses_len (fun x hx => Nat.lt_trans (smP x hx) (by decide)) a0 m1
        have z2 := numT_len (i := n0) (Nat.lt_trans (sm n0 m2) (by decide))
        have z3 : spT.length = 1 := by decide
        unfold rowT
        rw [Str.length_append, Str.length_append]
        omega
      refine ⟨rfl, tyes_if ⟨.str (rowT a0 n0), rfl, rfl, rowT a0 n0, spT, rfl, rfl, by decide +kernel, by omega, fun r nr => ?_⟩⟩
      rw [row_split m1]
      have sr := same_new (o := .lst ([a0, numT n0].map V.str)) nr
      have eD2 := sr _ _ eD
      have rD : r ≠ D := Ne.symm (ne_of_none eD nr)
      have er : (upd G r (.lst ([a0, numT n0].map V.str))) r = some (.lst [.str a0, .str (numT n0)]) := upd_same
      have nr1 : H1 r = none := sG.free nr
      generalize upd G r _ = G2 at sr eD2 er ⊢
      refine ⟨_, eD2, ?_, fun c o hc => ?_, rs ++ [r], ?_, ?_, fun c hc => ?_, fun k c a n g1 g2 g3 => ?_⟩
      · rw [List.length_map]
        exact small300 (by omega)
      · rw [upd_ne (ne_of_none hc nD)]
        exact sr _ _ (sG _ _ hc)
      · rw [upd_same, List.map_append]
        rfl
      · rw [List.length_append, lrs]
        rfl
      · rcases List.mem_append.mp hc with z | z
        · exact new c z
        · rw [List.mem_singleton.mp z]
          exact ⟨nr1, rD⟩
      · rcases Nat.lt_trichotomy k i with z | z | z
        · rw [List.getElem?_append_left (by omega)] at g1
          rw [upd_ne (new c (List.mem_of_getElem? g1)).2]
          exact sr _ _ (at_ k c a n g1 g2 g3)
        · subst z
          rw [List.getElem?_append_right (by omega), lrs, Nat.sub_self] at g1
          cases g1
          rw [e1] at g2
          rw [e2] at g3
          cases g2
          cases g3
          rw [upd_ne rD]
          exact er
        · rw [List.getElem?_eq_none (by rw [List.length_append, lrs]; exact z)] at g1
          cases g1
    obtain ⟨sG, rs, eD, lrs, new, at_⟩ := p1
    rw [List.length_map, lr] at lrs
    have s2 := s1.trans sG
    clear sG el s1 nD nl
    have rrow : ∀ (k : Nat) (r : Addr), rs[k]? = some r → ∃ a n, (bosses pl)[k]? = some a ∧ ss[k]? = some n ∧ G r = some (.lst [.str a, .str (numT n)]) := fun k r e => by
      have hk := (List.getElem?_eq_some_iff.mp e).1
      have e1 : (bosses pl)[k]? = some (bosses pl)[k] := List.getElem?_eq_getElem (by omega)
      have e2 : ss[k]? = some ss[k] := List.getElem?_eq_getElem (by omega)
      exact ⟨_, _, e1, e2, at_ k r _ _ e e1 e2⟩
    refine ⟨.ref D, rfl, D, rfl, ⟨_, .inl (.inl eD)⟩, fun D2 nD2 => ?_⟩
    refine lc_list (xs := rs.map V.ref) (fun i G2 => Same G G2 ∧ G2 D2 = some (.lst ((List.replicate i true).map V.bl))) ⟨same_new nD2, upd_same⟩ (fun i G2 _ p1 => .inl (.inl (p1.1 _ _ eD))) (fun i x G2 ex p1 => ?_) (fun G2 p1 => ?_)
    · obtain ⟨sG, eD2⟩ := p1
      rw [List.getElem?_map] at ex
      cases er : rs[i]? with
      | none => rw [er] at ex; cases ex
      | some r =>
        rw [er] at ex
        cases ex
        have hi := (List.getElem?_eq_some_iff.mp er).1
        obtain ⟨a, n, e1, e2, e3⟩ := rrow i r er
        refine ⟨rfl, tyes_if ⟨.ref r, rfl, r, _, rfl, .inl (.inl (.inl (sG _ _ e3))), rfl, _, eD2, ?_, fun c o hc => ?_, ?_⟩⟩
        · rw [List.length_map, List.length_replicate]
          exact small300 (by omega)
        · rw [upd_ne (ne_of_none hc nD2)]
          exact sG _ _ hc
        · rw [upd_same, List.replicate_succ', List.map_append]
          rfl
    obtain ⟨sG, eD2⟩ := p1
    refine ⟨D2, _, rfl, .inl (.inl eD2), ?_⟩
    rw [show (List.replicate (rs.map V.ref).length true).all id = true from List.all_eq_true.mpr fun b hb => (List.mem_replicate.mp hb).2]
    refine ⟨_, rfl, iteT ?_⟩
    obtain ⟨r0, er0⟩ : ∃ r, rs[0]? = some r := ⟨_, List.getElem?_eq_getElem (by omega : 0 < rs.length)⟩
    obtain ⟨a0, n0, f1, f2, f3⟩ := rrow 0 r0 er0
    cases f1
    refine ⟨.ref D, rfl, D, _, 0, .ref r0, rfl, rfl, .inl (.inl (sG _ _ eD)), atI_nat (j := 0) (by rw [List.getElem?_map, er0]; rfl), r0, _, 0, .str (Str.ofString "shop"), rfl, rfl, .inl (.inl (sG _ _ f3)), atI_nat (j := 0) rfl, rfl, ?_⟩
    rw [decide_eq_true rfl]
    refine ⟨rfl, ?_⟩
    have s3 := s2.trans sG
    have eD := sG _ _ eD
    have rrow : ∀ (k : Nat) (r : Addr), rs[k]? = some r → ∃ a n, (bosses pl)[k]? = some a ∧ ss[k]? = some n ∧ G2 r = some (.lst [.str a, .str (numT n)]) := fun k r e => let ⟨a, n, e1, e2, e3⟩ := rrow k r e; ⟨a, n, e1, e2, sG _ _ e3⟩
    clear eD2 sG s2 at_ new nD2 f3
    -- plant
    refine ⟨.ref D, rfl, 1, rfl, D, _, rfl, .inl (.inl eD), fun c nc => ?_⟩
    have sc := same_new (o := .lst (cutV (rs.map V.ref) (some 1) none)) nc
    have ec : (upd G2 c (.lst (cutV (rs.map V.ref) (some 1) none))) c = some (.lst ((rs.drop 1).map V.ref)) := by
      rw [upd_same, show cutV (rs.map V.ref) (some 1) none = (rs.drop 1).map V.ref from (cutV_tail (rs.map V.ref)).trans List.map_drop.symm]
    have eD := sc _ _ eD
    have s4 := s3.trans sc
    have rrow : ∀ (k : Nat) (r : Addr), rs[k]? = some r → ∃ a n, (bosses pl)[k]? = some a ∧ ss[k]? = some n ∧ (upd G2 c (.lst (cutV (rs.map V.ref) (some 1) none))) r = some (.lst [.str a, .str (numT n)]) := fun k r e => let ⟨a, n, e1, e2, e3⟩ := rrow k r e; ⟨a, n, e1, e2, sc _ _ e3⟩
    clear sc nc
    generalize upd G2 c _ = G3 at ec eD s4 rrow ⊢
    refine ⟨c, rfl, ⟨_, .inl (.inl ec)⟩, fun D3 nD3 => ?_⟩
    refine lc_list (xs := (rs.drop 1).map V.ref) (fun i G => Same G3 G ∧ G D3 = some (.lst ((pl.take i).map V.int))) ⟨same_new nD3, upd_same⟩ (fun i G _ p1 => .inl (.inl (p1.1 _ _ ec))) (fun i x G ex p1 => ?_) (fun G p1 => ?_)
    · obtain ⟨sG, eD3⟩ := p1
      rw [List.getElem?_map, List.getElem?_drop] at ex
      cases er : rs[1 + i]? with
      | none => rw [er] at ex; cases ex
      | some r =>
        rw [er] at ex
        cases ex
        have hi := (List.getElem?_eq_some_iff.mp er).1
        obtain ⟨a, n, e1, e2, e3⟩ := rrow _ r er
        have ei : pl[i]? = some pl[i] := List.getElem?_eq_getElem (by omega)
        have ea : a = numT pl[i] := by
          rw [Nat.add_comm] at e1
          have z : (bosses pl)[i + 1]? = (pl.map numT)[i]? := rfl
          rw [z, List.getElem?_map, ei] at e1
          exact (Option.some.inj e1).symm
        have hx := num_ok (smP pl[i] (List.getElem_mem _))
        subst ea
        refine ⟨rfl, tyes_if ⟨.ref r, rfl, r, _, 0, .str (numT pl[i]), rfl, rfl, .inl (.inl (sG _ _ e3)), atI_nat (j := 0) rfl, numT pl[i], pl[i], rfl, hx.1, hx.2.1, Nat.le_trans hx.2.2 (by decide), _, eD3, ?_, fun c o hc => ?_, ?_⟩⟩
        · rw [List.length_map, List.length_take]
          exact small300 (by omega)
        · rw [upd_ne (ne_of_none hc nD3)]
          exact sG _ _ hc
        · rw [upd_same, take_next ei, List.map_append]
          rfl
    obtain ⟨sG, eD3⟩ := p1
    rw [List.length_map, List.length_drop, show rs.length - 1 = pl.length from by omega, List.take_length] at eD3
    refine ⟨D3, _, rfl, .inl ⟨.inl (.inl eD3), fun p2 np2 => ?_⟩⟩
    have sp := sG.trans (same_new (o := .tup (pl.map V.int)) np2)
    have ep : (upd G p2 (.tup (pl.map V.int))) p2 = some (.tup (pl.map V.int)) := upd_same
    have npH : H p2 = none := s4.free (sG.free np2)
    have eD := sp _ _ eD
    have s5 := s4.trans sp
    have rrow : ∀ (k : Nat) (r : Addr), rs[k]? = some r → ∃ a n, (bosses pl)[k]? = some a ∧ ss[k]? = some n ∧ (upd G p2 (.tup (pl.map V.int))) r = some (.lst [.str a, .str (numT n)]) := fun k r e => let ⟨a, n, e1, e2, e3⟩ := rrow k r e; ⟨a, n, e1, e2, sp _ _ e3⟩
    clear sp eD3 sG nD3 ec np2
    generalize upd G p2 _ = G4 at ep eD s5 rrow ⊢
    -- stock
    refine ⟨.ref D, rfl, D, rfl, ⟨_, .inl (.inl eD)⟩, fun D4 nD4 => ?_⟩
    refine lc_list (xs := rs.map V.ref) (fun i G => Same G4 G ∧ G D4 = some (.lst ((ss.take i).map V.int))) ⟨same_new nD4, upd_same⟩ (fun i G _ p1 => .inl (.inl (p1.1 _ _ eD))) (fun i x G ex p1 => ?_) (fun G p1 => ?_)
    · obtain ⟨sG, eD4⟩ := p1
      rw [List.getElem?_map] at ex
      cases er : rs[i]? with
      | none => rw [er] at ex; cases ex
      | some r =>
        rw [er] at ex
        cases ex
        have hi := (List.getElem?_eq_some_iff.mp er).1
        obtain ⟨a, n, e1, e2, e3⟩ := rrow _ r er
        have hx := num_ok (sm n (List.mem_of_getElem? e2))
        refine ⟨rfl, tyes_if ⟨.ref r, rfl, r, _, 1, .str (numT n), rfl, rfl, .inl (.inl (sG _ _ e3)), atI_nat (j := 1) rfl, numT n, n, rfl, hx.1, hx.2.1, Nat.le_trans hx.2.2 (by decide), _, eD4, ?_, fun c o hc => ?_, ?_⟩⟩
        · rw [List.length_map, List.length_take]
          exact small300 (by omega)
        · rw [upd_ne (ne_of_none hc nD4)]
          exact sG _ _ hc
        · rw [upd_same, take_next e2, List.map_append]
          rfl
    obtain ⟨sG, eD4⟩ := p1
    rw [List.length_map, lrs, lb, List.take_length] at eD4
    refine ⟨D4, _, rfl, .inl ⟨.inl (.inl eD4), fun q2 nq2 => ?_⟩⟩
    have sq := sG.trans (same_new (o := .tup (ss.map V.int)) nq2)
    have eq : (upd G q2 (.tup (ss.map V.int))) q2 = some (.tup (ss.map V.int)) := upd_same
    have nqH : H q2 = none := s5.free (sG.free nq2)
    have ep := sq _ _ ep
    have s6 := s5.trans sq
    clear sq eD4 sG nD4 nq2 rrow eD
    generalize upd G q2 _ = G5 at ep eq s6 ⊢
    -- the check
    have PA : PlantAt G5 p2 pl := ⟨ep, hP⟩
    refine ⟨.ref p2, rfl, _, true, rfl, PA.fits, fun G6 s7 => ⟨_, rfl, iteT ?_⟩⟩
    refine ⟨.ref p2, rfl, .ref q2, rfl, p2, q2, pl.map V.int, ss, rfl, (PA.same s7).seq, .inl (s7 _ _ eq), by rw [List.length_map]; exact ls, by omega, nd0, fun G7 s8 => ⟨rfl, ?_⟩⟩
    refine ⟨.ref p2, rfl, .ref q2, rfl, (by show 2 ≤ sizeLine; decide), fun t nt => ?_⟩
    have s9 := s7.trans (s8.trans (same_new (o := .tup [V.ref p2, .ref q2]) nt))
    exact q _ t p2 q2 (s6.trans s9) (s6.free (s7.free (s8.free nt))) npH nqH upd_same (s9 _ _ ep) (s9 _ _ eq)
end
end PT

set_option maxHeartbeats 2000000
/-! a def that is called where a token is out: its body may begin with a text's replace -/
namespace PT
open PySem PySem.Spec PyProof.Rows L2 CwR
/-- as FnOk, where a token is out at the call -/
structure FnTk (P : Program) (w : World) (K : PySem.W.Frag) (mg : Str → Option Value) (base : Heap) (CX : CXT) (k : Nat) (f : Addr) (fd : FuncData) (ps : List Str) (sp : Sp) : Prop where
  ln : ∀ vs H Q E, sp vs H Q E → vs.length = ps.length
  go : ∀ (A : Around) (out : List Env) (s : Shared) (H : Hp) (given : Args) (us : List Value) (vs : List V) (Q : VK) (E : XK), 1 ≤ s.toks → Room k A → Env0 P w K mg base A out s H → BindsTo s fd given (ps.zip us) → Vals vs us → sp vs H Q E →
    codeAny (model P w) A (.call (.ref f) given) (CR CX out P w H s Q E) s
section
variable {P : Program} {w : World} {K : PySem.W.Frag} {mg : Str → Option Value} {base : Heap}
theorem Fun.okTk {CX : CXT} {name qual : Str} {st : Stmt} {f : Addr} {fd : FuncData} {N ps : List Str} {k : Nat} {sp : Sp} (F : Fun K name qual st f fd) (S : FnScope N ps (defScope st)) (ln : ∀ vs H Q E, sp vs H Q E → vs.length = ps.length)
    (rd : ∀ (cdv : Value) (A : Around) (out : List Env) (s : Shared) (H : Hp) (vs : List V) (Q : VK) (E : XK), Room k (A.deeper (envOfC qual (defScope st) s.heap.objs.size f cdv)) → sp vs H Q E →
      ∃ t, PSsT (cxOf CX P w K mg base N qual (defScope st) f cdv A out s H E) (defBody st) t ∧ t ⟨fun _ H2 => Q .non H2, Q, fun _ _ => False, fun _ _ => False⟩ (L2.start N vs) H) :
    FnTk P w K mg base CX (k + 1) f fd ps sp := by
  obtain ⟨_, _, _, _, _, _, cdv, _, _, e, lk, cd⟩ := F.ex
  subst e
  refine ⟨ln, fun A out s H given us vs Q E tk room en bd rv hs => ?_⟩
  have len := ln _ _ _ _ hs
  have stay := fun b o (z : base.get? b = some o) => (en.bs b o z).1
  have kin : K.In s.heap := en.mod.kin.keeps stay
  have kinds : ∀ y ∈ ps.zip us, (defScope st).names.lookup y.1 = some .local ∨ ((defScope st).names.lookup y.1 = some .cell ∧ ((cellsFrom (s.heap.objs.size + 1) (defScope st).names []).lookup y.1).isSome = true) := by
    rintro ⟨n, v⟩ hy
    exact (S.par n (List.of_mem_zip hy).1).imp id fun q => ⟨q, PySem.W.cellsFrom_some _ _ _ (.inl q)⟩
  refine codeAny_call_function room.depth (kin _ _ lk) rfl S.co S.gen rfl (PySem.W.codeRec_of kin cd) (bd _ _ _ _ ?_)
  refine wpAny_mono (PySem.wpAny_toks (wpAny_newFunctionEnv_cells (Q := fun env s1 => env = envOfC qual (defScope st) s.heap.objs.size f cdv ∧ InCallC s env.locals (bindL env.kindOf (ps.zip us) fun _ => none) env.cells (bindC env.kindOf (ps.zip us) fun _ => none) s1) S.kind kinds fun env he s1 x => ⟨he, x⟩)) (fun env s1 q => ?_) fun _ _ z => z.2
  obtain ⟨le, he, x⟩ := q
  subst he
  refine ⟨(en.mod.nolimit.keeps stay).keeps x.toInCall.keep, codeAny_func ?_⟩
  obtain ⟨t, ht, hq⟩ := rd cdv A out s H vs Q E (room.deeper _) hs
  have I : Inv (cxOf CX P w K mg base N qual (defScope st) f cdv A out s H E) [] (L2.start N vs) H s1 := inv_start S room.hd en len rv x
  refine wpAny_mono (ht [] s1 _ H _ (Nat.le_trans tk le) I hq) (fun fl s2 z => ?_) fun er s2 z => z
  cases fl with
  | ret u => exact let ⟨v, _, H2, J, r, q⟩ := z; ⟨v, H2, J.os, J.bare, J.base, J.hok, r, q⟩
  | next => exact let ⟨_, H2, J, q⟩ := z; ⟨V.non, H2, J.os, J.bare, J.base, J.hok, rfl, q⟩
  | brk => exact let ⟨_, _, _, q⟩ := z; q.elim
  | cont => exact let ⟨_, _, _, q⟩ := z; q.elim
end
/-! ### values behind which a token is out -/
section
variable {X : Cx}
def PEk (X : Cx) (e : Expr) (t : TE) : Prop := ∀ (pins : List (Addr × Obj)) (s : Shared) (σ : L2.St) (H : Hp) (Q : VK), Inv X pins σ H s → t σ H Q → wpAny (model X.prog X.w) X.A (eval e X.env) (fun u s2 => 1 ≤ s2.toks ∧ EP X pins σ Q u s2) X.xe s
/-- o.m("..") -/
theorem pek_bm {T : String} {name : Str} {id : String} {r : V → List V → Hp → VK → Prop} {o : Expr} {to : TE} {c : Str} {j : Nat} {p0 apos pos : Pos} (pa : PlainAttrs T) (slot : Slot T name id) (hty : typeOf (.builtin id) = pure (.type "method_descriptor")) (hm : MtR X id r) (ho : PE X o to)
    (hbase : attributeBase o name X.env (eval o X.env) = eval o X.env := by rfl)
    (hfew : ((backTo pos (starEach [.Constant (.str c) j p0] X.env)).all (fun x => !x.1) && (backToKw pos (keywordEach [] X.env)).all (fun x => x.1.isSome)
      && decide ([Expr.Constant (.str c) j p0].length + ([] : List Keyword).length + (if ([] : List Keyword).isEmpty then 0 else 1) < 30)) = true := by rfl)
    (hline : (apos.endLine == pos.line) = true := by rfl) (hs : starEach [.Constant (.str c) j p0] X.env = [(false, eval (.Constant (.str c) j p0) X.env)] := by rfl) :
    PEk X (.Call (.Attribute o name apos) [.Constant (.str c) j p0] [] pos) (tBM X.K T r to (tCons (tC (.str c)) tNil)) := by
  intro pins s σ H Q I h
  refine wpAny_Call_method_late hbase hfew hline rfl (thn (ho.run pins s σ H _ I h) fun v s1 ⟨x, H1, I1, r1, ty, q1⟩ => ?_)
  obtain ⟨h1, h2⟩ := tyV_is I1 r1 ty
  refine ⟨T, id, pa, slot, hty, h1, h2, ?_⟩
  rw [hs]
  show wpAny _ _ (callWith pos (.builtin id) [v] [(false, eval (.Constant (.str c) j p0) X.env)] []) _ _ s1
  refine Calls.callWith_builtin rfl (Calls.evalArgs_plain (Calls.spliced_cons (Calls.Constant_str (Calls.spliced_nil ?_))))
  have I2 := I1.tok (s1.toks + 1)
  refine wpAny_mono (PySem.wpAny_toks (hm pins _ σ H1 x [.str c] v [.str c s1.toks] Q I2 r1 (.cons ⟨_, rfl⟩ .nil) q1)) (fun u s2 z => ⟨?_, z.2⟩) fun _ _ z => z.2
  have : s1.toks + 1 ≤ s2.toks := z.1
  omega
theorem pe_callTk {CX : CXT} {k : Nat} {f : Addr} {fd : FuncData} {ps : List Str} {sp : Sp} {x : Str} {E : XK} {e : Expr} {te : TE} {p pos : Pos} (F : FnTk X.prog X.w X.K X.mg X.base CX k f fd ps sp) (hr : Room k X.A) (hg : Gl X x) (hm : X.mg x = some (.ref f)) (hk : PySem.W.keepIn X.K (.ref f) = true) (hb : Binds X.K fd ps []) (hx : Passes CX X E)
    (ha : PEk X e te) (hdb : (x == ("__debug__" : Str)) = false := by decide) (he : starEach [e] X.env = [(false, eval e X.env)] := by rfl) :
    PE X (.Call (.Name x p) [e] [] pos) (tCall sp [] E (tCons te tNil)) := by
  refine ⟨fun pins s σ H Q I h => wpAny_Call_Name_kw (ld_glob I hg hm ?_ hdb)⟩
  refine PySem.W.callWith_K (h₀ := X.base) I.ok.mod.kin hk ?_ he rfl
  rw [he]
  refine Calls.spliced_cons (wpAny_mono (ha pins s σ H _ I h) (fun u s1 z => ?_) fun _ _ z => z)
  obtain ⟨tk, v, H1, I1, r1, q1⟩ := z
  refine Calls.spliced_nil ⟨I1.kIn, ?_⟩
  have r2 : Vals [v] [u] := .cons r1 .nil
  have q2 : sp [v] H1 Q E := q1
  have len : [u].length = ps.length := by rw [← r2.length]; exact F.ln _ _ _ _ q2
  refine wpAny_call (codeAny_mono (F.go X.A X.stack s1 H1 ⟨[u], []⟩ ([u] ++ []) [v] Q E tk hr I1.env0 (hb s1 [u] I1.kIn len) r2 q2) fun r s2 z => ?_)
  cases r with
  | error er => exact hx pins σ H1 s1 er s2 I1 z
  | ok fl => cases fl with
    | ret u => exact I1.after z
    | next => exact z.elim
    | brk => exact z.elim
    | cont => exact z.elim
end
end PT

set_option maxHeartbeats 4000000
/-! texts put together; zip of two tuples -/
namespace PT
open PySem PySem.Spec PyProof.Rows L2
abbrev rCatS : R2 := fun x y H Q => ∃ i j, x = .str i ∧ y = .str j ∧ i.length + j.length ≤ sizeLine ∧ Q (.str (i ++ j)) H
theorem walk_TT {K : PySem.W.Frag} {a b : Addr} {xs ys : List V} {n : Nat} (hx : xs.length = n) (hy : ys.length = n) : Walk (RZ.ItzT K a b) n (fun H => SqT K H a xs ∧ SqT K H b ys) (YPair (fun i => xs[i]?) (fun i => ys[i]?)) := by
  refine ⟨fun i H lt g => ?_, fun H g => ⟨xs, ys, g.1, g.2, .inl (by omega)⟩, fun i H v H' lt g y => ?_⟩
  · exact ⟨xs, ys, xs[i]'(by omega), ys[i]'(by omega), g.1, g.2, List.getElem?_eq_getElem _, List.getElem?_eq_getElem _⟩
  · obtain ⟨T, x, y, rfl, nT, rfl, hx, hy⟩ := y
    exact ⟨T, x, y, rfl, nT, rfl, hx xs g.1, hy ys g.2⟩
theorem shop_row (i : Int) : Str.ofString "shop " ++ numT i = rowT (Str.ofString "shop") i := by
  refine TL.ext_tl ?_
  unfold rowT
  rw [TL.tl_append, TL.tl_append, TL.tl_append, tl_sp, show TL.tl (Str.ofString "shop ") = [115, 104, 111, 112, 32] from tl_lit (by decide), show TL.tl (Str.ofString "shop") = [115, 104, 111, 112] from tl_lit (by decide)]
  rfl
/-- line by line -/
theorem lines_rows : ∀ (as : List Str) (is : List Int), (rowsT as is).map (fun r => r ++ Str.ofString "\n") = linesT as is
  | [], _ => rfl
  | _ :: _, [] => rfl
  | a :: as, i :: is => by
    rw [rowsT, List.map_cons, lines_rows as is]
    rfl
end PT

set_option maxHeartbeats 4000000
/-! a text any number of times -/
namespace PT
open PySem PySem.Spec PyProof.Rows L2
def repS (x : Str) (k : Int) : Str := ⟨(List.replicate k.toNat x.cps).foldl (· ++ ·) #[]⟩
abbrev rRepS : R2 := fun x y H Q => ∃ z k, x = .str z ∧ y = .int k ∧ 0 ≤ k ∧ k ≤ 1000 ∧ z.length ≤ 1000 ∧ Q (.str (repS z k)) H
end PT


set_option maxHeartbeats 4000000
/-! a live plant out of a row -/
namespace PT
open PySem PySem.Spec PyProof.Rows L2 LamX NdefX CwR
section
variable {P : Program} {w : World} {K : PySem.W.Frag} {mg : Str → Option Value} {base : Heap}
def spLiveOf (T : Tx K mg) : Sp := fun vs H Q _ => ∃ (pl ss : List Int), vs = [.str (openT pl ss)] ∧ Plant pl ∧ ss.length = pl.length + 1 ∧ ss.Nodup ∧ (∀ n ∈ ss, n.natAbs < 10 ^ 40) ∧
  ∀ (H' : Hp) (x r p q : Addr), Same H H' → H x = none → H r = none → LiveAt T.x_LivePlant H' x r p q pl ss [] → Q (.ref x) H'
theorem ok_liveOf (T : Tx K mg) : FnTk P w K mg base CX0 7 T.f_live_plant_of T.d_live_plant_of ["text"] (spLiveOf T) := by
  refine Fun.okTk T.F_live_plant_of scLivePlantOf (fun vs H Q E h => ?_) (fun cdv A outer s H vs Q E hr h => ?_)
  · obtain ⟨pl, ss, rfl, _⟩ := h
    rfl
  · obtain ⟨pl, ss, rfl, hP, ls, nd', sm, k⟩ := h
    have nd := scLivePlantOf.nd
    refine ⟨_, psst_cons (pst_asg (pet_call (T.readPlant (k := 0)) (hr.mono (by omega)) (by rfl) T.g_read_plant T.F_read_plant.kp T.b_read_plant .nil pass0 (pat_cons (pet_op op_add_str (pet_replC (pv 0)) (PET.of pe_str)) pat_nil)) (pg_tup (by rfl) (pgs_cons (pg_name (i := 1) nd rfl (.inl rfl)) (pgs_cons (pg_name (i := 2) nd rfl (.inl rfl)) pgs_nil))))
      (PSsT.of (pss_one (ps_ret (pe_makeK T.M_LivePlant (ok_lv_init T) (hr.mono (by omega)) (by rfl) T.g_LivePlant T.k_lv_init pass0 (pa_cons (pv 1) pa_nil) (pk_cons (pv 2) pk_nil))))), ?_⟩
    have e : Txt.replace (openT pl ss) (Str.ofString ";") (Str.ofString "\n") ++ Str.ofString "\n" = showT pl ss := open_back ls
    have sm5 : ∀ n ∈ ss, n.natAbs < 10 ^ 50 := fun n hn => Nat.lt_trans (sm n hn) (by decide)
    have ol := openT_len hP ls sm5
    have sl := showT_len hP.len ls (fun x hx => Nat.lt_trans (plant_sm hP x hx) (by decide)) sm5
    have l1 : (Str.ofString "\n").length = 1 := by decide +kernel
    have le : (Txt.replace (openT pl ss) (Str.ofString ";") (Str.ofString "\n")).length + (Str.ofString "\n").length ≤ 5200 := by
      rw [← e, Str.length_append] at sl
      exact sl
    refine ⟨.str (openT pl ss), rfl, _, rfl, by rw [l1]; omega, _, _, rfl, rfl, by have : 6000 ≤ sizeLine := (by decide); omega, pl, ss, congrArg (fun z => [V.str z]) e, hP, ls, nd', sm, fun H1 t p q s1 nt np nq et ep eq => ?_⟩
    refine ⟨t, _, rfl, .inl (.inl et), rfl, _, _, rfl, _, _, rfl, rfl, ?_⟩
    refine ⟨.ref p, rfl, .ref q, rfl, rfl, rfl, fun x dx nx ndx nex => ?_⟩
    have nx2 : upd H1 dx (.own x) x = none := by rw [upd_ne (Ne.symm nex)]; exact nx
    have s2 : Same H1 (upd (upd H1 dx (.own x)) x (.ins T.x_LivePlant dx [])) := (same_new ndx).trans (same_new nx2)
    refine ⟨x, p, q, dx, pl, ss, rfl, upd_same, ⟨⟨s2 _ _ ep, hP⟩, s2 _ _ eq, ls, nd'⟩, fun H2 r kp nr L => ⟨rfl, ?_⟩⟩
    have s3 : Same H1 H2 := fun c o h => kp c o (ne_of_none h nx) (s2 _ _ h)
    exact k H2 x r p q (s1.trans s3) (s1.free nx) (s1.free (s2.free nr)) L
end
end PT


set_option maxHeartbeats 4000000
/-! the console -/
namespace PT
open PySem PySem.Spec PyProof.Rows L2 LamX NdefX CwR
def coF (v : V) : List (Str × V) := [("live", v)]
theorem coF_no (v : V) : (coF v).lookup (Str.ofString "say") = none := by
  unfold coF
  rw [List.lookup_cons, show (Str.ofString "say" == ("live" : Str)) = false by decide +kernel]
  rfl
section
variable {P : Program} {w : World} {K : PySem.W.Frag} {mg : Str → Option Value} {base : Heap}
def CoAt (T : Tx K mg) (H : Hp) (c : Addr) (v : V) : Prop := ∃ dc, H c = some (.ins T.x_Console dc (coF v))
def spCoInit (T : Tx K mg) : Sp := fun vs H Q _ => ∃ (c dc : Addr), vs = [.ref c] ∧ H c = some (.ins T.x_Console dc []) ∧ Q .non (upd H c (.ins T.x_Console dc (coF .non)))
theorem ok_co_init (T : Tx K mg) : FnOk P w K mg base CX0 1 T.f_co_init T.d_co_init ["self"] (spCoInit T) := by
  refine T.F_co_init.ok scCoInit (fun vs H Q E h => ?_) (fun cdv A outer s H vs Q E hr h => ?_)
  · obtain ⟨c, dc, rfl, _⟩ := h
    rfl
  · obtain ⟨c, dc, rfl, e, k⟩ := h
    have nd := scCoInit.nd
    refine ⟨_, (pss_one (ps_fld (pv 0) pe_non rfl)), ?_⟩
    exact ⟨.ref c, rfl, c, _, dc, _, rfl, e, T.C_Console, T.a_live, (by show 0 < 1000; decide), k⟩
/-- a row that opens a plant -/
def spOpen (T : Tx K mg) : Sp := fun vs H Q _ => ∃ (c : Addr) (v : V) (pl ss : List Int), vs = [.ref c, .str (opT ++ openT pl ss)] ∧ CoAt T H c v ∧ Plant pl ∧ ss.length = pl.length + 1 ∧ ss.Nodup ∧ (∀ n ∈ ss, n.natAbs < 10 ^ 40) ∧
  ∀ (H' : Hp) (x r p q : Addr), (∀ a o, a ≠ c → H a = some o → H' a = some o) → H x = none → H r = none → CoAt T H' c (.ref x) → LiveAt T.x_LivePlant H' x r p q pl ss [] → Q (.str (Str.ofString "ok")) H'
/-- a row of parts without an end of line, none that opens -/
def spSayA (T : Tx K mg) : Sp := fun vs H Q E => ∃ (c x : Addr) (ps : List Str), vs = [.ref c, .str (Txt.join spT ps)] ∧ CoAt T H c (.ref x) ∧ ps ≠ [] ∧ (∀ y ∈ ps, 32 ∉ TL.tl y ∧ 10 ∉ TL.tl y) ∧ Txt.startswith (Txt.join spT ps) opT = false ∧ (Txt.join spT ps).length ≤ 5000 ∧
  ∀ (H' : Hp) (l : Addr), Same H H' → H l = none → H' l = some (.lst (ps.map V.str)) → spAns T [.ref x, .ref l] H' Q E
theorem ok_co_say (T : Tx K mg) (B : TabB base mg T.c_words_by_age T.P_words_by_age) (B2 : TabB base mg T.c_oldest_giver T.P_oldest_giver) (TD : TxD w T) : FnOk P w K mg base CX0 15 T.f_co_say T.d_co_say ["self", "row"] (fun vs H Q E => spOpen T vs H Q E ∨ spSayA T vs H Q E) := by
  refine T.F_co_say.ok scCoSay (fun vs H Q E h => ?_) (fun cdv A outer s H vs Q E hr h => ?_)
  · rcases h with ⟨c, v, pl, ss, rfl, _⟩ | ⟨c, x, ps, rfl, _⟩ <;> rfl
  · have nd := scCoSay.nd
    refine ⟨_, (pss_cons (ps_expr (pe_call (ok_checkRow T (k := 0)) (hr.mono (by omega)) (by rfl) T.g_check_row T.F_check_row.kp T.b_check_row .nil pass0 (pa_cons (pe_and (pe_callB call_isi (by rfl) T.n_isinstance (by decide +kernel) (pa_cons (pv 1) (pa_cons (pe_bltn (v := .ty "str") (by rfl) T.n_str (by decide +kernel) rfl) pa_nil))) (pe_one (pe_cmpR op_notIn_sign pe_str (pv 1) (by rfl)))) pa_nil)))
(pss_cons (ps_if (pt_val (pe_bm PySem.F.plainAttrs_str PySem.F.slot_str_startswith PySem.F.type_str_startswith mt_startswith (pv 1) (pa_cons pe_str pa_nil)))
(pss_cons (ps_fld (pv 0) (pe_callTk (ok_liveOf T) (hr.mono (by omega)) (by rfl) T.g_live_plant_of T.F_live_plant_of.kp T.b_live_plant_of pass0 (pek_bm PySem.F.plainAttrs_str PySem.F.slot_str_removeprefix PySem.F.type_str_removeprefix mt_removeprefix (pv 1))) rfl)
(pss_one (ps_ret (pe_glob (v := .str "ok") (by rfl) T.g_DONE ⟨_, rfl⟩)))) pss_nil)
(pss_cons (ps_expr (pe_call (ok_checkRow T (k := 0)) (hr.mono (by omega)) (by rfl) T.g_check_row T.F_check_row.kp T.b_check_row .nil pass0 (pa_cons (pe_cmpR op_notN (pe_fld (pv 0) rfl) pe_non (nomark _)) pa_nil)))
(pss_one (ps_ret (pe_call (ok_answer T B B2 TD) (hr.mono (by omega)) (by rfl) T.g_answer T.F_answer.kp T.b_answer .nil pass0 (pa_cons (pe_fld (pv 0) rfl) (pa_cons (pe_bm PySem.F.plainAttrs_str PySem.F.slot_str_split PySem.F.type_str_split mt_split (pv 1) (pa_cons pe_str pa_nil)) pa_nil)))))))), ?_⟩
    have nl1 : (V.str (Str.ofString "\n")) = V.str ⟨#[10]⟩ := congrArg V.str nlT_eq
    rcases h with ⟨c, v, pl, ss, rfl, ⟨dc, ec⟩, hP, ls, nd', sm, k⟩ | ⟨c, x, ps, rfl, ⟨dc, ec⟩, ne, fr, ns, len, k⟩
    · have sm5 : ∀ n ∈ ss, n.natAbs < 10 ^ 50 := fun n hn => Nat.lt_trans (sm n hn) (by decide)
      have ol := openT_len hP ls sm5
      have l5 : opT.length = 5 := by decide +kernel
      have big : 6000 ≤ sizeLine := (by decide)
      have sl : (opT ++ openT pl ss).length ≤ 5205 := by rw [Str.length_append]; omega
      refine ⟨.str (opT ++ openT pl ss), rfl, .str _, .ty "str", _, _, true, rfl, .ty _, .base (.str _), kit_ty (by decide +kernel), _, rfl, iteT ?_⟩
      refine ⟨.str (opT ++ openT pl ss), rfl, 10, opT ++ openT pl ss, nl1, rfl, ?_⟩
      rw [decide_eq_false (open_free (pl := pl) (ss := ss))]
      refine ⟨rfl, ?_⟩
      refine ⟨.str (opT ++ openT pl ss), rfl, rfl, _, _, rfl, rfl, _, rfl, ?_⟩
      rw [show Txt.startswith (opT ++ openT pl ss) (Str.ofString "open ") = true from open_starts _]
      refine iteT ?_
      refine ⟨.str (opT ++ openT pl ss), rfl, rfl, _, _, rfl, rfl, by omega, pl, ss, congrArg (fun z => [V.str z]) (open_cut (openT pl ss)), hP, ls, nd', sm, fun H1 x r p q s1 nx nr L => ?_⟩
      refine ⟨.ref c, rfl, c, _, dc, _, rfl, s1 _ _ ec, T.C_Console, T.a_live, (by show 1 < 1000; decide), ?_⟩
      have e1 := s1 _ _ ec
      obtain ⟨dx, ox⟩ := L.ob
      obtain ⟨vs, er, _⟩ := L.pa
      have xc : x ≠ c := fun z => by rw [z, ec] at nx; cases nx
      have rc : r ≠ c := fun z => by rw [z, ec] at nr; cases nr
      have kt : KT H1 (upd H1 c (.ins T.x_Console dc (putF "live" (.ref x) (coF v)))) := fun a xs h => (upd_ne (ne_of h e1 (by intro z; cases z))).trans h
      exact k _ x r p q (fun a o n h => (upd_ne n).trans (s1 _ _ h)) nx nr ⟨dc, upd_same⟩ (L.mv kt (upd_ne xc) (upd_ne rc))
    · have big : 6000 ≤ sizeLine := (by decide)
      refine ⟨.str (Txt.join spT ps), rfl, .str _, .ty "str", _, _, true, rfl, .ty _, .base (.str _), kit_ty (by decide +kernel), _, rfl, iteT ?_⟩
      refine ⟨.str (Txt.join spT ps), rfl, 10, Txt.join spT ps, nl1, rfl, ?_⟩
      rw [decide_eq_false (row_free10 fr)]
      refine ⟨rfl, ?_⟩
      refine ⟨.str (Txt.join spT ps), rfl, rfl, _, _, rfl, rfl, _, rfl, ?_⟩
      rw [show Txt.startswith (Txt.join spT ps) (Str.ofString "open ") = false from ns]
      refine iteF ?_
      refine ⟨.ref c, rfl, c, _, dc, _, _, rfl, ec, T.C_Console, T.a_live, rfl, rfl, ?_⟩
      refine ⟨rfl, ?_⟩
      refine ⟨.ref c, rfl, c, _, dc, _, _, rfl, ec, T.C_Console, T.a_live, rfl, .str (Txt.join spT ps), rfl, rfl, Txt.join spT ps, spT, rfl, rfl, by decide +kernel, by omega, fun l nl => ?_⟩
      rw [row_parts ne fr]
      exact k _ l (same_new nl) nl upd_same
end
end PT

set_option maxHeartbeats 4000000
/-! methods with arguments and constructors with keywords that may raise, where that is caught -/
namespace PT
open PySem PySem.Spec PyProof.Rows L2
section
variable {X : Cx} {CX : CXT} {k n : Nat} {f C : Addr} {fd : FuncData} {ps ks : List Str} {sp : Sp} {E : L2.St → XK} {m x : Str} {p pos apos : Pos} {e o : Expr} {es : List Expr} {kws : List Keyword} {ta : TE} {t tk : TA} {g : List Value → List Value → List Value} {gV : List V → List V → List V}
theorem pe_methX {pl : Sem Bool} (hself : PE X o ta) (cls : Cls X.K C) (meth : Meth X.K C m f) (fn : FnOk X.prog X.w X.K X.mg X.base CX k f fd ps sp) (room : Room k X.A) (bi : Binds X.K fd ps []) (pass : ∀ σ, PassesAt CX X σ (E σ)) (args : PA X (e :: es) t)
    (shape : eval (.Call (.Attribute o m apos) (e :: es) [] pos) X.env = (do
      let ov ← eval o X.env
      standAt apos.atName
      let (f, first) ← holding [ov] (getMethod ov m pl)
      callWith pos f first (backTo pos (starEach (e :: es) X.env)) (backToKw pos (keywordEach [] X.env))) := by rfl)
    (st : starEach (e :: es) X.env = (false, eval e X.env) :: starEach es X.env := by rfl) (ns : (backTo pos (starEach es X.env)).any (·.1) = false := by rfl) : PE X (.Call (.Attribute o m apos) (e :: es) [] pos) (tMethX C m sp E ta t) := by
  constructor
  intro pins s σ H Q J hh
  refine PySem.W.methodCall_KW (pl := pl) (thn (hself.run pins s σ H _ J hh) ?_) shape
  rintro v s1 ⟨y, H1, J1, ry, a, dx, fs, rfl, ea, no, q⟩
  cases (show v = Value.ref a from ry)
  refine getmeth_ok J1 ea cls meth no (PySem.W.callWith_K (first := [.ref a]) (h₀ := X.base) J.ok.mod.kin meth.kp (thn (args.run pos pins s1 σ H1 _ J1 q) ?_) st ns)
  rintro zs s2 ⟨vs, H2, J2, rv, q2⟩
  exact ⟨J2.kIn, run_fnX (us := .ref a :: zs) (vs := .ref a :: vs) fn room bi (pass σ) J2 (.cons rfl rv) q2⟩
/-- a new instance; what its constructor raises is wished for at the caller's slots -/
def tMakeX (C : Addr) (n m : Nat) (sp : Sp) (gV : List V → List V → List V) (E : L2.St → XK) (t tk : TA) : TE := fun σ H Q => t σ H fun vs H1 => tk σ H1 fun zs H2 => vs.length = n ∧ zs.length = m ∧
  ∀ x dx, H2 x = none → H2 dx = none → dx ≠ x → sp (gV (.ref x :: vs) zs) (upd (upd H2 dx (.own x)) x (.ins C dx [])) (fun v H3 => v = .non ∧ Q (.ref x) H3) (E σ)
end
end PT


set_option maxHeartbeats 4000000
/-! undo on a console whose log is empty -/
namespace PT
open PySem PySem.Spec PyProof.Rows L2 LamX NdefX
section
variable {P : Program} {w : World} {K : PySem.W.Frag} {mg : Str → Option Value} {base : Heap}
def spAnsN (T : Tx K mg) : Sp := fun vs H Q E => ∃ (x l r p q : Addr) (pl ss : List Int), vs = [.ref x, .ref l] ∧ H l = some (.lst [.str (Str.ofString "undo")]) ∧ LiveAt T.x_LivePlant H x r p q pl ss [] ∧ E (.ref T.x_Nothing) none H
theorem ok_answerN (T : Tx K mg) (TD : TxD w T) : FnOk P w K mg base (L2N.CX P w) 14 T.f_answer T.d_answer ["live", "parts"] (spAnsN T) := by
  obtain ⟨es1, n1, D1⟩ := TD.D_ALONE
  refine Fun.okN T.F_answer scAnswer (fun vs H Q E h => ?_) (fun cdv A outer s H vs Q E hr h => ?_)
  · obtain ⟨x, l, r, p, q, pl, ss, rfl, _⟩ := h
    rfl
  · obtain ⟨x, l, r, p, q, pl, ss, rfl, el, L, k⟩ := h
    have nd := scAnswer.nd
    refine ⟨_, pss_cons (ps_if (PW.pt (pw_and (pt_cmpR op_eq (pe_callB call_len_seq (by rfl) T.n_len PySem.boot_len (pa_cons (pv 1) pa_nil)) pe_int (nomark _)) (pw_and1 (pt_cmpR (op_in_kd D1) (pe_ix ix_list (pv 1) pe_int (fun _ _ => rfl)) (pe_glob (v := .ref T.A_ALONE) (by rfl) T.g_ALONE rfl) (by rfl)))))
(pss_cons (ps_set (i := 2) nd rfl (.inl rfl) (pe_ix ix_kdict (pe_glob (v := .ref T.A_ALONE) (by rfl) T.g_ALONE rfl) (pe_ix ix_list (pv 1) pe_int (fun _ _ => rfl)) (fun _ _ => rfl)))
(pss_one (ps_ret (pe_calleeE (CX := L2N.CX P w) (k := 2) (S := fun f sp => f = T.f_say_undo ∧ sp = spUndoN T) ⟨fun f sp h => by
      obtain ⟨rfl, rfl⟩ := h
      exact ⟨_, _, ok_say_undoN T, T.F_say_undo.kp, T.b_say_undo⟩, fun σ pins H s e s' => L2N.passes_call (L2N.takes_of rfl rfl rfl rfl) (fun _ _ _ _ z => z) pins σ H s e s'⟩ (hr.mono (by omega)) (pv 2) (pa_cons (pv 0) pa_nil))))) pss_nil) pss_never, ?_⟩
    refine ⟨.ref l, rfl, l, _, rfl, .inl (.inl (.inl el)), rfl, _, rfl, iteT ?_⟩
    refine ⟨.ref l, rfl, l, _, 0, .str (Str.ofString "undo"), rfl, rfl, .inl (.inl el), atI_nat (j := 0) rfl, Str.ofString "undo", some _, rfl, rfl, T.y_ALONE_undo, _, rfl, iteT ?_⟩
    refine ⟨.ref l, rfl, l, _, 0, .str (Str.ofString "undo"), rfl, rfl, .inl (.inl el), atI_nat (j := 0) rfl, T.A_ALONE, Str.ofString "undo", .ref T.f_say_undo, rfl, rfl, ⟨es1, n1, _, D1.at_, D1.lit, T.y_ALONE_undo, rfl⟩, ?_⟩
    exact ⟨.ref T.f_say_undo, rfl, T.f_say_undo, _, rfl, ⟨rfl, rfl⟩, .ref x, rfl, x, r, p, q, pl, ss, rfl, L, k⟩
def undoT : Str := Str.ofString "undo"
theorem undo_join : Txt.join spT [undoT] = undoT := rfl
theorem undo_ok : (∀ y ∈ [undoT], 32 ∉ TL.tl y ∧ 10 ∉ TL.tl y) ∧ Txt.startswith undoT opT = false ∧ undoT.length = 4 := by
  have z : TL.tl undoT = [117, 110, 100, 111] := tl_lit (by decide)
  refine ⟨fun y hy => ?_, ?_, ?_⟩
  · rw [List.mem_singleton.mp hy, z]
    decide
  · rw [starts_tl, tl_op, z]
    rfl
  · rw [TL.len_tl, z]
    rfl
def spCoSayN (T : Tx K mg) : Sp := fun vs H Q E => ∃ (c x r p q : Addr) (pl ss : List Int), vs = [.ref c, .str undoT] ∧ CoAt T H c (.ref x) ∧ LiveAt T.x_LivePlant H x r p q pl ss [] ∧ ∀ H', Same H H' → E (.ref T.x_Nothing) none H'
theorem ok_co_sayN (T : Tx K mg) (TD : TxD w T) : FnOk P w K mg base (L2N.CX P w) 15 T.f_co_say T.d_co_say ["self", "row"] (spCoSayN T) := by
  refine Fun.okN T.F_co_say scCoSay (fun vs H Q E h => ?_) (fun cdv A outer s H vs Q E hr h => ?_)
  · obtain ⟨c, x, r, p, q, pl, ss, rfl, _⟩ := h
    rfl
  · obtain ⟨c, x, r, p, q, pl, ss, rfl, ⟨dc, ec⟩, L, k⟩ := h
    have nd := scCoSay.nd
    obtain ⟨fr, ns, len⟩ := undo_ok
    have nl1 : (V.str (Str.ofString "\n")) = V.str ⟨#[10]⟩ := congrArg V.str nlT_eq
    have big : 6000 ≤ sizeLine := (by decide)
    refine ⟨_, pss_cons (ps_expr (pe_call (PT.FnOk.quiet (ok_checkRow T (k := 0))) (hr.mono (by omega)) (by rfl) T.g_check_row T.F_check_row.kp T.b_check_row .nil (L2N.passes_call (L2N.takes_of rfl rfl rfl rfl) fun _ _ _ _ z => z) (pa_cons (pe_and (pe_callB call_isi (by rfl) T.n_isinstance (by decide +kernel) (pa_cons (pv 1) (pa_cons (pe_bltn (v := .ty "str") (by rfl) T.n_str (by decide +kernel) rfl) pa_nil))) (pe_one (pe_cmpR op_notIn_sign pe_str (pv 1) (by rfl)))) pa_nil)))
(pss_cons (ps_if (pt_val (pe_bm PySem.F.plainAttrs_str PySem.F.slot_str_startswith PySem.F.type_str_startswith mt_startswith (pv 1) (pa_cons pe_str pa_nil))) pss_never pss_nil)
(pss_cons (ps_expr (pe_call (PT.FnOk.quiet (ok_checkRow T (k := 0))) (hr.mono (by omega)) (by rfl) T.g_check_row T.F_check_row.kp T.b_check_row .nil (L2N.passes_call (L2N.takes_of rfl rfl rfl rfl) fun _ _ _ _ z => z) (pa_cons (pe_cmpR op_notN (pe_fld (pv 0) rfl) pe_non (nomark _)) pa_nil)))
(pss_one (ps_ret (pe_call (ok_answerN T TD) (hr.mono (by omega)) (by rfl) T.g_answer T.F_answer.kp T.b_answer .nil (L2N.passes_call (L2N.takes_of rfl rfl rfl rfl) fun _ _ _ _ z => z) (pa_cons (pe_fld (pv 0) rfl) (pa_cons (pe_bm PySem.F.plainAttrs_str PySem.F.slot_str_split PySem.F.type_str_split mt_split (pv 1) (pa_cons pe_str pa_nil)) pa_nil))))))), ?_⟩
    refine ⟨.str undoT, rfl, .str _, .ty "str", _, _, true, rfl, .ty _, .base (.str _), kit_ty (by decide +kernel), _, rfl, iteT ?_⟩
    refine ⟨.str undoT, rfl, 10, undoT, nl1, rfl, ?_⟩
    rw [decide_eq_false (fr undoT (List.mem_singleton.mpr rfl)).2]
    refine ⟨rfl, ?_⟩
    refine ⟨.str undoT, rfl, rfl, _, _, rfl, rfl, _, rfl, ?_⟩
    rw [show Txt.startswith undoT (Str.ofString "open ") = false from ns]
    refine iteF ?_
    refine ⟨.ref c, rfl, c, _, dc, _, _, rfl, ec, T.C_Console, T.a_live, rfl, rfl, ?_⟩
    refine ⟨rfl, ?_⟩
    refine ⟨.ref c, rfl, c, _, dc, _, _, rfl, ec, T.C_Console, T.a_live, rfl, .str undoT, rfl, rfl, undoT, spT, rfl, rfl, by decide +kernel, by omega, fun l nl => ?_⟩
    have rp := row_parts (ps := [undoT]) (by simp) fr
    rw [undo_join] at rp
    rw [rp]
    have s1 := same_new (o := .lst ([undoT].map V.str)) nl
    exact ⟨x, l, r, p, q, pl, ss, rfl, upd_same, L.same s1, k _ s1⟩
end
end PT


set_option maxHeartbeats 4000000
/-! rows of things that stand in the heap -/
namespace PT
open PySem PySem.Spec PyProof.Rows L2 LamX NdefX
structure Rw {α : Type} (R : V → α → Prop) (vs : List V) (l : List α) : Prop where
  len : vs.length = l.length
  at_ : ∀ (i : Nat) (v : V) (a : α), vs[i]? = some v → l[i]? = some a → R v a
section
variable {α : Type} {R S : V → α → Prop} {vs : List V} {l : List α} {v : V} {a : α}
theorem Rw.nil : Rw R [] [] := ⟨rfl, fun i v a h => by simp at h⟩
theorem Rw.imp (h : Rw R vs l) (k : ∀ v a, R v a → S v a) : Rw S vs l := ⟨h.len, fun i v a x y => k v a (h.at_ i v a x y)⟩
theorem Rw.snoc (h : Rw R vs l) (x : R v a) : Rw R (vs ++ [v]) (l ++ [a]) := by
  refine ⟨by rw [List.length_append, List.length_append, h.len]; rfl, fun i u f c b => ?_⟩
  have lv := h.len
  rcases Nat.lt_or_ge i vs.length with z | z
  · rw [List.getElem?_append_left z] at c
    rw [List.getElem?_append_left (by omega)] at b
    exact h.at_ i u f c b
  · rw [List.getElem?_append_right z] at c
    rw [List.getElem?_append_right (by omega)] at b
    rw [lv] at c
    obtain ⟨z, ez⟩ : ∃ z, z = i - l.length := ⟨_, rfl⟩
    rw [← ez] at c b
    cases z with
    | zero => cases c; cases b; exact x
    | succ z => simp at c
theorem Rw.pop (h : Rw R vs (l ++ [a])) : ∃ us u, vs = us ++ [u] ∧ Rw R us l ∧ R u a := by
  have lv := h.len
  rw [List.length_append] at lv
  have ne : vs ≠ [] := fun z => by rw [z] at lv; simp at lv
  obtain ⟨us, u, rfl⟩ : ∃ us u, vs = us ++ [u] := ⟨_, _, (List.dropLast_concat_getLast ne).symm⟩
  have lu : us.length = l.length := by
    rw [List.length_append] at lv
    exact Nat.add_right_cancel lv
  refine ⟨us, u, rfl, ⟨lu, fun i v f x b => h.at_ i v f ?_ ?_⟩, h.at_ us.length u a ?_ ?_⟩
  · rw [List.getElem?_append_left (List.getElem?_eq_some_iff.mp x).1]; exact x
  · rw [List.getElem?_append_left (List.getElem?_eq_some_iff.mp b).1]; exact b
  · rw [List.getElem?_append_right (Nat.le_refl _), Nat.sub_self]; rfl
  · rw [lu, List.getElem?_append_right (Nat.le_refl _), Nat.sub_self]; rfl
theorem Rw.take (h : Rw R vs l) (n : Nat) : Rw R (vs.take n) (l.take n) := by
  refine ⟨by rw [List.length_take, List.length_take, h.len], fun i v a x y => ?_⟩
  rw [List.getElem?_take] at x y
  split at x
  · rename_i c
    rw [if_pos c] at y
    exact h.at_ i v a x y
  · cases x
end
abbrev St := List Int × List Int
/-- a state that stands in the heap -/
def StOne (H : Hp) (v : V) (s : PT.St) : Prop := ∃ a p q, v = .ref a ∧ H a = some (.tup [.ref p, .ref q]) ∧ StAt H p q s.1 s.2
theorem StOne.kt {H H' : Hp} (k : KT H H') {v : V} {s : PT.St} (h : StOne H v s) : StOne H' v s := let ⟨a, p, q, e, x, y⟩ := h; ⟨a, p, q, e, k _ _ x, y.kt k⟩
abbrev StsAt (H : Hp) := Rw (StOne H)
abbrev OpsAt (H : Hp) := Rw (OpAt H)
theorem Rw.log {H : Hp} {os : List V} {ops : List Op} (h : OpsAt H os ops) : LogAt H os ops := ⟨h.len, h.at_⟩
theorem LogAt.row {H : Hp} {os : List V} {ops : List Op} (h : LogAt H os ops) : OpsAt H os ops := ⟨h.len, h.at_⟩
/-- the list at l holds such a row -/
def RwAt {α : Type} (R : Hp → V → α → Prop) (G : Hp) (l : Addr) (xs : List α) : Prop := ∃ vs, G l = some (.lst vs) ∧ Rw (R G) vs xs
theorem RwAt.mv {α : Type} {R : Hp → V → α → Prop} (hR : ∀ {H H' : Hp}, KT H H' → ∀ v a, R H v a → R H' v a) {G G' : Hp} {l : Addr} {xs : List α} (h : RwAt R G l xs) (k : KT G G') (e : G' l = G l) : RwAt R G' l xs := let ⟨vs, x, y⟩ := h; ⟨vs, e.trans x, y.imp (hR k)⟩
theorem atI_last {α : Type} (us : List α) (v : α) : atI (us ++ [v]) (-1) = some v := by
  have e : ixN (us ++ [v]).length (-1) = some us.length := by
    unfold ixN
    rw [List.length_append, if_neg (by decide), if_pos (by show -((us.length + 1 : Nat) : Int) ≤ -1; omega)]
    congr 1
    show (-1 + ((us.length + 1 : Nat) : Int)).toNat = us.length
    omega
  unfold atI
  rw [e]
  show (us ++ [v])[us.length]? = _
  rw [List.getElem?_append_right (Nat.le_refl _), Nat.sub_self]
  rfl
end PT

set_option maxHeartbeats 4000000
/-! a list of pairs, sorted: its first one is the oldest giver -/
namespace PT
open PySem PySem.Spec PyProof.Rows L2
def refOf : V → Addr
  | .ref a => a
  | _ => 0
theorem pairs_of {G : Hp} {D : Addr} {as : List Addr} {ps : List (Int × Int)} (h : PairsAt G D as ps) : (as.map V.ref).map (pairOf G) = ps := by
  apply List.ext_getElem?
  intro i
  rw [List.map_map, List.getElem?_map]
  rcases Nat.lt_or_ge i as.length with c | c
  · have c2 : i < ps.length := by rw [← h.len]; exact c
    rw [List.getElem?_eq_getElem c, List.getElem?_eq_getElem c2]
    have z := h.at_ i as[i] ps[i] (List.getElem?_eq_getElem c) (List.getElem?_eq_getElem c2)
    show some (pairOf G (.ref as[i])) = _
    rw [pairOf_at z]
  · rw [List.getElem?_eq_none c, List.getElem?_eq_none (by rw [← h.len]; exact c)]
    rfl
theorem sorted_pairs {G : Hp} {D : Addr} {as : List Addr} {ps : List (Int × Int)} {ys : List V} (h : PairsAt G D as ps) (h1 : SrtO.Srtd (ltP (pairOf G)) ys) (h2 : SrtO.Stb (ltP (pairOf G)) ys (as.map V.ref)) :
    ∃ (as2 : List Addr) (ps2 : List (Int × Int)), ys = as2.map V.ref ∧ as2.length = ps2.length ∧ (∀ (i : Nat) (a : Addr) (p : Int × Int), as2[i]? = some a → ps2[i]? = some p → G a = some (.tup [.int p.1, .int p.2])) ∧ ps2.Perm ps ∧ ps2.Pairwise (fun x y => SrtO.lexB y x = false) := by
  have hr : ∀ y ∈ ys, ∃ (a : Addr) (p : Int × Int), y = V.ref a ∧ G a = some (.tup [.int (pairOf G y).1, .int (pairOf G y).2]) := fun y hy => by
    obtain ⟨a, ha, rfl⟩ := List.mem_map.mp (h2.perm.mem_iff.mp hy)
    obtain ⟨i, hi⟩ := List.mem_iff_getElem?.mp ha
    have c := (List.getElem?_eq_some_iff.mp hi).1
    have c2 : i < ps.length := by rw [← h.len]; exact c
    have z := h.at_ i a ps[i] hi (List.getElem?_eq_getElem c2)
    refine ⟨a, ps[i], rfl, ?_⟩
    rw [pairOf_at z]
    exact z
  refine ⟨ys.map refOf, ys.map (pairOf G), ?_, by rw [List.length_map, List.length_map], fun i a p ea ep => ?_, ?_, List.pairwise_map.mpr h1⟩
  · rw [List.map_map]
    have z : ys.map (V.ref ∘ refOf) = ys.map id := List.map_congr_left fun y hy => by
      obtain ⟨a, p, rfl, _⟩ := hr y hy
      rfl
    rw [z, List.map_id]
  · rw [List.getElem?_map] at ea ep
    cases e : ys[i]? with
    | none => rw [e] at ea; cases ea
    | some y =>
      rw [e] at ea ep
      cases ea
      cases ep
      obtain ⟨b, p, rfl, z⟩ := hr y (List.mem_of_getElem? e)
      exact z
  · have z := h2.perm.map (pairOf G)
    rw [pairs_of h] at z
    exact z
theorem head_min {pl ss : List Int} (hP : Plant pl) (hs : ss.length = pl.length + 1) (hn : ss.Nodup) {c : Nat} {h : Int × Int} {r : List (Int × Int)} (pm : (h :: r).Perm (supP pl ss pl.length c)) (pw : (h :: r).Pairwise (fun x y => SrtO.lexB y x = false)) :
    gives pl ss c ∧ h = (bx ss (bst pl ss c), ((bst pl ss c : Nat) : Int)) := by
  obtain ⟨p0, pr, es⟩ : ∃ p0 pr, supP pl ss pl.length c = p0 :: pr := by
    cases q2 : supP pl ss pl.length c with
    | nil =>
      rw [q2] at pm
      exact absurd pm.length_eq (by simp)
    | cons p0 pr => exact ⟨p0, pr, rfl⟩
  obtain ⟨g1, g2⟩ := supP_min hP hs hn es
  refine ⟨g1, ?_⟩
  have hm := minOf_mem pr p0
  have hh : h ∈ supP pl ss pl.length c := pm.mem_iff.mp List.mem_cons_self
  have hle := minOf_le pr p0 h (by rw [← es]; exact hh)
  rw [g2] at hm hle
  rw [← es] at hm
  have hm2 := pm.mem_iff.mpr hm
  rcases List.mem_cons.mp hm2 with e | e
  · exact e.symm
  · have z := SrtO.lexB_no.mp ((List.pairwise_cons.mp pw).1 _ e)
    unfold supP at hh
    obtain ⟨k, hk, rfl⟩ := List.mem_map.mp hh
    obtain ⟨kn, rfl, k1, k2⟩ := sup_gt hP hk
    have g3 := g1
    unfold gives at g3
    have z2 : ¬ (bx ss (bst pl ss c) < bx ss (kn : Int)) := fun y => z (.inl y)
    have l2 : bx ss (bst pl ss c) ≤ bx ss (kn : Int) := hle
    have same := bx_inj hn (i := bst pl ss c) (j := kn) (by omega) (by omega) (by omega)
    rw [same]
end PT


set_option maxHeartbeats 4000000
/-! a sale as the law does it -/
namespace PT
open PySem PySem.Spec PyProof.Rows L2 LamX NdefX
section
variable {P : Program} {w : World} {K : PySem.W.Frag} {mg : Str → Option Value} {base : Heap}
def spSoldL : Sp := fun vs H Q _ => ∃ (p q : Addr) (pl ss : List Int) (j : Nat), vs = [.ref p, .ref q, .int (j : Int)] ∧ StAt H p q pl ss ∧ j ≤ pl.length ∧
  ∀ (H' : Hp) (r : Addr), Same H H' → H r = none → H' r = some (.tup ((day pl ss j).2.map V.int)) → Q (.ref r) H'
theorem ok_soldL (T : Tx K mg) : FnOk P w K mg base CX0 1 T.f__law_sold T.d__law_sold ["plant", "boxes", "station"] spSoldL := by
  refine T.F__law_sold.ok scLawSold (fun vs H Q E h => ?_) (fun cdv A outer s H vs Q E hr h => ?_)
  · obtain ⟨p, q, pl, ss, j, rfl, _⟩ := h
    rfl
  · obtain ⟨p, q, pl, ss, j, rfl, St, hj, qq⟩ := h
    have nd := scLawSold.nd
    have hP := St.P
    have hlen := hP.ok.len
    have hs := St.ls
    have hn := St.nd
    have hq := St.S
    refine ⟨_, (pss_cons (ps_asg (pe_tup (pa_cons (pe_callTy call_list_of (by rfl) T.n_list (by decide +kernel) (pa_cons (pv 1) pa_nil)) (pa_cons (pv 2) pa_nil))) (pg_tup (by rfl) (pgs_cons (pg_name (i := 3) nd rfl (.inr rfl)) (pgs_cons (pg_name (i := 4) nd rfl (.inr rfl)) pgs_nil))))
(pss_one (ps_while PassesOwn.never (pt_val pe_bl)
(pss_cons (ps_set (i := 6) nd rfl (.inl rfl) (pe_callB cr_sortedPO (by rfl) T.n_sorted (by decide +kernel) (pa_cons (pe_lc (own := [("at", 5)]) (g := gName 5) (tt := (tTest (tOp rEq (tOp (rIxT K) (tVar 0) (tOp (rI0 fun i j => .int (i - j)) (tVar 5) (tC (.int 1)))) (tVar 4)))) (te := (tTup (tCons (tOp (rIxL K) (tVar 3) (tVar 5)) (tCons (tVar 5) tNil)))) rfl nd (pi_range2 (by rfl) T.n_range (pa_cons pe_int (pa_cons (pe_callB call_len_seq (by rfl) T.n_len PySem.boot_len (pa_cons (pv 3) pa_nil)) pa_nil)))
(blkOk_by (N := ["plant", "boxes", "station", "found", "here", "at", "under", "box"]) (sc := defScope sLawSold) (by decide +kernel)) (fun _ _ _ _ _ => (pg_name (i := 5) nd rfl (.inl rfl))) (fun _ _ _ _ _ => (pts_one (pt_cmpR op_eq (pe_ix ix_tup (pv 0) (pe_op op_sub (pv 5) pe_int) (fun _ _ => rfl)) (pv 4) (nomark _)))) (fun _ _ _ _ _ => (pe_tup (pa_cons (pe_ix ix_list (pv 3) (pv 5) (fun _ _ => rfl)) (pa_cons (pv 5) pa_nil))))) pa_nil)))
(pss_cons (ps_if (pt_cmpR (op_eqD hr.units) (pv 6) (pe_lst pa_nil) (nomark _))
(pss_cons (ps_asg (pe_op op_add (pe_callB (call_maxT rfl hr.units) (by rfl) T.n_max (by decide +kernel) (pa_cons (pv 1) pa_nil)) pe_int) (pg_sub (pv 3) (pv 4) set_list))
(pss_one (ps_ret (pe_callTy call_tuple_of (by rfl) T.n_tuple (by decide +kernel) (pa_cons (pv 3) pa_nil))))) pss_nil)
(pss_cons (ps_asg (pe_ix ix_list (pv 6) pe_int (fun _ _ => rfl)) (pg_tup (by rfl) (pgs_cons (pg_name (i := 7) nd rfl (.inl rfl)) (pgs_cons (pg_name (i := 5) nd rfl (.inl rfl)) pgs_nil))))
(pss_cons (ps_asg (pv 7) (pg_sub (pv 3) (pv 4) set_list))
(pss_one (ps_set (i := 4) nd rfl (.inr rfl) (pv 5)))))))))), ?_⟩
    refine ⟨.ref q, rfl, q, ss.map V.int, rfl, .inr (.inl (.inl hq)), fun rw nrw => ?_⟩
    refine ⟨.int (j : Int), rfl, (by show 2 ≤ sizeLine; decide), fun tp ntp => ⟨tp, _, rfl, .inl (.inl upd_same), rfl, _, _, rfl, _, _, rfl, rfl, ?_⟩⟩
    have a2 := same_new (o := .lst (ss.map V.int)) nrw
    have a3 := same_new (o := .tup [V.ref rw, .int (j : Int)]) ntp
    have nrw2 : rw ≠ q := Ne.symm (ne_of_none hq nrw)
    refine ⟨fun m σ H' => ∃ (c : Nat) (pre : List Nat) (row : List Int) (y5 y6 y7 : Option V), σ = [some (.ref p), some (.ref q), some (.int (j : Int)), some (.ref rw), some (.int (c : Int)), y5, y6, y7] ∧ m = pl.length - c ∧ Same H H' ∧ H' rw = some (.lst (row.map V.int)) ∧ c ≤ pl.length ∧ row.length = pl.length + 1 ∧ (∀ k, c < k → row[k]? = ss[k]?) ∧ go pl ss row pre c = day pl ss j,
      ⟨_, j, [], ss, none, none, none, rfl, rfl, a2.trans a3, a3 _ _ upd_same, hj, hs, fun _ _ => rfl, rfl⟩, ?_⟩
    rintro m σ H3 ⟨c, pre, row, y5, y6, y7, rfl, rfl, sm, er, hc, lr, lk, eg⟩
    refine ⟨true, rfl, iteT ⟨_, fun _ _ z => z, ?_⟩⟩
    have hP3 := hP.same sm
    have elr : ((row.map V.int).length : Nat) = row.length := List.length_map ..
    refine ⟨.ref rw, rfl, rw, _, rfl, .inl (.inl (.inl er)), 1, _, rfl, by omega, fun D nD => ?_⟩
    rw [show (((row.map V.int).length : Int) - 1).toNat = pl.length by rw [elr, lr]; omega]
    refine lc_range (lo := 1) (n := pl.length) (fun i H' => Same H3 H' ∧ ∃ as, PairsAt H' D as (supP pl ss i c)) ⟨same_new nD, [], upd_same, rfl, fun i a p e => by cases e⟩ (fun i G3 hi p1 => ?_) (fun G3 p1 => ?_)
    · obtain ⟨sG, as, pD⟩ := p1
      have eu : pl[i]? = some pl[i] := List.getElem?_eq_getElem hi
      have s0 := sm.trans sG
      have z1 : (1 + (i : Int)) = ((i + 1 : Nat) : Int) := by omega
      refine ⟨rfl, .ref p, rfl, .int (1 + (i : Nat)), rfl, (1 + (i : Int)), 1, rfl, rfl, p, _, _, .int pl[i], rfl, rfl, (hP.same s0).seq, ?_, .int (c : Int), rfl, rfl, _, rfl, ite2 (fun e => ?_) (fun e => ?_)⟩
      · rw [show (1 + (i : Int) - 1) = ((i : Nat) : Int) by omega]
        exact atI_nat (by rw [List.getElem?_map, eu]; rfl)
      · have e1 : pl[i] = (c : Int) := V.int.inj (of_decide_eq_true e)
        have hci : c < i + 1 := by
          have := hP.ok.ok i _ eu
          omega
        have er2 : (row.map V.int)[i + 1]? = some (.int (bx ss ((i + 1 : Nat) : Int))) := by
          rw [List.getElem?_map, lk _ hci, bx_at (by omega)]
          rfl
        refine ⟨.ref rw, rfl, .int (1 + (i : Nat)), rfl, rw, _, (1 + (i : Int)), .int (bx ss ((i + 1 : Nat) : Int)), rfl, rfl, .inl (.inl (sG _ _ er)), by rw [z1]; exact atI_nat er2, .int (1 + (i : Nat)), rfl, (by show 2 ≤ sizeLine; decide), fun t nt => ?_⟩
        have z := pD.snoc (p := (bx ss ((i : Int) + 1), (i : Int) + 1)) nt
        have ec : (V.int (1 + (i : Int))) = .int ((i : Int) + 1) := congrArg V.int (by omega)
        rw [ec]
        refine ⟨_, (same_new nt) _ _ pD.hl, ?_, fun b2 o hb => ?_, as ++ [t], ?_⟩
        · rw [List.length_map, pD.len]
          exact small300 (Nat.le_trans (supP_len pl ss i c) (by omega))
        · rw [upd_ne (ne_of_none hb nD)]
          exact (same_new nt) _ _ (sG _ _ hb)
        · rw [supP_step c eu, if_pos e1]
          exact z
      · have e1 : ¬ pl[i] = (c : Int) := fun z => e (decide_eq_true (congrArg V.int z))
        refine ⟨sG, as, ?_⟩
        rw [supP_step c eu, if_neg e1]
        exact pD
    · obtain ⟨sG, as, pD⟩ := p1
      refine ⟨D, as.map V.ref, pairOf G3, rfl, .inl (.inl pD.hl), fun x hx => ?_, fun ys sl h1 h2 nsl => ?_⟩
      · obtain ⟨a, ha, rfl⟩ := List.mem_map.mp hx
        obtain ⟨i, hi⟩ := List.mem_iff_getElem?.mp ha
        have c1 := (List.getElem?_eq_some_iff.mp hi).1
        have c2 : i < (supP pl ss pl.length c).length := by rw [← pD.len]; exact c1
        have z := pD.at_ i a _ hi (List.getElem?_eq_getElem c2)
        refine ⟨a, rfl, ?_⟩
        rw [pairOf_at z]
        exact z
      obtain ⟨as2, ps2, rfl, l2, at2, pm, pw⟩ := sorted_pairs pD h1 h2
      have s4 := same_new (o := .lst (as2.map V.ref)) nsl
      refine ⟨.ref sl, rfl, Nat.zero_le _, fun e0 ne0 => ?_⟩
      have se := same_new (o := .lst []) ne0
      have s34 := sG.trans (s4.trans se)
      have pS : PairsAt (upd (upd G3 sl (.lst (as2.map V.ref))) e0 (.lst [])) sl as2 ps2 := ⟨se _ _ upd_same, l2, fun i a p x y => se _ _ (s4 _ _ (at2 i a p x y))⟩
      refine ⟨.list (ps2.map PT.pD), .list [], pS.dp, .lst (.inl (.inl upd_same)) .nil, shaped_pairs _, by decide, _, rfl, ite2 (fun e => ?_) fun e => ?_⟩
      · have ez : ps2 = [] := by
          cases ps2 with
          | nil => rfl
          | cons h r => cases e
        subst ez
        have es : supP pl ss pl.length c = [] := List.length_eq_zero_iff.mp (by rw [← pm.length_eq]; rfl)
        have eg2 := go_end (pl := pl) (ss := ss) (row := row) (pre := pre) (c := c) (supP_nil hP.ok es)
        rw [eg2] at eg
        have hss : ss ≠ [] := fun z => by
          rw [z] at hs
          simp at hs
        have s5 := sm.trans s34
        refine ⟨.ref q, rfl, q, ss, rfl, .inl (.inl (s5 _ _ hq)), hss, _, 1, rfl, rfl, .ref rw, rfl, .int (c : Int), rfl, rw, _, (c : Int), c, rfl, rfl, s34 _ _ er, by rw [List.length_map, lr]; exact ixN_at (by omega), ?_⟩
        refine ⟨.ref rw, rfl, rw, _, rfl, .inl ⟨.inl (.inl upd_same), fun r nr => ?_⟩⟩
        have e2 : (day pl ss j).2 = row.set c (mxv ss + 1) := by rw [← eg]
        have nrH : H r = none := by
          cases e : H r with
          | none => rfl
          | some u =>
            rw [upd_ne (ne_of_none e nrw), s5 _ _ e] at nr
            cases nr
        refine qq _ r (fun b2 o hb => ?_) nrH ?_
        · rw [upd_ne (ne_of_none hb nrH), upd_ne (ne_of_none hb nrw)]
          exact s5 _ _ hb
        · rw [upd_same, e2, List.map_set]
      · obtain ⟨h0, r0, rfl⟩ : ∃ h r, ps2 = h :: r := by
          cases ps2 with
          | nil => exact absurd rfl e
          | cons h r => exact ⟨h, r, rfl⟩
        obtain ⟨g1, g2⟩ := head_min hP.ok hs hn pm pw
        have g3 := g1
        unfold gives at g3
        have eg2 := go_on (pl := pl) (ss := ss) (row := row) (pre := pre) g1
        subst g2
        obtain ⟨a0, ra, rfl⟩ : ∃ a r, as2 = a :: r := by
          cases as2 with
          | nil => simp at l2
          | cons h r => exact ⟨h, r, rfl⟩
        have ea0 := pS.at_ 0 a0 _ rfl rfl
        refine ⟨.ref sl, rfl, sl, _, 0, .ref a0, rfl, rfl, .inl (.inl pS.hl), atI_nat (j := 0) rfl, ?_⟩
        refine ⟨a0, _, rfl, .inl (.inl ea0), rfl, _, _, rfl, _, _, rfl, rfl, ?_⟩
        refine ⟨_, rfl, .ref rw, rfl, .int (c : Int), rfl, rw, _, (c : Int), c, rfl, rfl, s34 _ _ er, by rw [List.length_map, lr]; exact ixN_at (by omega), ?_⟩
        refine ⟨_, rfl, pl.length - bst pl ss c, by omega, bst pl ss c, pre ++ [c], row.set c (bx ss (bst pl ss c)), _, _, _, rfl, rfl, fun b2 o hb => ?_, ?_, g3.2, by rw [List.length_set]; exact lr, fun k hk => ?_, ?_⟩
        · rw [upd_ne (ne_of_none hb nrw)]
          exact s34 _ _ (sm _ _ hb)
        · rw [upd_same, List.map_set]
        · rw [List.getElem?_set_ne (by omega)]
          exact lk k (by omega)
        · rw [← eg2]
          exact eg
end
end PT

set_option exponentiation.threshold 5000
/-! how long a cycle may be, what divides it; the shares of a cycle; later stocks and renumbered ones have the same cycle -/
namespace PT
/-- every second factor -/
def df : Nat → Nat
  | 0 => 1
  | 1 => 1
  | n + 2 => (n + 2) * df n
theorem df_up : ∀ n, df n ≤ df (n + 1)
  | 0 => Nat.le_refl _
  | 1 => by decide
  | n + 2 => by
    show (n + 2) * df n ≤ (n + 1 + 2) * df (n + 1)
    exact Nat.mul_le_mul (by omega) (df_up n)
theorem df_mono {m n : Nat} (h : m ≤ n) : df m ≤ df n := by
  induction h with
  | refl => exact Nat.le_refl _
  | step _ ih => exact Nat.le_trans ih (df_up _)
theorem df_add : ∀ a b, df a * df b ≤ df (a + b)
  | 0, b => by rw [Nat.zero_add]; show 1 * df b ≤ df b; omega
  | 1, b => by
    show 1 * df b ≤ df (1 + b)
    rw [Nat.one_mul]
    exact df_mono (by omega)
  | a + 2, b => by
    have ih := df_add a b
    rw [show a + 2 + b = (a + b) + 2 from by omega]
    show (a + 2) * df a * df b ≤ (a + b + 2) * df (a + b)
    rw [Nat.mul_assoc]
    exact Nat.mul_le_mul (by omega) ih
theorem lcs_df {f g : Nat → Nat} : ∀ {l : List Nat}, (∀ s ∈ l, 0 < f s ∧ f s ≤ df (g s)) → lcs f l ≤ df (l.map g).sum := by
  intro l h
  unfold lcs
  have : ∀ (l : List Nat) a, 0 < a → (∀ s ∈ l, 0 < f s ∧ f s ≤ df (g s)) → l.foldl (fun r s => Nat.lcm r (f s)) a ≤ a * df (l.map g).sum := by
    intro l
    induction l with
    | nil => intro a _ _; show a ≤ a * 1; omega
    | cons x l ih =>
      intro a ha hl
      obtain ⟨x0, x1⟩ := hl x List.mem_cons_self
      refine Nat.le_trans (ih _ (Nat.lcm_pos ha x0) fun s hs => hl s (List.mem_cons_of_mem _ hs)) ?_
      rw [List.map_cons, List.sum_cons]
      refine Nat.le_trans ?_ (Nat.mul_le_mul_left a (df_add (g x) (l.map g).sum))
      rw [← Nat.mul_assoc]
      refine Nat.mul_le_mul_right _ (Nat.le_trans (Nat.le_of_dvd (Nat.mul_pos ha x0) ?_) (Nat.mul_le_mul_left a x1))
      exact Nat.lcm_dvd (Nat.dvd_mul_right _ _) (Nat.dvd_mul_left _ _)
  have z := this l 1 (by decide) h
  rwa [Nat.one_mul] at z
theorem sum_less {g : Nat → Nat} : ∀ {l : List Nat}, (∀ s ∈ l, 0 < g s) → (l.map fun s => g s - 1).sum + l.length = (l.map g).sum
  | [], _ => rfl
  | x :: l, h => by
    have ih := sum_less (l := l) fun s hs => h s (List.mem_cons_of_mem _ hs)
    have x0 := h x List.mem_cons_self
    rw [List.map_cons, List.map_cons, List.sum_cons, List.sum_cons, List.length_cons]
    omega
theorem supN_sum {pl : List Int} (hP : Plant pl) {u : Nat} (hu : u ≤ pl.length) : ((supN pl u).map (sz pl)).sum = sz pl u - 1 := by
  rw [← supS_all hP hu, ixs_supN, List.map_map]
  rfl
theorem prd_const {W : List Nat} {s : Nat} (h : ∀ x ∈ W, x = s) : prd W = 1 := by
  have e : rot W 1 = W := by
    have a : W = List.replicate W.length s := List.eq_replicate_iff.mpr ⟨rfl, h⟩
    have b : rot W 1 = List.replicate W.length s := List.eq_replicate_iff.mpr ⟨rot_len W 1, fun x hx => h x ((rot_perm W 1).mem_iff.mp hx)⟩
    rw [b, ← a]
  exact Nat.dvd_one.mp ((prd_dvd W 1).mp e)
theorem cyl_df {pl : List Int} {W : Nat → List Nat} (hP : Plant pl) (ok : WordsOk pl W) : ∀ n u, pl.length - u = n → u ≤ pl.length → cyl pl W u ≤ df (sz pl u - 1) := by
  intro n
  induction n using Nat.strongRecOn with
  | ind n ih =>
    intro u hn hu
    have kids : ∀ s ∈ supN pl u, 0 < ask pl W u s ∧ ask pl W u s ≤ df (sz pl s - 1) := fun s hs => by
      obtain ⟨s0, s1, s2⟩ := (supN_mem hP).mp hs
      have lt := cu_lt pl s0
      have z := ih (pl.length - s) (by omega) s rfl s1
      obtain ⟨p0, p1⟩ := prt_pos (t := ((W u).take (prd (W u))).count s) (cyl_ok hP W _ s rfl s1).1
      exact ⟨p0, Nat.le_trans p1 z⟩
    have hl := lcs_df kids
    have sp : ∀ s ∈ supN pl u, 0 < sz pl s := fun s hs => sz_pos ((supN_mem hP).mp hs).2.1
    have hs1 := sum_less sp
    rw [supN_sum hP hu] at hs1
    have hw := ok.size hP hu
    have pw := (prd_ok (W u)).2.1
    rw [cyl_step hP W hu]
    match e : supN pl u with
    | [] =>
      rw [e] at hs1
      have s0 : sz pl u - 1 = 0 := hs1.symm
      rw [s0] at hw
      have w0 := List.length_eq_zero_iff.mp hw
      rw [w0, s0]
      show prd [] * 1 ≤ 1
      decide
    | [s] =>
      rw [e] at hs1 hl
      have hc : ∀ x ∈ W u, x = s := fun x hx => by
        have m := (ok.mem u hu x hx)
        have z := (supN_mem hP).mpr ⟨m.1, m.2.1, m.2.2⟩
        rw [e] at z
        exact List.mem_singleton.mp z
      rw [prd_const hc, Nat.one_mul]
      refine Nat.le_trans hl (df_mono ?_)
      omega
    | s :: t :: r =>
      rw [e] at hs1 hl
      have l2 : 2 ≤ (s :: t :: r).length := by show 2 ≤ r.length + 1 + 1; omega
      have big : 3 ≤ sz pl u := by
        have := sp s (by rw [e]; simp)
        have a := supN_sum hP hu
        rw [e, List.map_cons, List.map_cons, List.sum_cons, List.sum_cons] at a
        have := sp t (by rw [e]; simp)
        omega
      obtain ⟨j, ej⟩ : ∃ j, sz pl u - 1 = j + 2 := ⟨sz pl u - 3, by omega⟩
      rw [ej]
      show _ ≤ (j + 2) * df j
      refine Nat.mul_le_mul (by omega) (Nat.le_trans hl (df_mono (by omega)))
/-! ### its prime divisors -/
def prs : List Nat := [2, 3, 5, 7, 11, 13, 17, 19, 23, 29, 31, 37]
/-- every divisor above 1 has a divisor among the primes up to 37 -/
def Smooth (n : Nat) : Prop := ∀ d, d ∣ n → 1 < d → ∃ p ∈ prs, p ∣ d
/-! ### shares -/
theorem cyl_back {pl : List Int} {W : Nat → List Nat} (hP : Plant pl) {m : Nat} (h : cyl pl W 0 ∣ m) {v : Nat} (hv : v ≤ pl.length) : rot (W v) (tm pl W m v) = W v := by
  have z := ((cyl_ok hP W _ 0 rfl (Nat.zero_le _)).2 m).mpr h v hv (path_root pl v)
  rwa [tmu_shop] at z
/-! ### a cycle later -/
theorem rotW_back {pl : List Int} {W : Nat → List Nat} (hP : Plant pl) {k : Nat} (h : cyl pl W 0 ∣ k) (e : Nat) : ∀ v, v ≤ pl.length → rotW pl W (k + e) v = rotW pl W e v := fun v hv => by
  rw [← rotW_add]
  exact rotW_congr (fun u hu => cyl_back hP h hu) e v hv
/-- the orders of two days a cycle apart are the same -/
theorem cyc_order {pl ss : List Int} {L M N : List Nat} (hP : Plant pl) (hs : ss.length = pl.length + 1) (hn : ss.Nodup) (ho : Ord pl ss) (hL : IsOrd ss L) {k e : Nat} (h : cyl pl (wd pl L) 0 ∣ k) (hM : IsOrd (dyn pl ss e) M) (hN : IsOrd (dyn pl ss (k + e)) N) : N = M := by
  obtain ⟨d1, d2⟩ := dyn_len (pl := pl) hs hn e
  obtain ⟨e1, e2⟩ := dyn_len (pl := pl) hs hn (k + e)
  refine lay_same e1 d1 (ord_dyn hP hs hn ho _) (ord_dyn hP hs hn ho _) hN hM fun v hv => ?_
  rw [wd_days hP hs hn ho hL (k + e) hN v hv, wd_days hP hs hn ho hL e hM v hv]
  exact rotW_back hP h e v hv
end PT

namespace PT
end PT

/-! two stocks with the same order of their boxes go the same way -/
namespace PT
def SameOrd (pl ss tt : List Int) : Prop := ∀ i j : Nat, i ≤ pl.length → j ≤ pl.length → (bx ss i < bx ss j ↔ bx tt i < bx tt j)
theorem pickB_ord {pl ss tt : List Int} (h : SameOrd pl ss tt) : ∀ (l : List Int) (b : Int), (∀ x ∈ b :: l, ∃ k : Nat, x = (k : Int) ∧ k ≤ pl.length) → pickB ss b l = pickB tt b l
  | [], b, _ => rfl
  | o :: l, b, q => by
    obtain ⟨i, rfl, hi⟩ := q b (by simp)
    obtain ⟨j, rfl, hj⟩ := q o (by simp)
    have e : (if bx ss (j : Int) < bx ss (i : Int) then (j : Int) else (i : Int)) = if bx tt (j : Int) < bx tt (i : Int) then (j : Int) else (i : Int) := by
      by_cases c : bx ss (j : Int) < bx ss (i : Int)
      · rw [if_pos c, if_pos ((h j i hj hi).mp c)]
      · rw [if_neg c, if_neg fun z => c ((h j i hj hi).mpr z)]
    show pickB ss (if bx ss (j : Int) < bx ss (i : Int) then (j : Int) else (i : Int)) l = pickB tt (if bx tt (j : Int) < bx tt (i : Int) then (j : Int) else (i : Int)) l
    rw [e]
    refine pickB_ord h l _ fun x hx => ?_
    rcases List.mem_cons.mp hx with z | z
    · rw [z]
      split
      · exact ⟨j, rfl, hj⟩
      · exact ⟨i, rfl, hi⟩
    · exact q x (by simp [z])
theorem bst_ord {pl ss tt : List Int} (hP : Plant pl) (h : SameOrd pl ss tt) (v : Nat) : bst pl ss v = bst pl tt v := by
  unfold bst
  cases e : sup pl pl.length v with
  | nil => rfl
  | cons x r =>
    have q : ∀ y ∈ x :: x :: r, ∃ k : Nat, y = (k : Int) ∧ k ≤ pl.length := fun y hy => by
      have hy2 : y ∈ x :: r := by
        rcases List.mem_cons.mp hy with z | z
        · rw [z]; simp
        · exact z
      rw [← e] at hy2
      obtain ⟨k, rfl, _, hk⟩ := sup_gt hP hy2
      exact ⟨k, rfl, hk⟩
    show (pickB ss x (x :: r)).toNat = (pickB tt x (x :: r)).toNat
    rw [pickB_ord h (x :: r) x q]
theorem gives_ord {pl ss tt : List Int} (hP : Plant pl) (h : SameOrd pl ss tt) (v : Nat) : gives pl ss v ↔ gives pl tt v := by
  unfold gives
  rw [bst_ord hP h v]
theorem chn_ord {pl ss tt : List Int} (hP : Plant pl) (h : SameOrd pl ss tt) : ∀ (n c : Nat), pl.length - c = n → chn pl ss c = chn pl tt c := by
  intro n
  induction n using Nat.strongRecOn with
  | ind n ih =>
    intro c hn
    by_cases g : gives pl ss c
    · have g2 := (gives_ord hP h c).mp g
      rw [chn_on g, chn_on g2, ← bst_ord hP h c, ih (pl.length - bst pl ss c) (by have := g.1; have := g.2; omega) _ rfl]
    · rw [chn_end g, chn_end fun z => g ((gives_ord hP h c).mpr z)]
theorem same_day {pl ss tt : List Int} (hP : Plant pl) (hs : ss.length = pl.length + 1) (ht : tt.length = pl.length + 1) (h : SameOrd pl ss tt) : SameOrd pl (day pl ss 0).2 (day pl tt 0).2 := fun i j hi hj => by
  rw [day_at hs hi, day_at hs hj, day_at ht hi, day_at ht hj, ← chn_ord hP h _ 0 rfl]
  have src : ∀ k, k ≤ pl.length → (∃ m, m ≤ pl.length ∧ (if k ∈ chn pl ss 0 then nxt pl ss k else bx ss k) = bx ss m ∧ (if k ∈ chn pl ss 0 then nxt pl tt k else bx tt k) = bx tt m) ∨
      ((if k ∈ chn pl ss 0 then nxt pl ss k else bx ss k) = mxv ss + 1 ∧ (if k ∈ chn pl ss 0 then nxt pl tt k else bx tt k) = mxv tt + 1) := fun k hk => by
    by_cases c : k ∈ chn pl ss 0
    · rw [if_pos c, if_pos c]
      unfold nxt
      by_cases g : gives pl ss k
      · rw [if_pos g, if_pos ((gives_ord hP h k).mp g), ← bst_ord hP h k]
        exact .inl ⟨_, g.2, rfl, rfl⟩
      · rw [if_neg g, if_neg fun z => g ((gives_ord hP h k).mpr z)]
        exact .inr ⟨rfl, rfl⟩
    · rw [if_neg c, if_neg c]
      exact .inl ⟨k, hk, rfl, rfl⟩
  have ms : ∀ m, m ≤ pl.length → bx ss m < mxv ss + 1 := fun m hm => mxv_lt (by omega)
  have mt : ∀ m, m ≤ pl.length → bx tt m < mxv tt + 1 := fun m hm => mxv_lt (by omega)
  rcases src i hi with ⟨m, hm, e1, e2⟩ | ⟨e1, e2⟩ <;> rcases src j hj with ⟨n, hn, e3, e4⟩ | ⟨e3, e4⟩ <;> rw [e1, e2, e3, e4]
  · exact h m n hm hn
  · exact ⟨fun _ => mt m hm, fun _ => ms m hm⟩
  · have := ms n hn
    have := mt n hn
    omega
  · omega
theorem same_dyn {pl ss tt : List Int} (hP : Plant pl) (hs : ss.length = pl.length + 1) (hn : ss.Nodup) (ht : tt.length = pl.length + 1) (hm : tt.Nodup) (h : SameOrd pl ss tt) : ∀ n, SameOrd pl (dyn pl ss n) (dyn pl tt n)
  | 0 => h
  | n + 1 => same_day hP (dyn_len hs hn n).1 (dyn_len ht hm n).1 (same_dyn hP hs hn ht hm h n)
theorem SameOrd.symm {pl ss tt : List Int} (h : SameOrd pl ss tt) : SameOrd pl tt ss := fun i j hi hj => (h i j hi hj).symm
theorem same_ord {pl ss tt : List Int} (h : SameOrd pl ss tt) (o : Ord pl ss) : Ord pl tt := fun k k0 k1 => (h (cu pl k) k (by have := cu_lt pl k0; omega) k1).mp (o k k0 k1)
theorem same_isOrd {pl ss tt : List Int} (hs : ss.length = pl.length + 1) (ht : tt.length = pl.length + 1) (h : SameOrd pl ss tt) {L : List Nat} (hL : IsOrd ss L) : IsOrd tt L :=
  ⟨fun k => by rw [hL.mem k, hs, ht], hL.inc.imp_of_mem fun {a b} ha hb z => (h a b (by have := (hL.mem a).mp ha; omega) (by have := (hL.mem b).mp hb; omega)).mp z⟩
theorem isOrd_nodup {ss : List Int} {L : List Nat} (h : IsOrd ss L) : ss.Nodup := by
  refine List.pairwise_iff_getElem.mpr fun i j hi hj ij e => ?_
  have mi := List.idxOf_lt_length_of_mem ((h.mem i).mpr hi)
  have mj := List.idxOf_lt_length_of_mem ((h.mem j).mpr hj)
  have gi := List.getElem_idxOf mi
  have gj := List.getElem_idxOf mj
  have z := List.pairwise_iff_getElem.mp h.inc
  have e2 : bx ss i = bx ss j := by
    have a := bx_at (ss := ss) hi
    have b := bx_at (ss := ss) hj
    rw [List.getElem?_eq_getElem hi] at a
    rw [List.getElem?_eq_getElem hj] at b
    rw [← Option.some.inj a, ← Option.some.inj b, e]
  rcases Nat.lt_trichotomy (L.idxOf i) (L.idxOf j) with c | c | c
  · have y := z _ _ mi mj c
    rw [gi, gj] at y
    omega
  · have : i = j := by
      rw [← gi, ← gj]
      congr 1
    omega
  · have y := z _ _ mj mi c
    rw [gi, gj] at y
    omega
end PT


set_option maxHeartbeats 4000000
/-! patterns of the days, of no law's own text -/
namespace PT
open PySem PySem.Spec PyProof.Rows L2
/-- the stations, from the oldest box on -/
def ordL (ss : List Int) : List Nat := byAge ss.length fun i => ss.getD i 0
theorem ordL_ok {ss : List Int} (hn : ss.Nodup) : IsOrd ss (ordL ss) := byAge_ord hn
/-- the pattern some days later -/
def pat (pl ss : List Int) (d : Nat) : List Int := rankS pl (ordL (dyn pl ss d))
def pats (pl ss : List Int) (n : Nat) : List (List Int) := (List.range n).map (pat pl ss)
theorem pat_of {pl ss : List Int} (hs : ss.length = pl.length + 1) (hn : ss.Nodup) {d : Nat} {M : List Nat} (h : IsOrd (dyn pl ss d) M) : rankS pl M = pat pl ss d := by
  unfold pat
  rw [h.unique (ordL_ok (dyn_len (pl := pl) hs hn d).2)]
theorem root_least {pl ss : List Int} (ho : Ord pl ss) : ∀ k : Nat, 0 < k → k ≤ pl.length → bx ss 0 < bx ss k := by
  intro k
  induction k using Nat.strongRecOn with
  | _ k ih =>
    intro k0 k1
    have c := cu_lt pl k0
    have z := ho k k0 k1
    by_cases e : cu pl k = 0
    · rw [e] at z
      exact z
    · have y := ih (cu pl k) c (by omega) (by omega)
      omega
theorem low_day {pl ss : List Int} (hs : ss.length = pl.length + 1) (hn : ss.Nodup) (ho : Ord pl ss) {l : Int} (h : ∀ x ∈ ss, l ≤ x) : ∀ x ∈ (day pl ss 0).2, l + 1 ≤ x := by
  intro x hx
  have p := day_perm (pl := pl) hs
  have m0 : bx ss 0 ∈ ss := bx_mem (k := 0) (by omega)
  have lt0 : bx ss 0 < mxv ss + 1 := mxv_lt (k := 0) (by omega)
  have l0 := h _ m0
  have nd2 : ((mxv ss + 1) :: ss).Nodup := List.nodup_cons.mpr ⟨fun z => by
    obtain ⟨k, hk, e⟩ := List.getElem_of_mem z
    have y := mxv_lt (ss := ss) (k := k) hk
    have b := bx_at hk
    rw [List.getElem?_eq_getElem hk, e] at b
    have b2 := Option.some.inj b
    omega, hn⟩
  have nd3 := p.nodup_iff.mpr nd2
  have xne : x ≠ bx ss 0 := fun z => (List.nodup_cons.mp nd3).1 (z ▸ hx)
  rcases List.mem_cons.mp (p.mem_iff.mp (List.mem_cons_of_mem _ hx)) with z | z
  · omega
  · obtain ⟨k, hk, e⟩ := List.getElem_of_mem z
    have b := bx_at hk
    rw [List.getElem?_eq_getElem hk, e] at b
    have b2 := Option.some.inj b
    rcases Nat.eq_zero_or_pos k with k0 | k0
    · subst k0
      exact absurd b2 xne
    · have y := root_least ho k k0 (by omega)
      omega
theorem low_dyn {pl ss : List Int} (hP : Plant pl) (hs : ss.length = pl.length + 1) (hn : ss.Nodup) (ho : Ord pl ss) {l : Int} (h : ∀ x ∈ ss, l ≤ x) : ∀ d : Nat, ∀ x ∈ dyn pl ss d, l + d ≤ x
  | 0 => fun x hx => by
    have := h x hx
    omega
  | d + 1 => fun x hx => by
    obtain ⟨d1, d2⟩ := dyn_len (pl := pl) hs hn d
    have z := low_day d1 d2 (ord_dyn hP hs hn ho d) (low_dyn hP hs hn ho h d) x hx
    omega
theorem rank_bd {pl : List Int} {L : List Nat} {ss : List Int} (hs : ss.length = pl.length + 1) (hO : IsOrd ss L) : ∀ x ∈ rankS pl L, (0 : Int) ≤ x ∧ x ≤ (pl.length : Int) := by
  intro x hx
  unfold rankS at hx
  obtain ⟨s, hm, rfl⟩ := List.mem_map.mp hx
  have hs2 := List.mem_range.mp hm
  have hin := (hO.mem s).mpr (by omega)
  have hj := List.idxOf_lt_length_of_mem hin
  have lL := ord_len hO
  omega
theorem rank_isOrd {pl : List Int} {L : List Nat} {ss : List Int} (hs : ss.length = pl.length + 1) (hO : IsOrd ss L) : SameOrd pl ss (rankS pl L) := by
  intro i j hi hj
  have mi := (hO.mem i).mpr (by omega)
  have mj := (hO.mem j).mpr (by omega)
  have li := List.idxOf_lt_length_of_mem mi
  have lj := List.idxOf_lt_length_of_mem mj
  rw [rank_at hi, rank_at hj]
  have inc := List.pairwise_iff_getElem.mp hO.inc
  have gi : L[L.idxOf i]'li = i := List.getElem_idxOf li
  have gj : L[L.idxOf j]'lj = j := List.getElem_idxOf lj
  constructor
  · intro z
    rcases Nat.lt_trichotomy (L.idxOf i) (L.idxOf j) with c | c | c
    · omega
    · have e : i = j := by
        have g1 : L[L.idxOf i]? = some i := by rw [List.getElem?_eq_getElem li, gi]
        have g2 : L[L.idxOf j]? = some j := by rw [List.getElem?_eq_getElem lj, gj]
        rw [c, g2] at g1
        exact (Option.some.inj g1).symm
      subst e
      omega
    · have y := inc _ _ lj li c
      rw [gi, gj] at y
      omega
  · intro z
    have y := inc _ _ li lj (by omega)
    rw [gi, gj] at y
    exact y
theorem rank_nd {pl : List Int} {L : List Nat} {ss : List Int} (hs : ss.length = pl.length + 1) (hO : IsOrd ss L) : (rankS pl L).Nodup :=
  isOrd_nodup (same_isOrd hs (rank_len pl L) (rank_isOrd hs hO) hO)
/-- the ranks, gone day by day, are those of the stock: each day all are one greater -/
theorem pat_boxes {pl ss : List Int} {L : List Nat} (hP : Plant pl) (hs : ss.length = pl.length + 1) (ho : Ord pl ss) (hO : IsOrd ss L) (d : Nat) : (dyn pl (rankS pl L) d).map (fun b => b - (d : Int)) = pat pl ss d := by
  have hn := isOrd_nodup hO
  have lr := rank_len pl L
  have nr := rank_nd hs hO
  have so := rank_isOrd hs hO
  have oR : Ord pl (rankS pl L) := same_ord so ho
  obtain ⟨d1, d2⟩ := dyn_len (pl := pl) lr nr d
  obtain ⟨e1, e2⟩ := dyn_len (pl := pl) hs hn d
  have sd := same_dyn hP hs hn lr nr so d
  have hM := ordL_ok e2
  have hM2 : IsOrd (dyn pl (rankS pl L) d) (ordL (dyn pl ss d)) := same_isOrd e1 d1 sd hM
  have lo := low_dyn hP lr nr oR (l := 0) (fun x hx => (rank_bd hs hO x hx).1) d
  have hi := dyn_bd (pl := pl) lr nr (l := 0) (u := (pl.length : Int)) (fun x hx => rank_bd hs hO x hx) d
  have b : ∀ x ∈ dyn pl (rankS pl L) d, (d : Int) - 1 < x ∧ x ≤ (d : Int) - 1 + (pl.length + 1 : Nat) := fun x hx => by
    have z1 := lo x hx
    have z2 := (hi x hx).2
    omega
  have z := late_map d1 (late_idx d1 hM2 b)
  unfold pat
  rw [z, List.map_map]
  refine List.ext_getElem? fun i => ?_
  rw [List.getElem?_map]
  cases q : (rankS pl (ordL (dyn pl ss d)))[i]? with
  | none => rfl
  | some r =>
    show some _ = some _
    congr 1
    show (d : Int) - 1 + 1 + r - d = r
    omega
theorem pat_cyc {pl ss : List Int} {L : List Nat} (hP : Plant pl) (hs : ss.length = pl.length + 1) (hn : ss.Nodup) (ho : Ord pl ss) (hO : IsOrd ss L) (d : Nat) : pat pl ss d = pat pl ss 0 ↔ cyl pl (wd pl L) 0 ∣ d := by
  obtain ⟨e1, e2⟩ := dyn_len (pl := pl) hs hn d
  have hM := ordL_ok e2
  have h0 : pat pl ss 0 = rankS pl L := (pat_of (d := 0) hs hn hO).symm
  rw [h0]
  unfold pat
  rw [rank_same e1 hs hM hO, cyc_days hP hs hn ho hO hM]
end PT

set_option maxHeartbeats 4000000
/-! min of a tuple of ints; every box is sold once -/
namespace PT
open PySem PySem.Spec PyProof.Rows L2
/-- the least number -/
def mnv : List Int → Int
  | [] => 0
  | x :: r => r.foldl min x
theorem fold_minI : ∀ (r : List Int) (x : Int), r.foldl min x ∈ x :: r ∧ ∀ y ∈ x :: r, r.foldl min x ≤ y
  | [], x => ⟨List.mem_cons_self, fun y h => by rw [List.mem_singleton.mp h]; exact Int.le_refl _⟩
  | z :: r, x => by
    obtain ⟨h1, h2⟩ := fold_minI r (min x z)
    rw [List.foldl_cons]
    refine ⟨?_, fun y h => ?_⟩
    · rcases List.mem_cons.mp h1 with e | e
      · rw [e]
        by_cases c : x ≤ z
        · rw [Int.min_eq_left c]; simp
        · rw [Int.min_eq_right (by omega)]; simp
      · exact List.mem_cons_of_mem _ (List.mem_cons_of_mem _ e)
    · have h0 := h2 _ List.mem_cons_self
      rcases List.mem_cons.mp h with e | e
      · subst e
        omega
      · rcases List.mem_cons.mp e with e | e
        · subst e
          omega
        · exact h2 y (List.mem_cons_of_mem _ e)
theorem mnv_mem {l : List Int} (h : l ≠ []) : mnv l ∈ l ∧ ∀ y ∈ l, mnv l ≤ y := by
  cases l with
  | nil => exact absurd rfl h
  | cons x r => exact fold_minI r x
/-- max(t) of a tuple of ints, as it is read -/
abbrev rMaxT (K : PySem.W.Frag) : List V → Hp → VK → Prop := fun vs H Q => ∃ a ns, vs = [V.ref a] ∧ SqT K H a (ns.map V.int) ∧ ns ≠ [] ∧ Q (.int (mxv ns)) H
section
variable {X : Cx}
/-- min(t), t a tuple of ints -/
theorem call_minT (hc : X.calm = true) (hu : X.A.units + 64 < cLine) : CallR X (.builtin "min") (fun vs H Q => ∃ a ns, vs = [V.ref a] ∧ SqT X.K H a (ns.map V.int) ∧ ns ≠ [] ∧ Q (.int (mnv ns)) H) := by
  intro pins st σ H vs us Q I r h
  obtain ⟨a, ns, rfl, hT, hne, q⟩ := h
  obtain ⟨its, rv, p, hz⟩ := I.tuple hT
  rw [Vals.ref1 r]
  cases ns with
  | nil => exact absurd rfl hne
  | cons x xs =>
    obtain ⟨as, hr⟩ := Dp.readsAll I ((x :: xs).map PyData.int) _ its (dp_ints (x :: xs)) rv
    have hd : PyData.depthAll (.int x :: xs.map PyData.int) = 0 := depth_ints (x :: xs)
    refine PySem.W.min_tuple_data (I.ok.hd hc) p hr (alike_int (x :: xs)) (by rw [hd]; omega) fun i v h' tk bs hv hR hk => ?_
    rw [PySem.W.minD_ints] at hR
    cases hR with
    | int m t => exact ⟨.int _, H, I.kept hk, ⟨t, rfl⟩, q⟩
end
end PT


set_option maxHeartbeats 4000000
/-! many days as the law does them: by the cycle of the patterns -/
namespace PT
open PySem PySem.Spec PyProof.Rows L2 LamX NdefX
/-- days that the law's own way reaches -/
def daysOkL (pl : List Int) (d : Nat) : Prop := d ≤ 10 ^ 30 ∧ ∀ W, WordsOk pl W → cyl pl W 0 ≤ 1000000
/-- behind as many days as there are stations: the pattern, moved -/
theorem dyn_late {pl ss : List Int} (hP : Plant pl) (hs : ss.length = pl.length + 1) (hn : ss.Nodup) (i : Nat) : dyn pl ss (pl.length + 1 + i) = (pat pl ss (pl.length + 1 + i)).map fun b => mxv ss + 1 + i + b := by
  obtain ⟨e1, e2⟩ := dyn_len (pl := pl) hs hn (pl.length + 1 + i)
  have z := late_map e1 (t := mxv ss + i) (late_idx e1 (ordL_ok e2) fun x hx => by
    have z := late_box hP hs hn (d := pl.length + 1 + i) (by omega) x hx
    omega)
  unfold pat
  rw [z]
  have e : (rankS pl (ordL (dyn pl ss (pl.length + 1 + i)))).map (fun r => mxv ss + i + 1 + r) = (rankS pl (ordL (dyn pl ss (pl.length + 1 + i)))).map fun b => mxv ss + 1 + i + b := List.map_congr_left fun x _ => by omega
  rw [← z, ← e]
  exact z
theorem pat_add (pl ss : List Int) (a b : Nat) : pat pl ss (a + b) = pat pl (dyn pl ss a) b := by
  unfold pat
  rw [dyn_add]
/-- the pattern a day later, as the law makes it -/
theorem pat_next {pl ss : List Int} (hP : Plant pl) (hs : ss.length = pl.length + 1) (hn : ss.Nodup) (i : Nat) : (day pl (pat pl ss (pl.length + 1 + i)) 0).2.map (fun b => b - 1) = pat pl ss (pl.length + 1 + (i + 1)) := by
  have hd := dyn_len (pl := pl) hs hn (pl.length + 1 + i)
  have z := pat_boxes hP hd.1 (ord_late hP hs hn (by omega)) (ordL_ok hd.2) 1
  rw [← pat_add] at z
  exact z
theorem pat_ln {pl ss : List Int} (hs : ss.length = pl.length + 1) (hn : ss.Nodup) (i : Nat) : (pat pl ss i).length = pl.length + 1 ∧ (pat pl ss i).Nodup := by
  have hd := dyn_len (pl := pl) hs hn i
  exact ⟨rank_len _ _, rank_nd hd.1 (ordL_ok hd.2)⟩
/-- the least box behind as many days -/
theorem mnv_late {pl ss : List Int} (hP : Plant pl) (hs : ss.length = pl.length + 1) (hn : ss.Nodup) : mnv (dyn pl ss (pl.length + 1)) = mxv ss + 1 := by
  obtain ⟨e1, e2⟩ := dyn_len (pl := pl) hs hn (pl.length + 1)
  have hO := ordL_ok e2
  have ne : dyn pl ss (pl.length + 1) ≠ [] := fun z => by rw [z] at e1; simp at e1
  obtain ⟨m1, m2⟩ := mnv_mem ne
  have b1 := late_box hP hs hn (d := pl.length + 1) (Nat.le_refl _) _ m1
  have hL : ordL (dyn pl ss (pl.length + 1)) ≠ [] := fun z => by
    have y := (hO.mem 0).mpr (by omega)
    rw [z] at y
    cases y
  obtain ⟨s0, r, eL⟩ := List.exists_cons_of_ne_nil hL
  have hm : s0 ∈ ordL (dyn pl ss (pl.length + 1)) := by rw [eL]; exact List.mem_cons_self
  have hs0 := (hO.mem s0).mp hm
  have z := late_idx e1 (t := mxv ss) hO (fun x hx => by
    have z := late_box hP hs hn (d := pl.length + 1) (Nat.le_refl _) x hx
    omega) s0 (by omega)
  rw [eL, List.idxOf_cons_self] at z
  have y := m2 _ (bx_mem (k := s0) hs0)
  have z : bx (dyn pl ss (pl.length + 1)) s0 = mxv ss + 1 + 0 := z
  omega
/-- rows that are tuples of numbers -/
def TupOne (H : Hp) (v : V) (xs : List Int) : Prop := ∃ a, v = .ref a ∧ H a = some (.tup (xs.map V.int))
theorem TupOne.kt {H H' : Hp} (k : KT H H') {v : V} {xs : List Int} (h : TupOne H v xs) : TupOne H' v xs := let ⟨a, e, x⟩ := h; ⟨a, e, k _ _ x⟩
theorem kt_put' {G : Hp} {l : Addr} {xs ys : List V} (e : G l = some (.lst xs)) : KT G (upd G l (.lst ys)) := fun c zs h => by
  rw [upd_ne (ne_of h e (by intro z; cases z))]
  exact h
section
variable {P : Program} {w : World} {K : PySem.W.Frag} {mg : Str → Option Value} {base : Heap}
def spDaysL : Sp := fun vs H Q _ => ∃ (p q : Addr) (pl ss : List Int) (d : Nat), vs = [.ref p, .ref q, .int (d : Int)] ∧ StAt H p q pl ss ∧ daysOkL pl d ∧
  ∀ (H' : Hp) (r : Addr), Same H H' → H' r = some (.tup ((dyn pl ss d).map V.int)) → Q (.ref r) H'
theorem ok_daysL (T : Tx K mg) : FnOk P w K mg base CX0 2 T.f__law_days T.d__law_days ["plant", "boxes", "many"] spDaysL := by
  refine T.F__law_days.ok scLawDays (fun vs H Q E h => ?_) (fun cdv A outer s H vs Q E hr h => ?_)
  · obtain ⟨p, q, pl, ss, d, rfl, _⟩ := h
    rfl
  · obtain ⟨p, q, pl, ss, d, rfl, St, hd, k⟩ := h
    have nd := scLawDays.nd
    have hP := St.P.ok
    have lp := hP.len
    have hs := St.ls
    have hn := St.nd
    refine ⟨_, (pss_cons (ps_set (i := 3) nd rfl (.inl rfl) (pe_callB call_len_seq (by rfl) T.n_len PySem.boot_len (pa_cons (pv 1) pa_nil)))
(pss_cons (ps_set (i := 4) nd rfl (.inr rfl) (pe_callB (call_min2 rfl) (by rfl) T.n_min (by decide +kernel) (pa_cons (pv 2) (pa_cons (pv 3) pa_nil))))
(pss_cons (ps_for PassesOwn.never rfl (pi_range1 (by rfl) T.n_range (pa_cons (pv 4) pa_nil)) (pg_name (i := 5) nd rfl (.inl rfl))
(pss_one (ps_set (i := 1) nd rfl (.inl rfl) (pe_call (ok_soldL T) (hr.mono (by omega)) (by rfl) T.g__law_sold T.F__law_sold.kp T.b__law_sold .nil pass0 (pa_cons (pv 0) (pa_cons (pv 1) (pa_cons pe_int pa_nil)))))))
(Evl.pss_cut (ps_if (pt_cmpR op_eq (pv 2) (pv 4) (nomark _))
(pss_one (ps_ret (pv 1))) pss_nil)
(pss_cons (ps_set (i := 6) nd rfl (.inr rfl) (pe_callB (call_minT rfl hr.units) (by rfl) T.n_min (by decide +kernel) (pa_cons (pv 1) pa_nil)))
(pss_cons (ps_set (i := 7) nd rfl (.inl rfl) (pe_lst (pa_cons (pe_callTy call_tuple_of (by rfl) T.n_tuple (by decide +kernel) (pa_cons (pe_lc (own := [("box", 9)]) (g := gName 9) (tt := tYes) (te := (tOp (rI0 fun i j => .int (i - j)) (tVar 9) (tVar 6))) rfl nd (pi_tup (pv 1))
(blkOk_by (N := ["plant", "boxes", "many", "count", "early", "turn", "least", "rows", "left", "box"]) (sc := defScope sLawDays) (by decide +kernel)) (fun _ _ _ _ _ => (pg_name (i := 9) nd rfl (.inl rfl))) (fun _ _ _ _ _ => pts_nil) (fun _ _ _ _ _ => (pe_op op_sub (pv 9) (pv 6)))) pa_nil)) pa_nil)))
(pss_cons (ps_while PassesOwn.never (PW.pt (pw_or (pt_cmpR op_eq (pe_callB call_len_seq (by rfl) T.n_len PySem.boot_len (pa_cons (pv 7) pa_nil)) pe_int (nomark _)) (pw_or1 (pt_cmpR (op_neD hr.units) (pe_ix ix_list (pv 7) (pe_un un_neg pe_int) (fun _ _ => rfl)) (pe_ix ix_list (pv 7) pe_int (fun _ _ => rfl)) (nomark _)))))
(pss_one (ps_expr (pe_bm PySem.F.plainAttrs_list PySem.F.slot_list_append PySem.F.type_list_append mt_append (pv 7) (pa_cons (pe_callTy call_tuple_of (by rfl) T.n_tuple (by decide +kernel) (pa_cons (pe_lc (own := [("box", 9)]) (g := gName 9) (tt := tYes) (te := (tOp (rI0 fun i j => .int (i - j)) (tVar 9) (tC (.int 1)))) rfl nd (pi_tup (pe_call (ok_soldL T) (hr.mono (by omega)) (by rfl) T.g__law_sold T.F__law_sold.kp T.b__law_sold .nil pass0 (pa_cons (pv 0) (pa_cons (pe_ix ix_list (pv 7) (pe_un un_neg pe_int) (fun _ _ => rfl)) (pa_cons pe_int pa_nil)))))
(blkOk_by (N := ["plant", "boxes", "many", "count", "early", "turn", "least", "rows", "left", "box"]) (sc := defScope sLawDays) (by decide +kernel)) (fun _ _ _ _ _ => (pg_name (i := 9) nd rfl (.inl rfl))) (fun _ _ _ _ _ => pts_nil) (fun _ _ _ _ _ => (pe_op op_sub (pv 9) pe_int))) pa_nil)) pa_nil)))))
(pss_cons (ps_set (i := 8) nd rfl (.inl rfl) (pe_op op_mod (pe_op op_sub (pv 2) (pv 4)) (pe_op op_sub (pe_callB call_len_seq (by rfl) T.n_len PySem.boot_len (pa_cons (pv 7) pa_nil)) pe_int)))
(pss_one (ps_ret (pe_callTy call_tuple_of (by rfl) T.n_tuple (by decide +kernel) (pa_cons (pe_lc (own := [("box", 9)]) (g := gName 9) (tt := tYes) (te := (tOp (rI0 fun i j => .int (i - j)) (tOp (rI0 fun i j => .int (i + j)) (tOp (rI0 fun i j => .int (i + j)) (tVar 9) (tVar 6)) (tVar 2)) (tVar 4))) rfl nd (pi_tup (pe_ix ix_list (pv 7) (pv 8) (fun _ _ => rfl)))
(blkOk_by (N := ["plant", "boxes", "many", "count", "early", "turn", "least", "rows", "left", "box"]) (sc := defScope sLawDays) (by decide +kernel)) (fun _ _ _ _ _ => (pg_name (i := 9) nd rfl (.inl rfl))) (fun _ _ _ _ _ => pts_nil) (fun _ _ _ _ _ => (pe_op op_sub (pe_op op_add (pe_op op_add (pv 9) (pv 6)) (pv 2)) (pv 4)))) pa_nil)))))))))))), ?_⟩
    have el : ((ss.map V.int).length : Nat) = pl.length + 1 := by rw [List.length_map, hs]
    refine ⟨.ref q, rfl, q, _, rfl, .inr (.inl (.inl St.S)), .int (d : Int), rfl, _, rfl, _, _, rfl, ?_⟩
    rw [el]
    obtain ⟨N, eN, hN⟩ : ∃ N : Nat, (if ((pl.length + 1 : Nat) : Int) < (d : Int) then ((pl.length + 1 : Nat) : Int) else (d : Int)) = (N : Int) ∧ N = min d (pl.length + 1) := by
      by_cases c : ((pl.length + 1 : Nat) : Int) < (d : Int)
      · rw [if_pos c]
        exact ⟨_, rfl, by omega⟩
      · rw [if_neg c]
        exact ⟨_, rfl, by omega⟩
    rw [eN]
    refine ⟨.int (N : Int), rfl, (N : Int), rfl, by omega, by omega, ?_⟩
    rw [Int.toNat_natCast]
    refine for_range (lo := 0) (n := N) (fun i σ G => ∃ (r : Addr) (y5 : Option V), σ = [some (.ref p), some (.ref r), some (.int (d : Int)), some (.int ((pl.length + 1 : Nat) : Int)), some (.int (N : Int)), y5, none, none, none, none] ∧ Same H G ∧ StAt G p r pl (dyn pl ss i))
      ⟨q, none, rfl, Same.refl H, St⟩ (fun i σ G hi p1 => ?_) (fun σ G p1 => ?_)
    · obtain ⟨r, y3, rfl, sG, SG⟩ := p1
      refine ⟨.ref p, rfl, .ref r, rfl, p, r, pl, dyn pl ss i, 0, rfl, SG, Nat.zero_le _, fun H2 r2 s2 n2 e2 => ?_⟩
      have hl := dyn_len hs hn (i + 1)
      exact ⟨r2, _, rfl, sG.trans s2, ⟨SG.P.same s2, e2, hl.1, hl.2⟩⟩
    · obtain ⟨r, y5, rfl, sG, SG⟩ := p1
      refine ⟨fun σ G2 => G = G2 ∧ pl.length + 1 < d ∧ σ = [some (.ref p), some (.ref r), some (.int (d : Int)), some (.int ((pl.length + 1 : Nat) : Int)), some (.int (N : Int)), y5, none, none, none, none], ?_, fun σ G2 pw => ?_⟩
      · refine ⟨.int (d : Int), rfl, .int (N : Int), rfl, rfl, _, rfl, ite2 (fun c => ?_) (fun c => ⟨rfl, ?_, rfl⟩)⟩
        · have c : d = N := by
            have c := V.int.inj (of_decide_eq_true c)
            omega
          refine ⟨_, rfl, k G r sG ?_⟩
          rw [c]
          exact SG.S
        · have c : ¬ d = N := fun z => c (decide_eq_true (by rw [z]))
          omega
      · obtain ⟨rfl, hd1, rfl⟩ := pw
        have eN1 : N = pl.length + 1 := by omega
        subst eN1
        have hd2 := dyn_len (pl := pl) hs hn (pl.length + 1)
        have ne : dyn pl ss (pl.length + 1) ≠ [] := fun z => by rw [z] at hd2; simp at hd2
        refine ⟨.ref r, rfl, r, _, rfl, .inl (.inl SG.S), ne, ?_⟩
        rw [mnv_late hP hs hn]
        -- the first pattern
        refine ⟨.ref r, rfl, r, rfl, ⟨_, .inl (.inl SG.S)⟩, fun D nD => ?_⟩
        have eDyn := dyn_late hP hs hn 0
        have lP : ∀ i, (pat pl ss (pl.length + 1 + i)).length = pl.length + 1 := fun i => (pat_ln hs hn _).1
        have eD0 : (dyn pl ss (pl.length + 1)).map (fun b => b - (mxv ss + 1)) = pat pl ss (pl.length + 1 + 0) := by
          rw [show dyn pl ss (pl.length + 1) = (pat pl ss (pl.length + 1 + 0)).map fun b => mxv ss + 1 + (0 : Nat) + b from eDyn, List.map_map]
          have z : (pat pl ss (pl.length + 1 + 0)).map ((fun b => b - (mxv ss + 1)) ∘ fun b => mxv ss + 1 + (0 : Nat) + b) = (pat pl ss (pl.length + 1 + 0)).map id := List.map_congr_left fun x _ => by
            show mxv ss + 1 + ((0 : Nat) : Int) + x - (mxv ss + 1) = x
            omega
          rw [z, List.map_id]
        refine lc_tup (xs := (dyn pl ss (pl.length + 1)).map V.int) (fun i G2 => Same G G2 ∧ G2 D = some (.lst ((((dyn pl ss (pl.length + 1)).map fun b => b - (mxv ss + 1)).take i).map V.int))) ⟨same_new nD, upd_same⟩ (fun i G2 _ p1 => .inl (.inl (p1.1 _ _ SG.S))) (fun i x G2 ex p1 => ?_) (fun G2 p1 => ?_)
        · obtain ⟨sG2, eD⟩ := p1
          have hi := (List.getElem?_eq_some_iff.mp ex).1
          rw [List.length_map] at hi
          rw [List.getElem?_map, List.getElem?_eq_getElem hi] at ex
          cases ex
          refine ⟨rfl, tyes_if ⟨_, rfl, _, rfl, _, _, rfl, rfl, _, eD, ?_, ?_⟩⟩
          · rw [List.length_map, List.length_take, List.length_map]
            exact small1000 (by omega)
          refine ⟨fun c o h => ?_, ?_⟩
          · rw [upd_ne (ne_of_none h nD)]
            exact sG2 _ _ h
          · rw [upd_same, take_next (l := (dyn pl ss (pl.length + 1)).map fun b => b - (mxv ss + 1)) (x := (dyn pl ss (pl.length + 1))[i] - (mxv ss + 1)) (by rw [List.getElem?_map, List.getElem?_eq_getElem hi]; rfl), List.map_append]
            rfl
        · obtain ⟨sG2, eD⟩ := p1
          rw [List.length_map, List.take_of_length_le (by rw [List.length_map]; exact Nat.le_refl _), eD0] at eD
          refine ⟨D, _, rfl, .inl ⟨.inl (.inl eD), fun t nt => ⟨(by show 1 ≤ sizeLine; decide), fun rR nR => ?_⟩⟩⟩
          have sT := same_new (o := .tup ((pat pl ss (pl.length + 1 + 0)).map V.int)) nt
          have sR := same_new (o := .lst [V.ref t]) nR
          have sA := sG2.trans (sT.trans sR)
          have nRG : G rR = none := (sG2.trans sT).free nR
          have hO0 := ordL_ok hd2.2
          have oD := ord_late hP hs hn (d := pl.length + 1) (by omega)
          obtain ⟨C, eC⟩ : ∃ C, C = cyl pl (wd pl (ordL (dyn pl ss (pl.length + 1)))) 0 := ⟨_, rfl⟩
          have C1 : 1 ≤ C := by
            rw [eC]
            exact (cyl_ok hP _ _ 0 rfl (Nat.zero_le _)).1
          have C2 : C ≤ 1000000 := by
            rw [eC]
            exact hd.2 _ (wd_ok hd2.1 hO0)
          have per : ∀ i, pat pl ss (pl.length + 1 + i) = pat pl ss (pl.length + 1 + 0) ↔ C ∣ i := fun i => by
            rw [pat_add, pat_add, eC]
            exact pat_cyc hP hd2.1 hd2.2 oD hO0 i
          refine ⟨fun m σ G' => ∃ (i : Nat) (y8 : Option V) (vs : List V), σ = [some (.ref p), some (.ref r), some (.int (d : Int)), some (.int ((pl.length + 1 : Nat) : Int)), some (.int ((pl.length + 1 : Nat) : Int)), y5, some (.int (mxv ss + 1)), some (.ref rR), y8, none] ∧ m = C - i ∧ i ≤ C ∧ Same G G' ∧ G' rR = some (.lst vs) ∧ Rw (TupOne G') vs ((List.range (i + 1)).map fun j => pat pl ss (pl.length + 1 + j)),
            ⟨_, 0, none, [.ref t], rfl, rfl, Nat.zero_le _, sA, upd_same, Rw.snoc (vs := []) (l := []) .nil ⟨t, rfl, sR _ _ upd_same⟩⟩, ?_⟩
          rintro m σ G3 ⟨i, y8, vs, rfl, rfl, iC, sG3, eR, w⟩
          have lv : vs.length = i + 1 := by
            have := w.len
            rw [List.length_map, List.length_range] at this
            exact this
          have w0 := w
          rw [List.range_succ, List.map_append] at w
          obtain ⟨us, ul, rfl, wu, al, rfl, eal⟩ := Rw.pop (l := (List.range i).map fun j => pat pl ss (pl.length + 1 + j)) (a := pat pl ss (pl.length + 1 + i)) w
          have c0 : 0 < (us ++ [V.ref al]).length := by omega
          obtain ⟨a0, ea0, ea0'⟩ := w0.at_ 0 _ (pat pl ss (pl.length + 1 + 0)) (List.getElem?_eq_getElem c0) (by rw [List.getElem?_map, List.getElem?_range (by omega)]; rfl)
          have eat0 : (us ++ [V.ref al])[0]? = some (.ref a0) := by rw [List.getElem?_eq_getElem c0, ea0]
          have hPi := pat_ln hs hn (pl := pl) (pl.length + 1 + i)
          refine ⟨.ref rR, rfl, rR, _, rfl, .inl (.inl (.inl eR)), rfl, _, rfl, ite2 (fun c => ?_) (fun c => ?_)⟩
          · have i0 : i = 0 := by
              have c := V.int.inj (of_decide_eq_true c)
              omega
            have lt : i < C := by omega
            refine iteT ?_
            refine ⟨_, fun _ _ z => z, ?_⟩
            refine ⟨.ref rR, rfl, .inl ⟨rfl, _, .inl (.inl eR)⟩, ?_⟩
            refine ⟨.ref p, rfl, .ref rR, rfl, 1, rfl, rR, _, -1, .ref al, rfl, rfl, .inl (.inl eR), atI_last us _, p, al, pl, pat pl ss (pl.length + 1 + i), 0, rfl, ⟨SG.P.same sG3, eal, hPi.1, hPi.2⟩, Nat.zero_le _, fun H4 r4 s4 n4 e4 => ?_⟩
            have dl := day_ln hPi.1 hPi.2 (Nat.zero_le pl.length)
            refine ⟨r4, rfl, ⟨_, .inl (.inl e4)⟩, fun D4 nD4 => ?_⟩
            refine lc_tup (xs := (day pl (pat pl ss (pl.length + 1 + i)) 0).2.map V.int) (fun j G5 => Same H4 G5 ∧ G5 D4 = some (.lst ((((day pl (pat pl ss (pl.length + 1 + i)) 0).2.map fun b => b - 1).take j).map V.int))) ⟨same_new nD4, upd_same⟩ (fun j G5 _ p1 => .inl (.inl (p1.1 _ _ e4))) (fun j x G5 ex p1 => ?_) (fun G5 p1 => ?_)
            · obtain ⟨sG5, eD5⟩ := p1
              have hj := (List.getElem?_eq_some_iff.mp ex).1
              rw [List.length_map] at hj
              rw [List.getElem?_map, List.getElem?_eq_getElem hj] at ex
              cases ex
              refine ⟨rfl, tyes_if ⟨_, rfl, _, 1, rfl, rfl, _, eD5, ?_, ?_⟩⟩
              · rw [List.length_map, List.length_take, List.length_map]
                exact small1000 (by omega)
              refine ⟨fun c o h => ?_, ?_⟩
              · rw [upd_ne (ne_of_none h nD4)]
                exact sG5 _ _ h
              · rw [upd_same, take_next (l := (day pl (pat pl ss (pl.length + 1 + i)) 0).2.map fun b => b - 1) (x := (day pl (pat pl ss (pl.length + 1 + i)) 0).2[j] - 1) (by rw [List.getElem?_map, List.getElem?_eq_getElem hj]; rfl), List.map_append]
                rfl
            · obtain ⟨sG5, eD5⟩ := p1
              rw [List.length_map, List.take_of_length_le (by rw [List.length_map]; exact Nat.le_refl _), pat_next hP hs hn i] at eD5
              refine ⟨D4, _, rfl, .inl ⟨.inl (.inl eD5), fun t6 nt6 => ?_⟩⟩
              have s6 := same_new (o := .tup ((pat pl ss (pl.length + 1 + (i + 1))).map V.int)) nt6
              have s46 := s4.trans (sG5.trans s6)
              have eR6 := s46 _ _ eR
              refine ⟨rR, _, .ref t6, rfl, rfl, eR6, ?_, ?_⟩
              · rw [lv, sizeLine_eq]
                omega
              have kt := kt_put' (ys := us ++ [V.ref al] ++ [.ref t6]) eR6
              refine ⟨C - (i + 1), by omega, i + 1, _, _, rfl, rfl, lt, fun c o h => ?_, upd_same, ?_⟩
              · rw [upd_ne (ne_of_none h nRG)]
                exact s46 _ _ (sG3 _ _ h)
              · rw [List.range_succ, List.map_append]
                have w1 := (w0.imp fun v a z => TupOne.kt (Same.kt s46) z).imp fun v a z => TupOne.kt kt z
                exact w1.snoc ⟨t6, rfl, kt _ _ upd_same⟩
          · refine ⟨.ref rR, rfl, 1, rfl, rR, _, -1, .ref al, rfl, rfl, .inl (.inl eR), atI_last us _, .ref rR, rfl, rR, _, 0, .ref a0, rfl, rfl, .inl (.inl eR), atI_nat (j := 0) eat0, ?_⟩
            refine ⟨.tuple ((pat pl ss (pl.length + 1 + i)).map PyData.int), .tuple ((pat pl ss (pl.length + 1 + 0)).map PyData.int), .tup (.inl (.inl eal)) (dp_ints _), .tup (.inl (.inl ea0')) (dp_ints _), shaped_tints _, shaped_tints _, _, rfl, ?_⟩
            rw [eqvT2]
            have i1 : 1 ≤ i := by
              have c : ¬ _ := fun z => c (decide_eq_true (congrArg V.int z))
              omega
            by_cases dv : C ∣ i
            · rw [decide_eq_true ((per i).mpr dv)]
              have iE : i = C := Nat.le_antisymm iC (Nat.le_of_dvd i1 dv)
              subst iE
              refine iteF ?_
              obtain ⟨M, eM⟩ : ∃ M, M = d - (pl.length + 1) := ⟨_, rfl⟩
              have lm : M % i < i := Nat.mod_lt _ C1
              have per2 : pat pl ss (pl.length + 1 + M) = pat pl ss (pl.length + 1 + M % i) := by
                rw [pat_add, pat_add]
                have f1 := dyn_len (pl := pl) hd2.1 hd2.2 (i * (M / i) + M % i)
                have f2 := dyn_len (pl := pl) hd2.1 hd2.2 (M % i)
                have z := cyc_order hP hd2.1 hd2.2 oD hO0 (k := i * (M / i)) (e := M % i) (by rw [← eC]; exact Nat.dvd_mul_right _ _) (ordL_ok f2.2) (ordL_ok f1.2)
                rw [Nat.div_add_mod] at z
                unfold pat
                rw [z]
              have e1 : ((d : Int) - ((pl.length + 1 : Nat) : Int)) % ((((us ++ [V.ref al]).length : Nat) : Int) - 1) = ((M % i : Nat) : Int) := by
                rw [lv, show (d : Int) - ((pl.length + 1 : Nat) : Int) = (M : Int) by omega, show (((i + 1 : Nat) : Int) - 1) = (i : Int) by omega]
                rfl
              refine ⟨.int (d : Int), rfl, _, rfl, _, _, rfl, rfl, .ref rR, rfl, rR, _, rfl, .inl (.inl (.inl eR)), _, 1, rfl, rfl, _, _, rfl, rfl, (by rw [lv]; omega), ?_⟩
              dsimp only
              rw [e1]
              have cx : M % i < (us ++ [V.ref al]).length := by omega
              obtain ⟨ax, eax, eax'⟩ := w0.at_ (M % i) _ (pat pl ss (pl.length + 1 + M % i)) (List.getElem?_eq_getElem cx) (by rw [List.getElem?_map, List.getElem?_range (by omega)]; rfl)
              have eatx : (us ++ [V.ref al])[M % i]? = some (.ref ax) := by rw [List.getElem?_eq_getElem cx, eax]
              refine ⟨.ref rR, rfl, .int ((M % i : Nat) : Int), rfl, rR, _, ((M % i : Nat) : Int), .ref ax, rfl, rfl, .inl (.inl eR), atI_nat eatx, ax, rfl, ⟨_, .inl (.inl eax')⟩, fun D5 nD5 => ?_⟩
              obtain ⟨cst, ecst⟩ : ∃ f : Int → Int, f = fun b => b + (mxv ss + 1) + (d : Int) - ((pl.length + 1 : Nat) : Int) := ⟨_, rfl⟩
              refine lc_tup (xs := (pat pl ss (pl.length + 1 + M % i)).map V.int) (fun j G5 => Same G3 G5 ∧ G5 D5 = some (.lst ((((pat pl ss (pl.length + 1 + M % i)).map cst).take j).map V.int))) ⟨same_new nD5, upd_same⟩ (fun j G5 _ p1 => .inl (.inl (p1.1 _ _ eax'))) (fun j x G5 ex p1 => ?_) (fun G5 p1 => ?_)
              · obtain ⟨sG5, eD5⟩ := p1
                have hj := (List.getElem?_eq_some_iff.mp ex).1
                rw [List.length_map] at hj
                rw [List.getElem?_map, List.getElem?_eq_getElem hj] at ex
                cases ex
                refine ⟨rfl, tyes_if ⟨_, rfl, _, rfl, _, _, rfl, rfl, _, rfl, _, _, rfl, rfl, _, rfl, _, _, rfl, rfl, _, eD5, ?_, ?_⟩⟩
                · have := lP (M % i)
                  rw [List.length_map, List.length_take, List.length_map]
                  exact small1000 (by omega)
                refine ⟨fun c o h => ?_, ?_⟩
                · rw [upd_ne (ne_of_none h nD5)]
                  exact sG5 _ _ h
                · rw [upd_same, take_next (l := (pat pl ss (pl.length + 1 + M % i)).map cst) (x := cst ((pat pl ss (pl.length + 1 + M % i))[j])) (by rw [List.getElem?_map, List.getElem?_eq_getElem hj]; rfl), List.map_append, ecst]
                  rfl
              · obtain ⟨sG5, eD5⟩ := p1
                rw [List.length_map, List.take_of_length_le (by rw [List.length_map]; exact Nat.le_refl _)] at eD5
                refine ⟨D5, _, rfl, .inl ⟨.inl (.inl eD5), fun t6 nt6 => ?_⟩⟩
                refine k _ t6 (sG.trans (sG3.trans (sG5.trans (same_new nt6)))) ?_
                rw [upd_same, show d = pl.length + 1 + M by omega, dyn_late hP hs hn M, per2, ecst]
                congr 3
                refine List.map_congr_left fun x _ => ?_
                omega
            · rw [decide_eq_false fun z => dv ((per i).mp z)]
              have lt : i < C := by
                rcases Nat.lt_or_ge i C with z | z
                · exact z
                · exact absurd (by rw [Nat.le_antisymm iC z]; exact Nat.dvd_refl C : C ∣ i) dv
              refine iteT ?_
              refine ⟨_, fun _ _ z => z, ?_⟩
              refine ⟨.ref rR, rfl, .inl ⟨rfl, _, .inl (.inl eR)⟩, ?_⟩
              refine ⟨.ref p, rfl, .ref rR, rfl, 1, rfl, rR, _, -1, .ref al, rfl, rfl, .inl (.inl eR), atI_last us _, p, al, pl, pat pl ss (pl.length + 1 + i), 0, rfl, ⟨SG.P.same sG3, eal, hPi.1, hPi.2⟩, Nat.zero_le _, fun H4 r4 s4 n4 e4 => ?_⟩
              have dl := day_ln hPi.1 hPi.2 (Nat.zero_le pl.length)
              refine ⟨r4, rfl, ⟨_, .inl (.inl e4)⟩, fun D4 nD4 => ?_⟩
              refine lc_tup (xs := (day pl (pat pl ss (pl.length + 1 + i)) 0).2.map V.int) (fun j G5 => Same H4 G5 ∧ G5 D4 = some (.lst ((((day pl (pat pl ss (pl.length + 1 + i)) 0).2.map fun b => b - 1).take j).map V.int))) ⟨same_new nD4, upd_same⟩ (fun j G5 _ p1 => .inl (.inl (p1.1 _ _ e4))) (fun j x G5 ex p1 => ?_) (fun G5 p1 => ?_)
              · obtain ⟨sG5, eD5⟩ := p1
                have hj := (List.getElem?_eq_some_iff.mp ex).1
                rw [List.length_map] at hj
                rw [List.getElem?_map, List.getElem?_eq_getElem hj] at ex
                cases ex
                refine ⟨rfl, tyes_if ⟨_, rfl, _, 1, rfl, rfl, _, eD5, ?_, ?_⟩⟩
                · rw [List.length_map, List.length_take, List.length_map]
                  exact small1000 (by omega)
                refine ⟨fun c o h => ?_, ?_⟩
                · rw [upd_ne (ne_of_none h nD4)]
                  exact sG5 _ _ h
                · rw [upd_same, take_next (l := (day pl (pat pl ss (pl.length + 1 + i)) 0).2.map fun b => b - 1) (x := (day pl (pat pl ss (pl.length + 1 + i)) 0).2[j] - 1) (by rw [List.getElem?_map, List.getElem?_eq_getElem hj]; rfl), List.map_append]
                  rfl
              · obtain ⟨sG5, eD5⟩ := p1
                rw [List.length_map, List.take_of_length_le (by rw [List.length_map]; exact Nat.le_refl _), pat_next hP hs hn i] at eD5
                refine ⟨D4, _, rfl, .inl ⟨.inl (.inl eD5), fun t6 nt6 => ?_⟩⟩
                have s6 := same_new (o := .tup ((pat pl ss (pl.length + 1 + (i + 1))).map V.int)) nt6
                have s46 := s4.trans (sG5.trans s6)
                have eR6 := s46 _ _ eR
                refine ⟨rR, _, .ref t6, rfl, rfl, eR6, ?_, ?_⟩
                · rw [lv, sizeLine_eq]
                  omega
                have kt := kt_put' (ys := us ++ [V.ref al] ++ [.ref t6]) eR6
                refine ⟨C - (i + 1), by omega, i + 1, _, _, rfl, rfl, lt, fun c o h => ?_, upd_same, ?_⟩
                · rw [upd_ne (ne_of_none h nRG)]
                  exact s46 _ _ (sG3 _ _ h)
                · rw [List.range_succ, List.map_append]
                  have w1 := (w0.imp fun v a z => TupOne.kt (Same.kt s46) z).imp fun v a z => TupOne.kt kt z
                  exact w1.snoc ⟨t6, rfl, kt _ _ upd_same⟩
end
end PT


set_option maxHeartbeats 4000000
/-! a step as the law does it -/
namespace PT
open PySem PySem.Spec PyProof.Rows L2 LamX NdefX
section
variable {P : Program} {w : World} {K : PySem.W.Frag} {mg : Str → Option Value} {base : Heap}
/-- the answer, and the state behind it -/
def spStep (T : Tx K mg) : Sp := fun vs H Q _ => ∃ (s p q : Addr) (pl ss : List Int) (o : V) (n : Opn) (g : Nat) (m : Int), vs = [.ref s, o] ∧ H s = some (.tup [.ref p, .ref q]) ∧ StAt H p q pl ss ∧ OpAt H o n.op ∧ n.ok pl g m ∧ m ≤ 40 ∧ (∀ d, n = .days d → daysOkL pl d) ∧
  ∀ (H' : Hp) (t s2 p2 q2 : Addr), Same H H' → H' t = some (.tup [n.ans ss, .ref s2]) → H' s2 = some (.tup [.ref p2, .ref q2]) → StAt H' p2 q2 (n.pl pl) (n.ss pl ss) → Q (.ref t) H'
theorem ok_step (T : Tx K mg) : FnOk P w K mg base CX0 3 T.f__law_step T.d__law_step ["state", "operation"] (spStep T) := by
  refine T.F__law_step.ok scLawStep (fun vs H Q E h => ?_) (fun cdv A outer s0 H vs Q E hr h => ?_)
  · obtain ⟨s, p, q, pl, ss, o, n, g, m, rfl, _⟩ := h
    rfl
  · obtain ⟨s, p, q, pl, ss, o, n, g, m, rfl, es, St, ho, hk, hm, hdy, k⟩ := h
    have nd := scLawStep.nd
    refine ⟨_, (pss_cons (ps_asg (pv 0) (pg_tup (by rfl) (pgs_cons (pg_name (i := 2) nd rfl (.inl rfl)) (pgs_cons (pg_name (i := 3) nd rfl (.inl rfl)) pgs_nil))))
(pss_cons (ps_if (pt_cmpR op_eq (pe_ix ix_tup (pv 1) pe_int (fun _ _ => rfl)) pe_str (nomark _))
(pss_one (ps_ret (pe_tup (pa_cons (pe_ix ix_tup (pv 3) pe_int (fun _ _ => rfl)) (pa_cons (pe_tup (pa_cons (pv 2) (pa_cons (pe_call (ok_soldL T) (hr.mono (by omega)) (by rfl) T.g__law_sold T.F__law_sold.kp T.b__law_sold .nil pass0 (pa_cons (pv 2) (pa_cons (pv 3) (pa_cons pe_int pa_nil)))) pa_nil))) pa_nil))))) pss_nil)
(pss_cons (ps_if (pt_cmpR op_eq (pe_ix ix_tup (pv 1) pe_int (fun _ _ => rfl)) pe_str (nomark _))
(pss_one (ps_ret (pe_tup (pa_cons pe_non (pa_cons (pe_tup (pa_cons (pv 2) (pa_cons (pe_call (ok_daysL T) (hr.mono (by omega)) (by rfl) T.g__law_days T.F__law_days.kp T.b__law_days .nil pass0 (pa_cons (pv 2) (pa_cons (pv 3) (pa_cons (pe_ix ix_tup (pv 1) pe_int (fun _ _ => rfl)) pa_nil)))) pa_nil))) pa_nil))))) pss_nil)
(pss_cons (ps_if (pt_cmpR op_eq (pe_ix ix_tup (pv 1) pe_int (fun _ _ => rfl)) pe_str (nomark _))
(pss_one (ps_ret (pe_tup (pa_cons (pe_ix ix_tup (pv 3) (pe_ix ix_tup (pv 1) pe_int (fun _ _ => rfl)) (fun _ _ => rfl)) (pa_cons (pe_tup (pa_cons (pv 2) (pa_cons (pe_call (ok_soldL T) (hr.mono (by omega)) (by rfl) T.g__law_sold T.F__law_sold.kp T.b__law_sold .nil pass0 (pa_cons (pv 2) (pa_cons (pv 3) (pa_cons (pe_ix ix_tup (pv 1) pe_int (fun _ _ => rfl)) pa_nil)))) pa_nil))) pa_nil))))) pss_nil)
(pss_cons (ps_if (pt_cmpR op_eq (pe_ix ix_tup (pv 1) pe_int (fun _ _ => rfl)) pe_str (nomark _))
(pss_one (ps_ret (pe_tup (pa_cons pe_non (pa_cons (pe_tup (pa_cons (pe_op op_catT (pv 2) (pe_slice sl_tupT (pv 1) (po_some pe_int) po_none)) (pa_cons (pe_op op_catT (pv 3) (pe_tup (pa_cons (pe_op op_add (pe_callB (call_maxT rfl hr.units) (by rfl) T.n_max (by decide +kernel) (pa_cons (pv 3) pa_nil)) pe_int) pa_nil))) pa_nil))) pa_nil))))) pss_nil)
(pss_one (ps_ret (pe_tup (pa_cons pe_non (pa_cons (pe_tup (pa_cons (pe_slice sl_tupT (pv 2) po_none (po_some (pe_un un_neg pe_int))) (pa_cons (pe_slice sl_tupT (pv 3) po_none (po_some (pe_un un_neg pe_int))) pa_nil))) pa_nil)))))))))), ?_⟩
    obtain ⟨a, rfl, ea⟩ := ho
    have hs := St.ls
    have hne : ss ≠ [] := fun z => by rw [z] at hs; simp at hs
    refine ⟨.ref s, rfl, s, _, rfl, .inl (.inl es), rfl, _, _, rfl, _, _, rfl, rfl, ?_⟩
    cases n with
    | day =>
      refine ⟨.ref a, rfl, a, _, 0, .str "day", rfl, rfl, .inl (.inl ea), atI_nat (j := 0) rfl, rfl, _, rfl, ?_⟩
      rw [decide_eq_true rfl]
      refine iteT ?_
      refine ⟨.ref q, rfl, q, _, 0, .int (bx ss 0), rfl, rfl, .inl (.inl St.S), ?_, ?_⟩
      · exact atI_nat (by rw [List.getElem?_map, bx_at (k := 0) (by omega)]; rfl)
      refine ⟨.ref p, rfl, .ref p, rfl, .ref q, rfl, p, q, pl, ss, 0, rfl, St, Nat.zero_le _, fun H2 r2 s2 n2 e2 => ⟨(by show 2 ≤ sizeLine; decide), fun u nu => ⟨(by show 2 ≤ sizeLine; decide), fun t nt => ?_⟩⟩⟩
      have s3 := same_new (o := .tup [V.ref p, .ref r2]) nu
      have s4 := same_new (o := .tup [V.int (bx ss 0), .ref u]) nt
      have hd := day_ln hs St.nd (Nat.zero_le pl.length)
      exact k _ t u p r2 (s2.trans (s3.trans s4)) upd_same (s4 _ _ upd_same) ⟨St.P.same (s2.trans (s3.trans s4)), s4 _ _ (s3 _ _ e2), hd.1, hd.2⟩
    | days d =>
      refine ⟨.ref a, rfl, a, _, 0, .str "days", rfl, rfl, .inl (.inl ea), atI_nat (j := 0) rfl, rfl, _, rfl, ?_⟩
      rw [s1_]
      refine iteF ?_
      refine ⟨.ref a, rfl, a, _, 0, .str "days", rfl, rfl, .inl (.inl ea), atI_nat (j := 0) rfl, rfl, _, rfl, ?_⟩
      rw [decide_eq_true rfl]
      refine iteT ?_
      refine ⟨.ref p, rfl, .ref p, rfl, .ref q, rfl, .ref a, rfl, a, _, 1, .int (d : Int), rfl, rfl, .inl (.inl ea), atI_nat (j := 1) rfl, p, q, pl, ss, d, rfl, St, hdy d rfl, fun H2 r2 s2 e2 => ⟨(by show 2 ≤ sizeLine; decide), fun u nu => ⟨(by show 2 ≤ sizeLine; decide), fun t nt => ?_⟩⟩⟩
      have s3 := same_new (o := .tup [V.ref p, .ref r2]) nu
      have s4 := same_new (o := .tup [V.non, .ref u]) nt
      have hd := dyn_len hs St.nd d
      exact k _ t u p r2 (s2.trans (s3.trans s4)) upd_same (s4 _ _ upd_same) ⟨St.P.same (s2.trans (s3.trans s4)), s4 _ _ (s3 _ _ e2), hd.1, hd.2⟩
    | sell j =>
      have hj : j ≤ pl.length := hk
      refine ⟨.ref a, rfl, a, _, 0, .str "sell", rfl, rfl, .inl (.inl ea), atI_nat (j := 0) rfl, rfl, _, rfl, ?_⟩
      rw [s2_]
      refine iteF ?_
      refine ⟨.ref a, rfl, a, _, 0, .str "sell", rfl, rfl, .inl (.inl ea), atI_nat (j := 0) rfl, rfl, _, rfl, ?_⟩
      rw [s5_]
      refine iteF ?_
      refine ⟨.ref a, rfl, a, _, 0, .str "sell", rfl, rfl, .inl (.inl ea), atI_nat (j := 0) rfl, rfl, _, rfl, ?_⟩
      rw [decide_eq_true rfl]
      refine iteT ?_
      refine ⟨.ref q, rfl, .ref a, rfl, a, _, 1, .int (j : Int), rfl, rfl, .inl (.inl ea), atI_nat (j := 1) rfl, q, _, (j : Int), .int (bx ss j), rfl, rfl, .inl (.inl St.S), ?_, ?_⟩
      · exact atI_nat (by rw [List.getElem?_map, bx_at (by omega)]; rfl)
      refine ⟨.ref p, rfl, .ref p, rfl, .ref q, rfl, .ref a, rfl, a, _, 1, .int (j : Int), rfl, rfl, .inl (.inl ea), atI_nat (j := 1) rfl, p, q, pl, ss, j, rfl, St, hj, fun H2 r2 s2 n2 e2 => ⟨(by show 2 ≤ sizeLine; decide), fun u nu => ⟨(by show 2 ≤ sizeLine; decide), fun t nt => ?_⟩⟩⟩
      have s3 := same_new (o := .tup [V.ref p, .ref r2]) nu
      have s4 := same_new (o := .tup [V.int (bx ss j), .ref u]) nt
      have hd := day_ln hs St.nd hj
      exact k _ t u p r2 (s2.trans (s3.trans s4)) upd_same (s4 _ _ upd_same) ⟨St.P.same (s2.trans (s3.trans s4)), s4 _ _ (s3 _ _ e2), hd.1, hd.2⟩
    | add j =>
      have lp : pl.length + 1 ≤ 39 := by have := hk.2; omega
      refine ⟨.ref a, rfl, a, _, 0, .str "add", rfl, rfl, .inl (.inl ea), atI_nat (j := 0) rfl, rfl, _, rfl, ?_⟩
      rw [s3_]
      refine iteF ?_
      refine ⟨.ref a, rfl, a, _, 0, .str "add", rfl, rfl, .inl (.inl ea), atI_nat (j := 0) rfl, rfl, _, rfl, ?_⟩
      rw [s6_]
      refine iteF ?_
      refine ⟨.ref a, rfl, a, _, 0, .str "add", rfl, rfl, .inl (.inl ea), atI_nat (j := 0) rfl, rfl, _, rfl, ?_⟩
      rw [s8_]
      refine iteF ?_
      refine ⟨.ref a, rfl, a, _, 0, .str "add", rfl, rfl, .inl (.inl ea), atI_nat (j := 0) rfl, rfl, _, rfl, ?_⟩
      rw [decide_eq_true rfl]
      refine iteT ?_
      refine ⟨.ref p, rfl, .ref a, rfl, 1, rfl, ?_⟩
      dsimp only [tNoPart]
      refine slT_any ea fun a2 H2 s2 e2 => ?_
      have e2 : H2 a2 = some (.tup [V.int (j : Int)]) := e2
      refine catT_any (xs := pl.map V.int) (ys := [.int (j : Int)]) (s2 _ _ St.P.at_) e2 (by rw [List.length_map]; show _ + 1 ≤ _; omega) fun p2 H3 s3 e3 => ?_
      have s13 := s2.trans s3
      refine ⟨.ref q, rfl, .ref q, rfl, q, ss, rfl, .inl (.inl (s13 _ _ St.S)), hne, _, _, rfl, rfl, (by show 1 ≤ sizeLine; decide), fun o5 no5 => ?_⟩
      have s5 := same_new (o := .tup [V.int (mxv ss + 1)]) no5
      refine catT_any (xs := ss.map V.int) (ys := [.int (mxv ss + 1)]) (s5 _ _ (s13 _ _ St.S)) upd_same (by rw [List.length_map]; show _ + 1 ≤ _; omega) fun q2 H4 s6 e6 => ?_
      have s14 := s13.trans (s5.trans s6)
      refine ⟨(by show 2 ≤ sizeLine; decide), fun u nu => ⟨(by show 2 ≤ sizeLine; decide), fun t nt => ?_⟩⟩
      have s7 := (same_new (o := .tup [V.ref p2, .ref q2]) nu).trans (same_new (o := .tup [V.non, .ref u]) nt)
      refine k _ t u p2 q2 (s14.trans s7) upd_same ((same_new (o := .tup [V.non, .ref u]) nt) _ _ upd_same) ⟨⟨s7 _ _ (s6 _ _ (s5 _ _ (by rw [e3]; show _ = some (HO.tup ((pl ++ [(j : Int)]).map V.int)); rw [List.map_append]; rfl))), plant_snoc St.P.ok hk.1 lp⟩, s7 _ _ (by rw [e6]; show _ = some (HO.tup ((ss ++ [mxv ss + 1]).map V.int)); rw [List.map_append]; rfl), ?_, nd_snoc St.nd⟩
      show (ss ++ [mxv ss + 1]).length = (pl ++ [(j : Int)]).length + 1
      rw [List.length_append, List.length_append, hs]
      rfl
    | rem =>
      have h1 : 1 ≤ pl.length := hk
      refine ⟨.ref a, rfl, a, _, 0, .str "remove", rfl, rfl, .inl (.inl ea), atI_nat (j := 0) rfl, rfl, _, rfl, ?_⟩
      rw [s4_]
      refine iteF ?_
      refine ⟨.ref a, rfl, a, _, 0, .str "remove", rfl, rfl, .inl (.inl ea), atI_nat (j := 0) rfl, rfl, _, rfl, ?_⟩
      rw [s7_]
      refine iteF ?_
      refine ⟨.ref a, rfl, a, _, 0, .str "remove", rfl, rfl, .inl (.inl ea), atI_nat (j := 0) rfl, rfl, _, rfl, ?_⟩
      rw [s9_]
      refine iteF ?_
      refine ⟨.ref a, rfl, a, _, 0, .str "remove", rfl, rfl, .inl (.inl ea), atI_nat (j := 0) rfl, rfl, _, rfl, ?_⟩
      rw [s10_]
      refine iteF ?_
      refine ⟨.ref p, rfl, 1, rfl, _, rfl, ?_⟩
      refine slT_any St.P.at_ fun p2 H2 s2 e2 => ?_
      refine ⟨.ref q, rfl, 1, rfl, _, rfl, ?_⟩
      refine slT_any (s2 _ _ St.S) fun q2 H3 s3 e3 => ?_
      rw [cut_back] at e2 e3
      refine ⟨(by show 2 ≤ sizeLine; decide), fun u nu => ⟨(by show 2 ≤ sizeLine; decide), fun t nt => ?_⟩⟩
      have s7 := (same_new (o := .tup [V.ref p2, .ref q2]) nu).trans (same_new (o := .tup [V.non, .ref u]) nt)
      refine k _ t u p2 q2 (s2.trans (s3.trans s7)) upd_same ((same_new (o := .tup [V.non, .ref u]) nt) _ _ upd_same) ⟨⟨s7 _ _ (s3 _ _ e2), plant_cut St.P.ok _⟩, s7 _ _ e3, ?_, St.nd.sublist (List.take_sublist _ _)⟩
      show (ss.take (ss.length - 1)).length = (pl.take (pl.length - 1)).length + 1
      rw [List.length_take, List.length_take, hs]
      omega
end
end PT


set_option maxHeartbeats 4000000
/-! operations as rows; undo on a console (law 56) -/
namespace PT
open PySem PySem.Spec PyProof.Rows L2 L2H HotX LamX NdefX TL
def rStrB : List V → Hp → VK → Prop := fun xs H Q => (∃ a, xs = [.str a] ∧ Q (.str a) H) ∨ ∃ i, xs = [.int i] ∧ i.natAbs.log2 < 1920 ∧ Q (.str (toString i)) H
theorem call_strB {X : Cx} : CallR X (.type "str") rStrB := CallR.or SkE.call_str_str call_str_int
def opRow (n : Opn) : Str := Txt.join spT (partsT n)
theorem opn_few (n : Opn) : n.op.2.length ≤ 10 := by
  cases n with
  | day => decide
  | days d => show 1 ≤ 10; decide
  | sell j => show 1 ≤ 10; decide
  | add j => show 1 ≤ 10; decide
  | rem => decide
theorem opn_small {n : Opn} {pl : List Int} {m : Int} (h : n.ok pl (10 ^ 30) m) (lp : pl.length ≤ 39) : ∀ i ∈ n.op.2, i.natAbs < 10 ^ 50 := fun i hi => by
  cases n with
  | day => cases hi
  | rem => cases hi
  | days d =>
    rw [List.mem_singleton.mp (show i ∈ [(d : Int)] from hi)]
    have := h.2
    omega
  | sell j =>
    rw [List.mem_singleton.mp (show i ∈ [(j : Int)] from hi)]
    have h2 : j ≤ pl.length := h
    omega
  | add j =>
    rw [List.mem_singleton.mp (show i ∈ [(j : Int)] from hi)]
    have h2 : j ≤ pl.length := h.1
    omega
theorem opn_name (n : Opn) : n.op.1.length ≤ 60 := by
  cases n with
  | day => exact (by decide +kernel : (Str.ofString "day").length ≤ 60)
  | rem => exact (by decide +kernel : (Str.ofString "remove").length ≤ 60)
  | days d => exact (by decide +kernel : (Str.ofString "days").length ≤ 60)
  | sell j => exact (by decide +kernel : (Str.ofString "sell").length ≤ 60)
  | add j => exact (by decide +kernel : (Str.ofString "add").length ≤ 60)
section
variable {P : Program} {w : World} {K : PySem.W.Frag} {mg : Str → Option Value} {base : Heap}
def spRow : Sp := fun vs H Q _ => ∃ (o : V) (n : Opn) (pl : List Int) (m : Int), vs = [o] ∧ OpAt H o n.op ∧ n.ok pl (10 ^ 30) m ∧ pl.length ≤ 39 ∧ ∀ H', Same H H' → Q (.str (opRow n)) H'
theorem ok_row (T : Tx K mg) : FnOk P w K mg base CX0 1 T.f__law_row T.d__law_row ["operation"] spRow := by
  refine T.F__law_row.ok scLawRow (fun vs H Q E h => ?_) (fun cdv A outer s H vs Q E hr h => ?_)
  · obtain ⟨o, n, pl, m, rfl, _⟩ := h
    rfl
  · obtain ⟨o, n, pl, m, rfl, ⟨a, rfl, ea⟩, hk, lp, k⟩ := h
    have nd := scLawRow.nd
    refine ⟨_, (pss_one (ps_ret (pe_bm PySem.F.plainAttrs_str PySem.F.slot_str_join PySem.F.type_str_join mt_join pe_str (pa_cons (pe_lc (own := [("part", 1)]) (g := gName 1) (tt := tYes) (te := (tCB rStrB (tCons (tVar 1) tNil))) rfl nd (pi_tup (pv 0))
(blkOk_by (N := ["operation", "part"]) (sc := defScope sLawRow) (by decide +kernel)) (fun _ _ _ _ _ => (pg_name (i := 1) nd rfl (.inl rfl))) (fun _ _ _ _ _ => pts_nil) (fun _ _ _ _ _ => (pe_callTy call_strB (by rfl) T.n_str (by decide +kernel) (pa_cons (pv 1) pa_nil)))) pa_nil)))), ?_⟩
    refine ⟨rfl, .ref a, rfl, a, rfl, ⟨_, .inl (.inl ea)⟩, fun D nD => ?_⟩
    have sm := opn_small hk lp
    have few := opn_few n
    refine lc_tup (xs := .str n.op.1 :: n.op.2.map V.int) (fun i G => Same H G ∧ G D = some (.lst (((partsT n).take i).map V.str))) ⟨same_new nD, upd_same⟩ (fun i G _ p1 => .inl (.inl (p1.1 _ _ ea))) (fun i v G ev p1 => ?_) (fun G p1 => ?_)
    · obtain ⟨sG, eD⟩ := p1
      have hl : (partsT n).length ≤ 11 := by
        unfold partsT
        rw [List.length_cons, List.length_map]
        omega
      cases i with
      | zero =>
        cases ev
        refine ⟨rfl, tyes_if ⟨.str n.op.1, rfl, .inl ⟨_, rfl, _, eD, ?_, fun c' o h => (upd_ne (ne_of_none h nD)).trans (sG _ _ h), ?_⟩⟩⟩
        · rw [List.length_map, List.length_take]
          exact small300 (by omega)
        · rw [upd_same]
          rfl
      | succ i =>
        have ev : (n.op.2.map V.int)[i]? = some v := ev
        rw [List.getElem?_map] at ev
        obtain ⟨j, ej, rfl⟩ := Option.map_eq_some_iff.mp ev
        have ep : (partsT n)[i + 1]? = some (numT j) := by
          show (n.op.2.map numT)[i]? = _
          rw [List.getElem?_map, ej]
          rfl
        refine ⟨rfl, tyes_if ⟨.int j, rfl, .inr ⟨j, rfl, numT_log (sm j (List.mem_of_getElem? ej)), _, eD, ?_, fun c' o h => (upd_ne (ne_of_none h nD)).trans (sG _ _ h), ?_⟩⟩⟩
        · rw [List.length_map, List.length_take]
          exact small300 (by omega)
        · rw [upd_same, take_next ep, List.map_append]
          rfl
    · obtain ⟨sG, eD⟩ := p1
      have hl : (partsT n).length = n.op.2.length + 1 := by
        unfold partsT
        rw [List.length_cons, List.length_map]
      rw [List.length_cons, List.length_map, ← hl, List.take_length] at eD
      have big := sum_le (B := 60) (ys := partsT n) (fun y hy => by
        rcases List.mem_cons.mp hy with rfl | hy
        · exact opn_name n
        · obtain ⟨i, hi, rfl⟩ := List.mem_map.mp hy
          exact numT_len (sm i hi))
      refine ⟨spT, D, partsT n, rfl, rfl, .inl (.inl (.inl eD)), ?_, k G sG⟩
      rw [show spT.length = 1 by decide +kernel]
      omega
end
end PT


set_option maxHeartbeats 4000000
/-! undo on a console, with the law's own states (law 56) -/
namespace PT
open PySem PySem.Spec PyProof.Rows L2 L2H HotX LamX NdefX TL
theorem pre_ne {a b : Nat} {S l : List Nat} (h : a ≠ b) : pre (a :: S) (b :: l) = false := by
  simp only [pre, List.length_cons, List.take_succ_cons]
  refine beq_false_of_ne fun e => h ?_
  exact (List.cons.inj e).1.symm
theorem tl_name (n : Opn) : ∃ c r, tl n.op.1 = c :: r ∧ c ≠ 111 ∧ (32 ∉ tl n.op.1 ∧ 10 ∉ tl n.op.1) := by
  cases n with
  | day =>
    have z : tl (Str.ofString "day") = [100, 97, 121] := tl_lit (by decide)
    exact ⟨100, _, z, by decide, by show 32 ∉ tl (Str.ofString "day") ∧ 10 ∉ tl (Str.ofString "day"); rw [z]; decide⟩
  | rem =>
    have z : tl (Str.ofString "remove") = [114, 101, 109, 111, 118, 101] := tl_lit (by decide)
    exact ⟨114, _, z, by decide, by show 32 ∉ tl (Str.ofString "remove") ∧ 10 ∉ tl (Str.ofString "remove"); rw [z]; decide⟩
  | days d =>
    have z : tl (Str.ofString "days") = [100, 97, 121, 115] := tl_lit (by decide)
    exact ⟨100, _, z, by decide, by show 32 ∉ tl (Str.ofString "days") ∧ 10 ∉ tl (Str.ofString "days"); rw [z]; decide⟩
  | sell j =>
    have z : tl (Str.ofString "sell") = [115, 101, 108, 108] := tl_lit (by decide)
    exact ⟨115, _, z, by decide, by show 32 ∉ tl (Str.ofString "sell") ∧ 10 ∉ tl (Str.ofString "sell"); rw [z]; decide⟩
  | add j =>
    have z : tl (Str.ofString "add") = [97, 100, 100] := tl_lit (by decide)
    exact ⟨97, _, z, by decide, by show 32 ∉ tl (Str.ofString "add") ∧ 10 ∉ tl (Str.ofString "add"); rw [z]; decide⟩
/-- an operation's row is one that the console takes apart -/
theorem row_ok {n : Opn} {pl : List Int} {m : Int} (h : n.ok pl (10 ^ 30) m) (lp : pl.length ≤ 39) : partsT n ≠ [] ∧ (∀ y ∈ partsT n, 32 ∉ tl y ∧ 10 ∉ tl y) ∧ Txt.startswith (opRow n) opT = false ∧ (opRow n).length ≤ 5000 := by
  have sm := opn_small h lp
  have few := opn_few n
  obtain ⟨c, r, ez, ec, fr⟩ := tl_name n
  refine ⟨fun z => (by cases z), fun y hy => ?_, ?_, ?_⟩
  · rcases List.mem_cons.mp hy with rfl | hy
    · exact fr
    · obtain ⟨i, _, rfl⟩ := List.mem_map.mp hy
      exact ⟨numT_free (.inl (by decide)), numT_free (.inl (by decide))⟩
  · unfold opRow
    rw [starts_tl, join_eq, tl_join, tl_op]
    have key : ∃ r2, joinL (tl spT) ((partsT n).map tl) = c :: r2 := by
      unfold partsT
      rw [List.map_cons, ez]
      cases (n.op.2.map numT).map tl with
      | nil => exact ⟨_, rfl⟩
      | cons u v => exact ⟨_, rfl⟩
    obtain ⟨r2, e2⟩ := key
    rw [e2]
    exact pre_ne (Ne.symm ec)
  · have big := sum_le (B := 60) (ys := partsT n) (fun y hy => by
      rcases List.mem_cons.mp hy with rfl | hy
      · exact opn_name n
      · obtain ⟨i, hi, rfl⟩ := List.mem_map.mp hy
        exact numT_len (sm i hi))
    have hl : (partsT n).length ≤ 11 := by
      unfold partsT
      rw [List.length_cons, List.length_map]
      omega
    have jl : ∀ ys : List Str, (Txt.join spT ys).length ≤ (ys.map (·.length)).sum + ys.length := by
      intro ys
      rw [join_eq, TL.len_tl, tl_join, tl_sp]
      induction ys with
      | nil => exact Nat.zero_le _
      | cons a r ih =>
        cases r with
        | nil =>
          show (tl a).length ≤ a.length + 0 + 1
          rw [TL.len_tl]
          omega
        | cons b r =>
          show (tl a ++ ([32] ++ joinL [32] ((b :: r).map tl))).length ≤ a.length + ((b :: r).map (·.length)).sum + ((b :: r).length + 1)
          rw [List.length_append, List.length_append, TL.len_tl a]
          have z : [32].length = 1 := rfl
          omega
    have := jl (partsT n)
    unfold opRow
    omega
theorem kt_put56 {G : Hp} {l : Addr} {xs ys : List V} (e : G l = some (.lst xs)) : KT G (upd G l (.lst ys)) := fun c zs h => by
  rw [upd_ne (ne_of h e (by intro z; cases z))]
  exact h
section
variable {P : Program} {w : World} {K : PySem.W.Frag} {mg : Str → Option Value} {base : Heap}
def spUndone (T : Tx K mg) : Sp := fun vs H Q _ => ∃ (c x r p q sR : Addr) (pl ss : List Int), vs = [.ref c, .ref sR] ∧ CoAt T H c (.ref x) ∧ sR ≠ x ∧ sR ≠ r ∧
  ((∃ (u : V), H sR = some (.lst [u]) ∧ LiveAt T.x_LivePlant H x r p q pl ss [] ∧ ∀ H', Same H H' → Q (.bl true) H') ∨
   (∃ (us : List V) (u : V) (es : List Ent) (e : Ent), H sR = some (.lst (us ++ [u])) ∧ us ≠ [] ∧ LiveAt T.x_LivePlant H x r p q pl ss (es ++ [e]) ∧ es.length ≤ 1000 ∧
      ∀ (H' : Hp) (p2 q2 : Addr), (∀ a o, a ≠ x → a ≠ r → a ≠ sR → H a = some o → H' a = some o) → H' sR = some (.lst us) → LiveAt T.x_LivePlant H' x r p2 q2 e.pl e.ss es → Q (.bl true) H'))
theorem ok_undone (T : Tx K mg) (B : TabB base mg T.c_words_by_age T.P_words_by_age) (B2 : TabB base mg T.c_oldest_giver T.P_oldest_giver) (TD : TxD w T) : FnOk P w K mg base CX0 16 T.f__law_undone T.d__law_undone ["console", "states"] (spUndone T) := by
  refine T.F__law_undone.ok scLawUndone (fun vs H Q E h => ?_) (fun cdv A out s H vs Q E hr h => ?_)
  · obtain ⟨c, x, r, p, q, sR, pl, ss, rfl, _⟩ := h
    rfl
  · obtain ⟨c, x, r, p, q, sR, pl, ss, rfl, ⟨dc, ec⟩, nx, nr, h⟩ := h
    have nd := scLawUndone.nd
    refine ⟨_, pss_cons (ps_if (pt_cmpR op_gt (pe_callB call_len_seq (by rfl) T.n_len PySem.boot_len (pa_cons (pv 1) pa_nil)) pe_int (nomark _))
        (pss_cons (ps_expr (pe_bm0 PySem.F.plainAttrs_list PySem.F.slot_list_pop PySem.F.type_list_pop mt_pop (pv 1)))
        (pss_one (ps_ret (pe_cmpR op_eq (pe_meth (pv 0) T.C_Console T.M_co_say (ok_co_say T B B2 TD) (hr.mono (by omega)) T.b_co_say .nil pass0 (pa_cons pe_str pa_nil)) pe_str (nomark _))))) pss_nil)
      (pss_cons (L2N.ps_try_many rfl rfl takesNO (fun W pn xe tk _ =>
        pss_one (ps_expr (pe_methX (pv 0) T.C_Console T.M_co_say (ok_co_sayN T TD) hr T.b_co_say (fun σ => L2N.passAt tk σ) (pa_cons pe_str pa_nil))))
        (.cons ⟨rfl, by decide, .inl T.X_Nothing.g⟩ (fun a oe cls d pn hz hf => pss_one (ps_ret pe_bl)) .nil)) pss_never), ?_⟩
    rcases h with ⟨u, eS, L, k⟩ | ⟨us, u, es, en, eS, ne, L, hl, k⟩
    · refine ⟨.ref sR, rfl, sR, _, rfl, .inl (.inl (.inl eS)), _, _, rfl, rfl, _, rfl, iteF ?_⟩
      exact ⟨.ref c, rfl, c, dc, _, rfl, ec, coF_no _, c, x, r, p, q, pl, ss, rfl, ⟨dc, ec⟩, L, fun H2 s2 => ⟨true, T.E_nothing, fun _ a na => k H2 s2, fun z => nomatch z⟩⟩
    · have l1 : 1 ≤ us.length := List.length_pos_iff.mpr ne
      refine ⟨.ref sR, rfl, sR, _, rfl, .inl (.inl (.inl eS)), _, _, rfl, rfl, true, congrArg V.bl (decide_eq_true (by rw [List.length_append]; show (1 : Int) < ((us.length + 1 : Nat) : Int); omega)), iteT ?_⟩
      refine ⟨.ref sR, rfl, .inl ⟨rfl, _, .inl (.inl eS)⟩, sR, _, u, rfl, rfl, eS, ?_, ?_⟩
      · rw [List.length_append, List.getElem?_append_right (by show us.length ≤ us.length + 1 - 1; omega)]
        show ([u] : List V)[us.length + 1 - 1 - us.length]? = _
        rw [show us.length + 1 - 1 - us.length = 0 by omega]
        rfl
      rw [List.dropLast_concat]
      have cs : c ≠ sR := ne_of ec eS (by intro z; cases z)
      obtain ⟨dx, ox⟩ := L.ob
      have e1 : upd H sR (.lst us) c = some (.ins T.x_Console dc (coF (.ref x))) := (upd_ne cs).trans ec
      have eS1 : upd H sR (.lst us) sR = some (.lst us) := upd_same
      have kt : KT H (upd H sR (.lst us)) := kt_put56 eS
      have L1 := L.mv kt (upd_ne (Ne.symm nx)) (upd_ne (Ne.symm nr))
      have kH : ∀ a o, a ≠ sR → H a = some o → upd H sR (.lst us) a = some o := fun a o h e => (upd_ne h).trans e
      generalize upd H sR (.lst us) = H1 at e1 eS1 L1 kH ⊢
      obtain ⟨fr, ns, len⟩ := undo_ok
      refine ⟨.ref c, rfl, c, dc, _, rfl, e1, coF_no _, .inr ⟨c, x, [undoT], rfl, ⟨dc, e1⟩, by simp, fr, ns, by rw [undo_join, len]; decide, fun H2 l s2 nl el => ?_⟩⟩
      refine ⟨x, l, r, p, q, pl, ss, [undoT], rfl, el, .inr (.inl ⟨es, en, rfl, L1.same s2, hl, fun H3 p2 q2 b3 L3 => ?_⟩)⟩
      refine ⟨rfl, ?_⟩
      rw [decide_eq_true rfl]
      exact k H3 p2 q2 (fun a o h1 h2 h3 h => b3 _ _ h1 h2 (s2 _ _ (kH _ _ h3 h))) (b3 _ _ nx nr (s2 _ _ eS1)) L3
end
end PT


set_option maxHeartbeats 4000000
/-! the law's own text of a plant -/
namespace PT
open PySem PySem.Spec PyProof.Rows L2 TL
section
variable {P : Program} {w : World} {K : PySem.W.Frag} {mg : Str → Option Value} {base : Heap}
def spLawText : Sp := fun vs H Q _ => ∃ (p q : Addr) (pl ss : List Int), vs = [.ref p, .ref q] ∧ PlantAt H p pl ∧ H q = some (.tup (ss.map V.int)) ∧ ss.length = pl.length + 1 ∧ (∀ n ∈ ss, n.natAbs < 10 ^ 50) ∧ ∀ H', Same H H' → Q (.str (showT pl ss)) H'
theorem ok_text (T : Tx K mg) {k : Nat} : FnOk P w K mg base CX0 (k + 1) T.f__law_text T.d__law_text ["plant", "boxes"] spLawText := by
  refine T.F__law_text.ok scLawText (fun vs H Q E h => ?_) (fun cdv A outer s H vs Q E hr h => ?_)
  · obtain ⟨p, q, pl, ss, rfl, _⟩ := h
    rfl
  · obtain ⟨p, q, pl, ss, rfl, hP, hq, ls, sm, qq⟩ := h
    have nd := scLawText.nd
    have lp := hP.ok.len
    refine ⟨_, (pss_cons (ps_set (i := 2) nd rfl (.inl rfl) (pe_op op_cat (pe_lst (pa_cons (pe_op op_add_str pe_str (pe_callTy call_str_int (by rfl) T.n_str (by decide +kernel) (pa_cons (pe_ix ix_tup (pv 1) pe_int (fun _ _ => rfl)) pa_nil))) pa_nil)) (pe_lc (own := [("boss", 3), ("box", 4)]) (g := gTup K 2 (gCons (gName 3) (gCons (gName 4) gNil))) (tt := tYes) (te := (tOp rCatS (tOp rCatS (tCB (fun xs H Q => ∃ i : Int, xs = [.int i] ∧ i.natAbs.log2 < 1920 ∧ Q (.str (toString i)) H) (tCons (tVar 3) tNil)) (tC (.str " "))) (tCB (fun xs H Q => ∃ i : Int, xs = [.int i] ∧ i.natAbs.log2 < 1920 ∧ Q (.str (toString i)) H) (tCons (tVar 4) tNil)))) rfl nd (RZ.pi_zipA (by rfl) T.n_zip (pa_cons (pv 0) (pa_cons (pe_slice sl_tupG (pv 1) (po_some pe_int) po_none) pa_nil)))
(blkOk_by (N := ["plant", "boxes", "lines", "boss", "box", "line"]) (sc := defScope sLawText) (by decide +kernel)) (fun _ _ _ _ _ => (pg_tup (by rfl) (pgs_cons (pg_name (i := 3) nd rfl (.inl rfl)) (pgs_cons (pg_name (i := 4) nd rfl (.inl rfl)) pgs_nil)))) (fun _ _ _ _ _ => pts_nil) (fun _ _ _ _ _ => (pe_op op_add_str (pe_op op_add_str (pe_callTy call_str_int (by rfl) T.n_str (by decide +kernel) (pa_cons (pv 3) pa_nil)) pe_str) (pe_callTy call_str_int (by rfl) T.n_str (by decide +kernel) (pa_cons (pv 4) pa_nil)))))))
(pss_one (ps_ret (pe_bm PySem.F.plainAttrs_str PySem.F.slot_str_join PySem.F.type_str_join mt_join pe_str (pa_cons (pe_lc (own := [("line", 5)]) (g := gName 5) (tt := tYes) (te := (tOp rCatS (tVar 5) (tC (.str "
")))) rfl nd (pi_list (pv 2))
(blkOk_by (N := ["plant", "boxes", "lines", "boss", "box", "line"]) (sc := defScope sLawText) (by decide +kernel)) (fun _ _ _ _ _ => (pg_name (i := 5) nd rfl (.inl rfl))) (fun _ _ _ _ _ => pts_nil) (fun _ _ _ _ _ => (pe_op op_add_str (pv 5) pe_str))) pa_nil))))), ?_⟩
    have qn := hq
    obtain ⟨s0, ts, rfl⟩ : ∃ s0 ts, ss = s0 :: ts := by
      cases ss with
      | nil => exact absurd ls (by simp)
      | cons a b => exact ⟨a, b, rfl⟩
    have lts : ts.length = pl.length := by simpa using ls
    have smP : ∀ x ∈ pl, x.natAbs < 10 ^ 50 := fun x hx => Nat.lt_trans (plant_sm hP.ok x hx) (by decide)
    have z0 := sm s0 List.mem_cons_self
    have line5 : 6000 ≤ sizeLine := by decide
    have l5 : (Str.ofString "shop ").length = 5 := by decide +kernel
    have l1 : (Str.ofString " ").length = 1 := by decide +kernel
    have l2 : (Str.ofString "\n").length = 1 := by decide +kernel
    have n0 := numT_len z0
    refine ⟨.ref q, rfl, q, _, 0, .int s0, rfl, rfl, .inl (.inl hq), atI_nat (j := 0) rfl, s0, rfl, numT_log z0, _, _, rfl, rfl, ?_, (by show 1 ≤ sizeLine; decide), fun l nl => ?_⟩
    · show (Str.ofString "shop ").length + (numT s0).length ≤ _
      omega
    rw [show Str.ofString "shop " ++ Str.ofString (toString s0) = rowT (Str.ofString "shop") s0 from shop_row s0]
    have sl := same_new (o := .lst [V.str (rowT (Str.ofString "shop") s0)]) nl
    have el : (upd H l (.lst [V.str (rowT (Str.ofString "shop") s0)])) l = some (.lst [V.str (rowT (Str.ofString "shop") s0)]) := upd_same
    have hq1 := sl _ _ hq
    have hP1 := hP.same sl
    generalize upd H l _ = H1 at sl el hq1 hP1 ⊢
    refine ⟨.ref p, rfl, .ref q, rfl, 1, rfl, q, _, rfl, hq1, fun c G1 s1 ec => ?_⟩
    have ec : G1 c = some (.tup (ts.map V.int)) := by
      rw [ec, cutV_tail]
      rfl
    have hP2 := hP1.same s1
    refine ⟨p, c, _, _, rfl, .inr ⟨hP2.seq, .inl (.inl ec), fun D nD => ?_⟩⟩
    refine lc_it (walk_TT (K := K) (a := p) (b := c) (n := pl.length) (xs := pl.map V.int) (ys := ts.map V.int) (by rw [List.length_map]) (by rw [List.length_map, lts])) (fun i G => Same G1 G ∧ G D = some (.lst (((rowsT (pl.map numT) ts).take i).map V.str))) ⟨same_new nD, upd_same⟩
      (fun i G _ p1 => ⟨(hP2.same p1.1).seq, .inl (.inl (p1.1 _ _ ec))⟩) (fun i x G3 G4 hi p1 y => ?_) (fun G p1 => ?_)
    · obtain ⟨sG, eD⟩ := p1
      obtain ⟨T2, x1, x2, rfl, n2, rfl, g1, g2⟩ := y
      have e1 : pl[i]? = some pl[i] := List.getElem?_eq_getElem hi
      have e2 : ts[i]? = some ts[i] := List.getElem?_eq_getElem (by omega)
      have m1 := smP pl[i] (List.getElem_mem _)
      have m2 := sm ts[i] (List.mem_cons_of_mem _ (List.getElem_mem _))
      obtain rfl : V.int pl[i] = x1 := by
        have e : (pl.map V.int)[i]? = some x1 := g1
        rw [List.getElem?_map, e1] at e
        cases e
        rfl
      obtain rfl : V.int ts[i] = x2 := by
        have e : (ts.map V.int)[i]? = some x2 := g2
        rw [List.getElem?_map, e2] at e
        cases e
        rfl
      have ex := rowsT_get (as := pl.map numT) (is := ts) (k := i) (a := numT pl[i]) (i := ts[i]) (by rw [List.getElem?_map, e1]; rfl) e2
      revert m1 m2 ex
      generalize pl[i] = bo
      generalize ts[i] = bx
      intro m1 m2 ex
      have sT := same_new (o := .tup [V.int bo, .int bx]) n2
      have k1 := numT_len m1
      have k2 := numT_len m2
      refine ⟨T2, _, rfl, .inl (.inl upd_same), rfl, _, _, rfl, _, _, rfl, rfl, rfl, tyes_if ⟨.int bo, rfl, bo, rfl, numT_log m1, _, _, rfl, rfl, ?_, .int bx, rfl, bx, rfl, numT_log m2, _, _, rfl, rfl, ?_, _, sT _ _ eD, ?_, fun c' o h => ?_, ?_⟩⟩
      · show (numT bo).length + (Str.ofString " ").length ≤ _
        omega
      · rw [Str.length_append]
        show (numT bo).length + (Str.ofString " ").length + (numT bx).length ≤ _
        omega
      · rw [List.length_map, List.length_take]
        exact small300 (by omega)
      · rw [upd_ne (ne_of_none h nD)]
        exact sT _ _ (sG _ _ h)
      · rw [upd_same, take_next ex, List.map_append]
        rfl
    obtain ⟨sG, eD⟩ := p1
    have ll := rowsT_len (as := pl.map numT) (is := ts) (by rw [List.length_map, lts])
    rw [List.length_map] at ll
    rw [List.take_of_length_le (by omega)] at eD
    have el := sG _ _ (s1 _ _ el)
    refine ⟨l, D, _, _, rfl, rfl, el, eD, ?_, fun c2 nc2 => ?_⟩
    · rw [List.length_map, ll]
      show 1 + pl.length ≤ _
      exact Nat.le_of_lt (small300 (by omega))
    have s3 := (sl.trans s1).trans (sG.trans (same_new (o := .lst ([V.str (rowT (Str.ofString "shop") s0)] ++ (rowsT (pl.map numT) ts).map V.str)) nc2))
    have ec2 : (upd G c2 (.lst ([V.str (rowT (Str.ofString "shop") s0)] ++ (rowsT (pl.map numT) ts).map V.str))) c2 = some (.lst ((rowsT (bosses pl) (s0 :: ts)).map V.str)) := upd_same
    generalize upd G c2 _ = H3 at ec2 s3 ⊢
    have lr : (rowsT (bosses pl) (s0 :: ts)).length = pl.length + 1 := by
      rw [bosses, rowsT, List.length_cons, ll]
    have lrow : ∀ y ∈ rowsT (bosses pl) (s0 :: ts), y.length ≤ 200 := rowsT_all fun a ha i hi => by
      have z1 := bosses_len smP a ha
      have z2 := numT_len (sm i hi)
      have z3 : spT.length = 1 := by decide +kernel
      unfold rowT
      rw [Str.length_append, Str.length_append]
      omega
    clear nc2 el eD sG nD ec s1 sl
    refine ⟨rfl, .ref c2, rfl, c2, rfl, ⟨_, .inl (.inl ec2)⟩, fun E nE => ?_⟩
    refine lc_list (xs := (rowsT (bosses pl) (s0 :: ts)).map V.str) (fun i G => Same H3 G ∧ G E = some (.lst (((linesT (bosses pl) (s0 :: ts)).take i).map V.str))) ⟨same_new nE, upd_same⟩ (fun i G _ p1 => .inl (.inl (p1.1 _ _ ec2))) (fun i x G ex p1 => ?_) (fun G p1 => ?_)
    · obtain ⟨sG, eE⟩ := p1
      rw [List.getElem?_map] at ex
      cases er : (rowsT (bosses pl) (s0 :: ts))[i]? with
      | none => rw [er] at ex; cases ex
      | some r =>
        rw [er] at ex
        cases ex
        have hi := (List.getElem?_eq_some_iff.mp er).1
        have eln : (linesT (bosses pl) (s0 :: ts))[i]? = some (r ++ Str.ofString "\n") := by rw [← lines_rows, List.getElem?_map, er]; rfl
        have lrr := lrow r (List.mem_of_getElem? er)
        refine ⟨rfl, tyes_if ⟨.str r, rfl, _, _, rfl, rfl, ?_, _, eE, ?_, fun c o hc => ?_, ?_⟩⟩
        · omega
        · rw [List.length_map, List.length_take]
          exact small300 (by omega)
        · rw [upd_ne (ne_of_none hc nE)]
          exact sG _ _ hc
        · rw [upd_same, take_next eln, List.map_append]
          rfl
    obtain ⟨sG, eE⟩ := p1
    have l9 := linesT_len (as := bosses pl) (is := s0 :: ts) (by rw [List.length_cons, lts]; show (pl.map numT).length + 1 = _; rw [List.length_map])
    rw [List.length_map, lr, List.take_of_length_le (by rw [l9]; show (pl.map numT).length + 1 ≤ _; rw [List.length_map]; exact Nat.le_refl _)] at eE
    have big2 := sum_le (B := 130) (ys := linesT (bosses pl) (s0 :: ts)) (linesT_all fun a ha i hi => lineT_len (bosses_len smP a ha) (sm i hi))
    refine ⟨Str.ofString "", E, linesT (bosses pl) (s0 :: ts), rfl, rfl, .inl (.inl (.inl eE)), ?_, qq G (s3.trans sG)⟩
    have z : (Str.ofString "").length = 0 := rfl
    rw [z, Nat.mul_zero]
    have lb9 : (bosses pl).length = pl.length + 1 := by
      show (pl.map numT).length + 1 = _
      rw [List.length_map]
    have y : (linesT (bosses pl) (s0 :: ts)).length * 130 ≤ 40 * 130 := Nat.mul_le_mul_right _ (by omega)
    omega
end
end PT


set_option maxHeartbeats 4000000
/-! plants opened on a console -/
namespace PT
open PySem PySem.Spec PyProof.Rows L2 LamX NdefX TL
section
variable {P : Program} {w : World} {K : PySem.W.Frag} {mg : Str → Option Value} {base : Heap}
def spLawOpen : Sp := fun vs H Q _ => ∃ (p q : Addr) (pl ss : List Int), vs = [.ref p, .ref q] ∧ PlantAt H p pl ∧ H q = some (.tup (ss.map V.int)) ∧ ss.length = pl.length + 1 ∧ (∀ n ∈ ss, n.natAbs < 10 ^ 50) ∧ ∀ H', Same H H' → Q (.str (opT ++ openT pl ss)) H'
theorem ok_open (T : Tx K mg) : FnOk P w K mg base CX0 2 T.f__law_open T.d__law_open ["plant", "boxes"] spLawOpen := by
  refine T.F__law_open.ok scLawOpen (fun vs H Q E h => ?_) (fun cdv A outer s H vs Q E hr h => ?_)
  · obtain ⟨p, q, pl, ss, rfl, _⟩ := h
    rfl
  · obtain ⟨p, q, pl, ss, rfl, hP, hq, ls, sm, k⟩ := h
    have nd := scLawOpen.nd
    refine ⟨_, (pss_one (ps_ret (pe_op op_add_str pe_str (pe_bm PySem.F.plainAttrs_str PySem.F.slot_str_join PySem.F.type_str_join mt_join pe_str (pa_cons (pe_slice sl_list (pe_bm PySem.F.plainAttrs_str PySem.F.slot_str_split PySem.F.type_str_split mt_split (pe_call (ok_text T (k := 0)) (hr.mono (by omega)) (by rfl) T.g__law_text T.F__law_text.kp T.b__law_text .nil pass0 (pa_cons (pv 0) (pa_cons (pv 1) pa_nil))) (pa_cons pe_str pa_nil)) po_none (po_some (pe_un un_neg pe_int))) pa_nil))))), ?_⟩
    have sl := showT_len hP.ok.len ls (fun x hx => Nat.lt_trans (plant_sm hP.ok x hx) (by decide)) sm
    have ol := openT_len hP.ok ls sm
    have big : 6000 ≤ sizeLine := (by decide)
    have l5 : opT.length = 5 := by decide +kernel
    have lr : (rowsT (bosses pl) ss).length = pl.length + 1 := by
      have lb : (bosses pl).length = ss.length := by
        rw [ls]
        show (pl.map numT).length + 1 = _
        rw [List.length_map]
      rw [rowsT_len lb, lb, ls]
    have lp := hP.ok.len
    refine ⟨rfl, .ref p, rfl, .ref q, rfl, p, q, pl, ss, rfl, hP, hq, ls, sm, fun H1 s1 => ?_⟩
    refine ⟨rfl, showT pl ss, nlT, rfl, rfl, by decide +kernel, by omega, fun l nl => ?_⟩
    rw [show_lines ls]
    have s2 := same_new (o := .lst ((rowsT (bosses pl) ss ++ [Str.empty]).map V.str)) nl
    have el : upd H1 l (.lst ((rowsT (bosses pl) ss ++ [Str.empty]).map V.str)) l = some (.lst ((rowsT (bosses pl) ss ++ [Str.empty]).map V.str)) := upd_same
    generalize upd H1 l (.lst ((rowsT (bosses pl) ss ++ [Str.empty]).map V.str)) = H2 at s2 el ⊢
    refine ⟨1, rfl, -1, rfl, l, _, rfl, .inl (.inl el), fun c nc => ?_⟩
    have ec : cutV ((rowsT (bosses pl) ss ++ [Str.empty]).map V.str) none (some (-1)) = (rowsT (bosses pl) ss).map V.str := by
      rw [cutV_last, List.length_map, List.length_append, List.map_append]
      show List.take ((rowsT (bosses pl) ss).length + 1 - 1) _ = _
      rw [Nat.add_sub_cancel, List.take_left' (List.length_map ..)]
    rw [ec]
    have s3 := same_new (o := .lst (cutV ((rowsT (bosses pl) ss ++ [Str.empty]).map V.str) none (some (-1)))) nc
    rw [ec] at s3
    have smP : ∀ x ∈ pl, x.natAbs < 10 ^ 50 := fun x hx => Nat.lt_trans (plant_sm hP.ok x hx) (by decide)
    have bigS := sum_le (B := 130) (ys := rowsT (bosses pl) ss) (rowsT_all fun a ha i hi => by
      have z1 := bosses_len smP a ha
      have z2 := numT_len (sm i hi)
      have z3 : spT.length = 1 := by decide +kernel
      unfold rowT
      rw [Str.length_append, Str.length_append]
      omega)
    have l1 : (Str.ofString ";").length = 1 := by decide +kernel
    have by1 : (rowsT (bosses pl) ss).length * 130 ≤ 40 * 130 := Nat.mul_le_mul_right _ (by omega)
    have je : Txt.join (Str.ofString ";") (rowsT (bosses pl) ss) = openT pl ss := join_eq _ _
    refine ⟨_, c, rowsT (bosses pl) ss, rfl, rfl, .inl (.inl (.inl upd_same)), by rw [l1]; omega, _, _, rfl, rfl, ?_, ?_⟩
    · rw [je]
      show opT.length + _ ≤ _
      omega
    · rw [je]
      exact k _ (s1.trans (s2.trans s3))
/-- a plant opened: its states are one -/
def spOpened (T : Tx K mg) : Sp := fun vs H Q _ => ∃ (b c : Addr) (v : V) (n : Nat), vs = [.ref b, .ref c] ∧ PotAt H b n ∧ n ≤ 100000000 ∧ CoAt T H c v ∧
  ∀ (H' : Hp) (sR t x r p q p2 q2 : Addr) (pl ss : List Int), PotAt H' b (n + 300) → (∀ a o, a ≠ b → a ≠ c → H a = some o → H' a = some o) → H sR = none → H x = none → H r = none → sR ≠ r → CoAt T H' c (.ref x) → LiveAt T.x_LivePlant H' x r p q pl ss [] → H' sR = some (.lst [.ref t]) → H' t = some (.tup [.ref p2, .ref q2]) → StAt H' p2 q2 pl ss → pl.length + 1 ≤ 7 → (∀ i ∈ ss, -(10 ^ 36) ≤ i ∧ i ≤ 10 ^ 36) → Q (.ref sR) H'
theorem ok_opened (T : Tx K mg) (B : TabB base mg T.c_words_by_age T.P_words_by_age) (B2 : TabB base mg T.c_oldest_giver T.P_oldest_giver) (TD : TxD w T) : FnOk P w K mg base CX0 16 T.f__law_opened T.d__law_opened ["fount", "console"] (spOpened T) := by
  refine T.F__law_opened.ok scLawOpened (fun vs H Q E h => ?_) (fun cdv A outer s H vs Q E hr h => ?_)
  · obtain ⟨b, c, v, n, rfl, _⟩ := h
    rfl
  · obtain ⟨b, c, v, n, rfl, hb, hn, ⟨dc, ec⟩, k⟩ := h
    have nd := scLawOpened.nd
    refine ⟨_, (pss_cons (ps_set (i := 2) nd rfl (.inl rfl) (pe_call (ok_grown T) (hr.mono (by omega)) (by rfl) T.g__law_grown T.F__law_grown.kp T.b__law_grown .nil pass0 (pa_cons (pv 0) (pa_cons pe_int pa_nil))))
(pss_cons (ps_set (i := 3) nd rfl (.inl rfl) (pe_call (ok_filled T) (hr.mono (by omega)) (by rfl) T.g__law_filled T.F__law_filled.kp T.b__law_filled .nil pass0 (pa_cons (pv 0) (pa_cons (pv 2) pa_nil))))
(pss_one (ps_ret (pe_ifExp (pt_cmpR op_eq (pe_meth (pv 1) T.C_Console T.M_co_say (ok_co_say T B B2 TD) (hr.mono (by omega)) T.b_co_say .nil pass0 (pa_cons (pe_call (ok_open T) (hr.mono (by omega)) (by rfl) T.g__law_open T.F__law_open.kp T.b__law_open .nil pass0 (pa_cons (pv 2) (pa_cons (pv 3) pa_nil))) pa_nil)) pe_str (nomark _)) (pe_lst (pa_cons (pe_tup (pa_cons (pv 2) (pa_cons (pv 3) pa_nil))) pa_nil)) pe_non))))), ?_⟩
    refine ⟨.ref b, rfl, b, 7, n, rfl, by decide, by decide, hb, by omega, fun H4 p pl k4 B4 np P4 lp => ?_⟩
    have pb4 : p ≠ b := k4.neT P4.at_
    refine ⟨.ref b, rfl, .ref p, rfl, b, p, pl, _, rfl, k4, by omega, P4, fun H5 q ss k5 B5 nq e5 so => ?_⟩
    have P5 : PlantAt H5 p pl := ⟨B5 _ _ pb4 P4.at_, P4.ok⟩
    have BB := B4.trans B5
    have cb : c ≠ b := by
      obtain ⟨_, _, _, zb, _⟩ := id hb
      exact ne_of ec zb (by intro z; cases z)
    have ec5 := BB _ _ cb ec
    have sm5 : ∀ i ∈ ss, i.natAbs < 10 ^ 50 := fun i hi => by have := so.sm i hi; omega
    have sm4 : ∀ i ∈ ss, i.natAbs < 10 ^ 40 := fun i hi => by have := so.sm i hi; omega
    have np5 : H p = none := np
    have nq5 : H q = none := by
      cases e : H q with
      | none => rfl
      | some u =>
        have qb : q ≠ b := k5.neT e5
        rw [B4 _ _ qb e] at nq
        cases nq
    refine ⟨.ref c, rfl, c, dc, _, rfl, ec5, coF_no v, .ref p, rfl, .ref q, rfl, p, q, pl, ss, rfl, P5, e5, so.len, sm5, fun H6 s6 => .inl ⟨c, v, pl, ss, rfl, ⟨dc, s6 _ _ ec5⟩, P5.ok, so.len, so.nd, sm4, fun H7 x r p7 q7 kp nx nr co L => ⟨rfl, _, rfl, ?_⟩⟩⟩
    rw [decide_eq_true rfl]
    refine iteT ⟨.ref p, rfl, .ref q, rfl, (by show 2 ≤ sizeLine; decide), fun t nt => ⟨(by show 1 ≤ sizeLine; decide), fun sR nS => ?_⟩⟩
    have s8 := (same_new (o := .tup [V.ref p, .ref q]) nt).trans (same_new (o := .lst [V.ref t]) nS)
    have et := (same_new (o := .lst [V.ref t]) nS) _ _ (upd_same (H := H7) (a := t) (o := .tup [V.ref p, .ref q]))
    have eS : upd (upd H7 t (.tup [.ref p, .ref q])) sR (.lst [.ref t]) sR = some (.lst [.ref t]) := upd_same
    have nS7 : H7 sR = none := (same_new (o := .tup [V.ref p, .ref q]) nt).free nS
    generalize upd (upd H7 t (.tup [.ref p, .ref q])) sR (.lst [.ref t]) = H8 at s8 et eS ⊢
    have ec6 := s6 _ _ ec5
    have pc : p ≠ c := fun z => by
      have := P5.at_
      rw [z, ec5] at this
      cases this
    have qc : q ≠ c := fun z => by rw [z, ec5] at e5; cases e5
    have kH : ∀ a o, a ≠ b → a ≠ c → H a = some o → H8 a = some o := fun a o h1 h2 h => s8 _ _ (kp _ _ h2 (s6 _ _ (BB _ _ h1 h)))
    obtain ⟨a1, a2, a3, eb, wb⟩ := id k5
    have eb7 := kp _ _ (Ne.symm cb) (s6 _ _ eb)
    have eb8 := s8 _ _ eb7
    obtain ⟨dc7, ec7⟩ := co
    have xn : H x = none := by
      cases e : H x with
      | none => rfl
      | some u =>
        by_cases z : x = b
        · rw [z, s6 _ _ eb] at nx; cases nx
        · rw [s6 _ _ (BB _ _ z e)] at nx; cases nx
    have rn : H r = none := by
      cases e : H r with
      | none => rfl
      | some u =>
        by_cases z : r = b
        · rw [z, s6 _ _ eb] at nr; cases nr
        · rw [s6 _ _ (BB _ _ z e)] at nr; cases nr
    have sn : H sR = none := by
      cases e : H sR with
      | none => rfl
      | some u =>
        by_cases z : sR = b
        · rw [z, eb7] at nS7; cases nS7
        · by_cases z2 : sR = c
          · rw [z2, ec7] at nS7; cases nS7
          · rw [kp _ _ z2 (s6 _ _ (BB _ _ z e))] at nS7; cases nS7
    obtain ⟨vs, er, _⟩ := id L.pa
    have sr : sR ≠ r := fun z => by rw [z, er] at nS7; cases nS7
    have L8 := L.same s8
    exact k H8 sR t x r p7 q7 p q pl ss ⟨a1, a2, a3, eb8, wb.1, wb.2.1, wb.2.2.1, by have := wb.2.2.2; omega⟩ kH sn xn rn sr ⟨dc7, s8 _ _ ec7⟩ L8 eS et ⟨⟨s8 _ _ (kp _ _ pc (s6 _ _ P5.at_)), P5.ok⟩, s8 _ _ (kp _ _ qc (s6 _ _ e5)), so.len, so.nd⟩ (by omega) so.sm
end
end PT


set_option maxHeartbeats 4000000
/-! two consoles and the law's own states (law 56) -/
namespace PT
open PySem PySem.Spec PyProof.Rows L2 LamX NdefX
def stE (e : Ent) : PT.St := (e.pl, e.ss)
def stsE (es : List Ent) (pl ss : List Int) : List PT.St := es.map stE ++ [(pl, ss)]
def okS (t : Nat) (s : PT.St) : Prop := s.1.length ≤ 7 ∧ ∀ i ∈ s.2, -(10 ^ 36 + (t : Int) * 10 ^ 31) ≤ i ∧ i ≤ 10 ^ 36 + (t : Int) * 10 ^ 31
theorem okS.next {t : Nat} {s : PT.St} (h : okS t s) : okS (t + 1) s := ⟨h.1, fun i hi => by
  have := h.2 i hi
  rw [Int.natCast_add]
  omega⟩
theorem okS.op {t : Nat} {pl ss : List Int} {n : Opn} (h : okS t (pl, ss)) (hP : Plant pl) (ls : ss.length = pl.length + 1) (nd : ss.Nodup) (hk : n.ok pl (10 ^ 30) 8) : okS (t + 1) (n.pl pl, n.ss pl ss) := by
  have ne : ss ≠ [] := fun e => by rw [e] at ls; cases ls
  have mx := h.2 _ (mxv_mem ne).1
  have c1 : ((t + 1 : Nat) : Int) = (t : Int) + 1 := Int.natCast_add ..
  have key : ∀ d : Nat, d ≤ 10 ^ 30 → ∀ i ∈ dyn pl ss d, -(10 ^ 36 + ((t + 1 : Nat) : Int) * 10 ^ 31) ≤ i ∧ i ≤ 10 ^ 36 + ((t + 1 : Nat) : Int) * 10 ^ 31 := fun d hd i hi => by
    have := dyn_bd (pl := pl) ls nd h.2 d i hi
    rw [c1]
    omega
  cases n with
  | day => exact ⟨h.1, key 1 (by decide)⟩
  | days d => exact ⟨h.1, key d hk.2⟩
  | sell j =>
    refine ⟨h.1, fun i hi => ?_⟩
    rcases (day_ok (pl := pl) ls nd (j := j) hk).2.2.1 i hi with z | z
    · have := h.2 i z
      rw [c1]
      omega
    · rw [c1]
      omega
  | add j =>
    refine ⟨?_, fun i hi => ?_⟩
    · show (pl ++ [(j : Int)]).length ≤ 7
      rw [List.length_append]
      have := hk.2
      show pl.length + 1 ≤ 7
      omega
    · rcases List.mem_append.mp hi with z | z
      · have := h.2 i z
        rw [c1]
        omega
      · rw [List.mem_singleton.mp z, c1]
        omega
  | rem =>
    refine ⟨?_, fun i hi => ?_⟩
    · show (pl.take _).length ≤ 7
      rw [List.length_take]
      have h1 : pl.length ≤ 7 := h.1
      omega
    · have := h.2 i (List.mem_of_mem_take hi)
      rw [c1]
      omega
section
variable {K : PySem.W.Frag} {mg : Str → Option Value}
/-- one console: its live plant, and the law's own states of it -/
structure Sd (T : Tx K mg) (G : Hp) (c x r s : Addr) (t : Nat) (p q : Addr) (pl ss : List Int) (es : List Ent) : Prop where
  co : CoAt T G c (.ref x)
  lv : LiveAt T.x_LivePlant G x r p q pl ss es
  st : RwAt StOne G s (stsE es pl ss)
  few : es.length ≤ t
  ok : ∀ y ∈ stsE es pl ss, okS t y
variable {T : Tx K mg} {G G' : Hp} {c x r s p q : Addr} {t : Nat} {pl ss : List Int} {es : List Ent}
theorem Sd.mv (h : Sd T G c x r s t p q pl ss es) (kt : KT G G') (hc : G' c = G c) (hx : G' x = G x) (hr : G' r = G r) (hs : G' s = G s) : Sd T G' c x r s t p q pl ss es :=
  ⟨let ⟨dc, e⟩ := h.co; ⟨dc, hc.trans e⟩, h.lv.mv kt hx hr, h.st.mv (R := StOne) (fun k v a z => StOne.kt k z) kt hs, h.few, h.ok⟩
theorem Sd.next (h : Sd T G c x r s t p q pl ss es) : Sd T G c x r s (t + 1) p q pl ss es := ⟨h.co, h.lv, h.st, by have := h.few; omega, fun y hy => (h.ok y hy).next⟩
/-- all that stands: the fount, the two lists, two consoles -/
structure W56 (T : Tx K mg) (H1 : Hp) (b cR tR : Addr) (c x r s : Nat → Addr) (n t : Nat) (G : Hp) : Prop where
  ext : ExtN H1 G
  nb : NewN H1 b
  nt : NewN H1 tR
  nc : ∀ i, i < 2 → NewN H1 (c i)
  nx : ∀ i, i < 2 → NewN H1 (x i)
  nr : ∀ i, i < 2 → NewN H1 (r i)
  ns : ∀ i, i < 2 → NewN H1 (s i)
  pot : PotAt G b n
  tabs : Tabs T.tabW G
  eC : G cR = some (.lst [.ref (c 0), .ref (c 1)])
  eT : G tR = some (.lst [.ref (s 0), .ref (s 1)])
  bc : b ≠ cR
  bt : b ≠ tR
  ct : cR ≠ tR
  sb : ∀ i, i < 2 → s i ≠ b ∧ s i ≠ cR ∧ s i ≠ tR
  rb : ∀ i, i < 2 → r i ≠ b ∧ r i ≠ cR ∧ r i ≠ tR
  sr : ∀ i j, i < 2 → j < 2 → s i ≠ r j
  dj : ∀ i j, i < 2 → j < 2 → i ≠ j → c i ≠ c j ∧ x i ≠ x j ∧ r i ≠ r j ∧ s i ≠ s j
  sd : ∀ i, i < 2 → ∃ (p q : Addr) (pl ss : List Int) (es : List Ent), Sd T G (c i) (x i) (r i) (s i) t p q pl ss es
variable {H1 : Hp} {b cR tR : Addr} {cf xf rf sf : Nat → Addr} {n m t2 : Nat}
theorem Sd.objs (h : Sd T G c x r s t p q pl ss es) : (∃ dc, G c = some (.ins T.x_Console dc (coF (.ref x)))) ∧ (∃ dx, G x = some (.ins T.x_LivePlant dx (lvF p q r))) ∧ (∃ vs, G r = some (.lst vs)) ∧ ∃ vs, G s = some (.lst vs) :=
  ⟨h.co, h.lv.ob, let ⟨vs, e, _⟩ := h.lv.pa; ⟨vs, e⟩, let ⟨vs, e, _⟩ := h.st; ⟨vs, e⟩⟩
theorem newN_ne {H : Hp} {a y : Addr} {o : HO} (n : NewN H y) (h : H a = some o) (z : ∀ ps, o ≠ .tbl ps) : a ≠ y := fun e => by
  obtain ⟨ps, e2⟩ := n o (e ▸ h)
  exact z ps e2
theorem coF_lvF {C C' dx dx' : Addr} {v : V} {p q r : Addr} : HO.ins C dx (coF v) ≠ HO.ins C' dx' (lvF p q r) := fun z => by
  have z := (HO.ins.inj z).2.2
  have := congrArg List.length z
  have l1 : (coF v).length = 1 := rfl
  have l2 : (lvF p q r).length = 3 := rfl
  omega
theorem W56.mono (h : W56 T H1 b cR tR cf xf rf sf n t G) (l : n ≤ m) : W56 T H1 b cR tR cf xf rf sf m t G := { h with pot := h.pot.mono l }
theorem W56.next (h : W56 T H1 b cR tR cf xf rf sf n t G) : W56 T H1 b cR tR cf xf rf sf n (t + 1) G := { h with sd := fun i hi => let ⟨p, q, pl, ss, es, S⟩ := h.sd i hi; ⟨p, q, pl, ss, es, S.next⟩ }
theorem W56.sip (h : W56 T H1 b cR tR cf xf rf sf n t G) (k : PotAt G' b m) (e : Bar b G G') : W56 T H1 b cR tR cf xf rf sf m t G' := by
  obtain ⟨_, _, _, zb, _⟩ := id h.pot
  refine { h with ext := fun a o ha z => e _ _ (newN_ne h.nb ha z) (h.ext a o ha z), pot := k, tabs := tabs_bar h.tabs zb e, eC := e _ _ (Ne.symm h.bc) h.eC, eT := e _ _ (Ne.symm h.bt) h.eT, sd := fun i hi => ?_ }
  obtain ⟨p, q, pl, ss, es, S⟩ := h.sd i hi
  obtain ⟨⟨dc, o1⟩, ⟨dx, o2⟩, ⟨vr, o3⟩, ⟨vs, o4⟩⟩ := S.objs
  exact ⟨p, q, pl, ss, es, S.mv (e.kt h.pot) ((e _ _ (ne_of o1 zb (by intro z; cases z)) o1).trans o1.symm) ((e _ _ (ne_of o2 zb (by intro z; cases z)) o2).trans o2.symm) ((e _ _ (h.rb i hi).1 o3).trans o3.symm) ((e _ _ (h.sb i hi).1 o4).trans o4.symm)⟩
theorem W56.same (h : W56 T H1 b cR tR cf xf rf sf n t G) (e : Same G G') : W56 T H1 b cR tR cf xf rf sf n t G' := by
  refine { h with ext := h.ext.trans (same_extN e), pot := h.pot.same e, tabs := tabs_same h.tabs e, eC := e _ _ h.eC, eT := e _ _ h.eT, sd := fun i hi => ?_ }
  obtain ⟨p, q, pl, ss, es, S⟩ := h.sd i hi
  obtain ⟨⟨dc, o1⟩, ⟨dx, o2⟩, ⟨vr, o3⟩, ⟨vs, o4⟩⟩ := S.objs
  exact ⟨p, q, pl, ss, es, S.mv (Same.kt e) ((e _ _ o1).trans o1.symm) ((e _ _ o2).trans o2.symm) ((e _ _ o3).trans o3.symm) ((e _ _ o4).trans o4.symm)⟩
/-- one console's live plant and states change -/
theorem W56.op (h : W56 T H1 b cR tR cf xf rf sf n t G) {w : Nat} (hw : w < 2) (e : ∀ a o, a ≠ xf w → a ≠ rf w → a ≠ sf w → G a = some o → (∀ ps, o ≠ .tbl ps) → G' a = some o) (tb : Tabs T.tabW G') (le : t ≤ t2)
    (new : ∃ (p q : Addr) (pl ss : List Int) (es : List Ent), Sd T G' (cf w) (xf w) (rf w) (sf w) t2 p q pl ss es) (up : ∀ {y : PT.St}, okS t y → okS t2 y) : W56 T H1 b cR tR cf xf rf sf n t2 G' := by
  obtain ⟨pw, qw, plw, ssw, esw, Sw⟩ := h.sd w hw
  obtain ⟨⟨dcw, w1⟩, ⟨dxw, w2⟩, ⟨vrw, w3⟩, ⟨vsw, w4⟩⟩ := Sw.objs
  have ins : ∀ {a : Addr} {C dx : Addr} {fs : List (Str × V)}, G a = some (.ins C dx fs) → a ≠ xf w → G' a = some (.ins C dx fs) := fun ea ne =>
    e _ _ ne (ne_of ea w3 (by intro z; cases z)) (ne_of ea w4 (by intro z; cases z)) ea (fun _ z => by cases z)
  have lst : ∀ {a : Addr} {vs : List V}, G a = some (.lst vs) → a ≠ rf w → a ≠ sf w → G' a = some (.lst vs) := fun ea n1 n2 =>
    e _ _ (ne_of ea w2 (by intro z; cases z)) n1 n2 ea (fun _ z => by cases z)
  have kt : KT G G' := fun a xs ea => e _ _ (ne_of ea w2 (by intro z; cases z)) (ne_of ea w3 (by intro z; cases z)) (ne_of ea w4 (by intro z; cases z)) ea (fun _ z => by cases z)
  obtain ⟨a1, a2, a3, zb, wb⟩ := id h.pot
  refine { h with ext := fun a o ha z => ?_, pot := ⟨a1, a2, a3, lst zb (Ne.symm (h.rb w hw).1) (Ne.symm (h.sb w hw).1), wb⟩, tabs := tb, eC := lst h.eC (Ne.symm (h.rb w hw).2.1) (Ne.symm (h.sb w hw).2.1), eT := lst h.eT (Ne.symm (h.rb w hw).2.2) (Ne.symm (h.sb w hw).2.2), sd := fun i hi => ?_ }
  · have g := h.ext a o ha z
    exact e _ _ (newN_ne (h.nx w hw) ha z) (newN_ne (h.nr w hw) ha z) (newN_ne (h.ns w hw) ha z) g z
  · by_cases c0 : i = w
    · rw [c0]
      exact new
    · obtain ⟨p, q, pl, ss, es, S⟩ := h.sd i hi
      obtain ⟨⟨dc, o1⟩, ⟨dx, o2⟩, ⟨vr, o3⟩, ⟨vs, o4⟩⟩ := S.objs
      obtain ⟨d1, d2, d3, d4⟩ := h.dj i w hi hw c0
      have S2 := S.mv kt ((ins o1 (ne_of o1 w2 coF_lvF)).trans o1.symm) ((ins o2 d2).trans o2.symm) ((lst o3 d3 (Ne.symm (h.sr w i hw hi))).trans o3.symm) ((lst o4 (h.sr i w hi hw) d4).trans o4.symm)
      exact ⟨p, q, pl, ss, es, S2.co, S2.lv, S2.st, Nat.le_trans S2.few le, fun y hy => up (S2.ok y hy)⟩
def fnU (f : Nat → Addr) (w : Nat) (a : Addr) : Nat → Addr := fun i => if i = w then a else f i
theorem fnU_at (f : Nat → Addr) (w : Nat) (a : Addr) : fnU f w a w = a := if_pos rfl
theorem fnU_ne {f : Nat → Addr} {w i : Nat} {a : Addr} (h : i ≠ w) : fnU f w a i = f i := if_neg h
theorem tabs_two {Ts : List (Addr × Str)} {G G' : Hp} {b c C dc : Addr} {vs : List V} {fs : List (Str × V)} (h : Tabs Ts G) (eb : G b = some (.lst vs)) (ec : G c = some (.ins C dc fs)) (k : ∀ a o, a ≠ b → a ≠ c → G a = some o → G' a = some o) : Tabs Ts G' := fun t ht => by
  obtain ⟨ps, h1, h2, h3⟩ := h t ht
  refine ⟨ps, k _ _ (fun z => ?_) (fun z => ?_) h1, h2, fun pos cv hc => ?_⟩
  · rw [z, eb] at h1
    cases h1
  · rw [z, ec] at h1
    cases h1
  · obtain ⟨c2, e3, e4⟩ := h3 pos cv hc
    refine ⟨c2, e3, k _ _ (fun z => ?_) (fun z => ?_) e4⟩
    · rw [z, eb] at e4
      exact codeO_lst vs (Option.some.inj e4).symm
    · rw [z, ec] at e4
      exact codeO_ins _ _ _ (Option.some.inj e4).symm
/-- one console opens another plant, and the law keeps its states -/
theorem W56.opened (h : W56 T H1 b cR tR cf xf rf sf n t G) {w : Nat} (hw : w < 2) {x' r' s' tt p2 q2 : Addr} (k : PotAt G' b m) (e : ∀ a o, a ≠ b → a ≠ cf w → G a = some o → G' a = some o) (ns' : G s' = none) (nx' : G x' = none) (nr' : G r' = none) (sr' : s' ≠ r')
    (co : CoAt T G' (cf w) (.ref x')) (L : LiveAt T.x_LivePlant G' x' r' p q pl ss []) (eS : G' s' = some (.lst [.ref tt])) (et : G' tt = some (.tup [.ref p2, .ref q2])) (St : StAt G' p2 q2 pl ss) (ok : okS t (pl, ss)) :
    W56 T H1 b cR tR cf (fnU xf w x') (fnU rf w r') (fnU sf w s') m t (upd G' tR (.lst [.ref (fnU sf w s' 0), .ref (fnU sf w s' 1)])) := by
  obtain ⟨pw, qw, plw, ssw, esw, Sw⟩ := h.sd w hw
  obtain ⟨⟨dcw, w1⟩, _, _, _⟩ := Sw.objs
  obtain ⟨_, _, _, zb, _⟩ := id h.pot
  have lst : ∀ {a : Addr} {vs : List V}, G a = some (.lst vs) → a ≠ b → G' a = some (.lst vs) := fun ea n1 => e _ _ n1 (ne_of ea w1 (by intro z; cases z)) ea
  have eT := lst h.eT (Ne.symm h.bt)
  have nT : ∀ {a : Addr}, G a = none → a ≠ tR := fun ha z => by rw [z, h.eT] at ha; cases ha
  have nB : ∀ {a : Addr}, G a = none → a ≠ b := fun ha z => by rw [z, zb] at ha; cases ha
  have nCl : ∀ {a : Addr}, G a = none → a ≠ cR := fun ha z => by rw [z, h.eC] at ha; cases ha
  have kt0 : KT G G' := fun a xs ea => e _ _ (ne_of ea zb (by intro z; cases z)) (ne_of ea w1 (by intro z; cases z)) ea
  have kt1 : KT G' (upd G' tR (.lst [.ref (fnU sf w s' 0), .ref (fnU sf w s' 1)])) := kt_put56 eT
  have back : ∀ {a : Addr}, G a = none → NewN H1 a := fun ha => (newN_of ha).back h.ext
  have cT : cf w ≠ tR := ne_of w1 h.eT (by intro z; cases z)
  obtain ⟨dc, ec⟩ := co
  obtain ⟨dx, ex⟩ := L.ob
  obtain ⟨vr, er, _⟩ := L.pa
  have up : ∀ {a : Addr} {o : HO}, a ≠ tR → G' a = some o → upd G' tR (.lst [.ref (fnU sf w s' 0), .ref (fnU sf w s' 1)]) a = some o := fun n1 e1 => (upd_ne n1).trans e1
  have old : ∀ i, i < 2 → i ≠ w → G (xf i) ≠ none ∧ G (rf i) ≠ none ∧ G (sf i) ≠ none := fun i hi ne => by
    obtain ⟨p, q, pl, ss, es, S⟩ := h.sd i hi
    obtain ⟨_, ⟨_, o2⟩, ⟨_, o3⟩, ⟨_, o4⟩⟩ := S.objs
    rw [o2, o3, o4]
    exact ⟨fun z => (by cases z), fun z => (by cases z), fun z => (by cases z)⟩
  have ner : ∀ {a y : Addr}, G a = none → G y ≠ none → a ≠ y := fun ha hy z => hy (z ▸ ha)
  refine { h with ext := fun a o ha z => ?_, nx := fun i hi => ?_, nr := fun i hi => ?_, ns := fun i hi => ?_, pot := ?_, tabs := ?_, eC := up h.ct (lst h.eC (Ne.symm h.bc)), eT := upd_same, sb := fun i hi => ?_, rb := fun i hi => ?_, sr := fun i j hi hj => ?_, dj := fun i j hi hj ij => ?_, sd := fun i hi => ?_ }
  · exact up (newN_ne h.nt ha z) (e _ _ (newN_ne h.nb ha z) (newN_ne (h.nc w hw) ha z) (h.ext a o ha z))
  · by_cases c0 : i = w
    · rw [c0, fnU_at]; exact back nx'
    · rw [fnU_ne c0]; exact h.nx i hi
  · by_cases c0 : i = w
    · rw [c0, fnU_at]; exact back nr'
    · rw [fnU_ne c0]; exact h.nr i hi
  · by_cases c0 : i = w
    · rw [c0, fnU_at]; exact back ns'
    · rw [fnU_ne c0]; exact h.ns i hi
  · obtain ⟨a1, a2, a3, z, wb⟩ := k
    exact ⟨a1, a2, a3, up h.bt z, wb⟩
  · exact tabs_set (tabs_two h.tabs zb w1 e) eT
  · by_cases c0 : i = w
    · rw [c0, fnU_at]; exact ⟨nB ns', nCl ns', nT ns'⟩
    · rw [fnU_ne c0]; exact h.sb i hi
  · by_cases c0 : i = w
    · rw [c0, fnU_at]; exact ⟨nB nr', nCl nr', nT nr'⟩
    · rw [fnU_ne c0]; exact h.rb i hi
  · by_cases c0 : i = w <;> by_cases c1 : j = w
    · rw [c0, c1, fnU_at, fnU_at]; exact sr'
    · rw [c0, fnU_at, fnU_ne c1]; exact ner ns' (old j hj c1).2.1
    · rw [fnU_ne c0, c1, fnU_at]; exact Ne.symm (ner nr' (old i hi c0).2.2)
    · rw [fnU_ne c0, fnU_ne c1]; exact h.sr i j hi hj
  · refine ⟨(h.dj i j hi hj ij).1, ?_, ?_, ?_⟩
    · by_cases c0 : i = w <;> by_cases c1 : j = w
      · exact absurd (c0.trans c1.symm) ij
      · rw [c0, fnU_at, fnU_ne c1]; exact ner nx' (old j hj c1).1
      · rw [fnU_ne c0, c1, fnU_at]; exact Ne.symm (ner nx' (old i hi c0).1)
      · rw [fnU_ne c0, fnU_ne c1]; exact (h.dj i j hi hj ij).2.1
    · by_cases c0 : i = w <;> by_cases c1 : j = w
      · exact absurd (c0.trans c1.symm) ij
      · rw [c0, fnU_at, fnU_ne c1]; exact ner nr' (old j hj c1).2.1
      · rw [fnU_ne c0, c1, fnU_at]; exact Ne.symm (ner nr' (old i hi c0).2.1)
      · rw [fnU_ne c0, fnU_ne c1]; exact (h.dj i j hi hj ij).2.2.1
    · by_cases c0 : i = w <;> by_cases c1 : j = w
      · exact absurd (c0.trans c1.symm) ij
      · rw [c0, fnU_at, fnU_ne c1]; exact ner ns' (old j hj c1).2.2
      · rw [fnU_ne c0, c1, fnU_at]; exact Ne.symm (ner ns' (old i hi c0).2.2)
      · rw [fnU_ne c0, fnU_ne c1]; exact (h.dj i j hi hj ij).2.2.2
  · by_cases c0 : i = w
    · rw [c0, fnU_at, fnU_at, fnU_at]
      refine ⟨p, q, pl, ss, [], ⟨dc, up cT ec⟩, L.mv kt1 (upd_ne (nT nx')) (upd_ne (nT nr')), ⟨[.ref tt], up (nT ns') eS, Rw.snoc (vs := []) (l := []) .nil ⟨tt, p2, q2, rfl, kt1 _ _ et, St.kt kt1⟩⟩, Nat.zero_le _, fun y hy => ?_⟩
      rw [List.mem_singleton.mp (show y ∈ [(pl, ss)] from hy)]
      exact ok
    · rw [fnU_ne c0, fnU_ne c0, fnU_ne c0]
      obtain ⟨pi, qi, pli, ssi, esi, S⟩ := h.sd i hi
      obtain ⟨⟨dci, o1⟩, ⟨dxi, o2⟩, ⟨vri, o3⟩, ⟨vsi, o4⟩⟩ := S.objs
      obtain ⟨d1, d2, d3, d4⟩ := h.dj i w hi hw c0
      have tI : ∀ {a C dx : Addr} {fs : List (Str × V)}, G a = some (.ins C dx fs) → a ≠ cf w → upd G' tR (.lst [.ref (fnU sf w s' 0), .ref (fnU sf w s' 1)]) a = G a := fun ea n1 =>
        (up (ne_of ea h.eT (by intro z; cases z)) (e _ _ (ne_of ea zb (by intro z; cases z)) n1 ea)).trans ea.symm
      exact ⟨pi, qi, pli, ssi, esi, S.mv (fun a xs ea => kt1 _ _ (kt0 _ _ ea)) (tI o1 d1) (tI o2 (ne_of o2 w1 (fun z => coF_lvF z.symm))) ((up (h.rb i hi).2.2 (lst o3 (h.rb i hi).1)).trans o3.symm) ((up (h.sb i hi).2.2 (lst o4 (h.sb i hi).1)).trans o4.symm)⟩
/-! ### the law's states as data -/
def stD (y : PT.St) : PyData := .tuple [.tuple (y.1.map PyData.int), .tuple (y.2.map PyData.int)]
theorem dp_st {G : Hp} {v : V} {y : PT.St} (h : StOne G v y) : Dp K G v (stD y) := by
  obtain ⟨a, p, q, rfl, e, St⟩ := h
  exact .tup (.inl (.inl e)) (.cons (.tup St.P.seq (dp_ints _)) (.cons (.tup (.inl (.inl St.S)) (dp_ints _)) .nil))
theorem dp_sts {G : Hp} : ∀ {vs : List V} {L : List PT.St}, Rw (StOne G) vs L → DpAll K G vs (L.map stD)
  | [], [], _ => .nil
  | [], _ :: _, h => absurd h.len (by simp)
  | _ :: _, [], h => absurd h.len (by simp)
  | v :: vs, y :: L, h => .cons (dp_st (h.at_ 0 v y rfl rfl)) (dp_sts ⟨by have := h.len; simpa using this, fun i o' op' a b => h.at_ (i + 1) o' op' a b⟩)
theorem lay_sts : ∀ L : List PT.St, PyData.canLayAll0 (L.map stD) = true
  | [] => by simp [PyData.canLayAll0]
  | y :: L => by
    rw [List.map_cons]
    simp only [PyData.canLayAll0, PyData.canLay0, stD, lay_ints, lay_sts L, Bool.and_self]
theorem depth_sts : ∀ L : List PT.St, PyData.depthAll (L.map stD) ≤ 2
  | [] => Nat.zero_le _
  | y :: L => by
    have ih := depth_sts L
    have e : (stD y).depth ≤ 2 := by
      unfold stD
      simp only [PyData.depthAll, PyData.depth, depth_ints]
      omega
    rw [List.map_cons]
    simp only [PyData.depthAll]
    omega
theorem W56.there (h : W56 T H1 b cR tR cf xf rf sf n t G) : ∃ ds, Dp K G (.ref tR) (.list ds) ∧ SeqAt.shaped (.list ds) = true ∧ ds.any (fun z => PyData.eqv z .none) = false := by
  obtain ⟨_, _, pl0, ss0, es0, S0⟩ := h.sd 0 (by decide)
  obtain ⟨_, _, pl1, ss1, es1, S1⟩ := h.sd 1 (by decide)
  obtain ⟨v0, e0, w0⟩ := S0.st
  obtain ⟨v1, e1, w1⟩ := S1.st
  refine ⟨[.list ((stsE es0 pl0 ss0).map stD), .list ((stsE es1 pl1 ss1).map stD)], .lst (.inl (.inl h.eT)) (.cons (.lst (.inl (.inl e0)) (dp_sts w0)) (.cons (.lst (.inl (.inl e1)) (dp_sts w1)) .nil)), ?_, rfl⟩
  unfold SeqAt.shaped
  have d0 := depth_sts (stsE es0 pl0 ss0)
  have d1 := depth_sts (stsE es1 pl1 ss1)
  simp only [PyData.canLay0, PyData.canLayAll0, PyData.depth, PyData.depthAll, lay_sts, Bool.and_self, Bool.true_and]
  exact decide_eq_true (by omega)
end
end PT

set_option maxHeartbeats 4000000
/-! the law's own call, where it is also known that the table of modules stands in the base -/
namespace PT
open PySem PySem.Spec PyProof.Rows L2 LamX NdefX
theorem law_atGTS {P : Program} {w : World} {K : PySem.W.Frag} {mg mb : Str → Option Value} {fa a : Addr} {s₁ : Shared} {vs : List Value} {ns : List Int} {cs : List (Addr × Addr)}
    (kin : K.In s₁.heap) (gl : s₁.heap.Ns mainGlobals mg) (bl : s₁.heap.Ns builtinsNs mb) (bb : ∀ x : Str, x ≠ "__name__" → mb x = bootBuiltins x) (nl : s₁.heap.NoLimit) (sm : ∃ mm, s₁.heap.Ns sysModules mm) (gn : s₁.gens = #[])
    (tb : ∀ p ∈ cs, s₁.heap.get? p.2 = some (PySem.W.tabObj #[])) (tn : ∀ p ∈ cs, K.lookup p.2 = none) (tc : ∀ p ∈ cs, PySem.W.CodeHd s₁.heap p.1 p.2)
    (bm : ∃ (m : Addr) (ob : Obj), mg "__builtins__" = some (.ref m) ∧ m ≠ builtinsNs ∧ s₁.heap.get? m = some ob ∧ ob.cls = .type "module" ∧ ob.dict = some builtinsNs ∧ ob.data = .plain)
    (ha : s₁.heap.get? a = some { cls := .type "list", data := .seq vs.toArray }) (hi : IntsAre vs ns) (hl : ns.length ≤ sizeLine)
    (F : ∀ (base : Heap) (H : Hp), K.In base → base.Ns mainGlobals mg → (∃ mm, base.Ns sysModules mm) → (∀ p ∈ cs, TabB base mg p.1 p.2) → (∀ p ∈ cs, H p.2 = some (.tbl #[])) → SqL K H a (ns.map V.int) → Env0 P w K mg base callerA [] s₁ H →
      codeAny (model P w) callerA (.call (.ref fa) ⟨[.ref a], []⟩) (CR CX0 [] P w H s₁ (fun v _ => v = .bl true) fun _ _ _ => False) s₁) :
    codeAny (model P w) callerA (.call (.ref fa) ⟨[.ref a], []⟩) (fun r s' => r = .ok (.ret (.bool true)) ∧ OldK s₁.heap s'.heap ∧ s'.os = s₁.os ∧ AllBare s'.gens) s₁ := by
  have rv := vals_ints hi
  have ln := hi.length
  have tabAt : ∀ b, b ∈ cs.map (·.2) → s₁.heap.get? b = some (PySem.W.tabObj #[]) := fun b hb => by
    obtain ⟨p, hp, rfl⟩ := List.mem_map.mp hb
    exact tb p hp
  have aNot : a ∉ cs.map (·.2) := fun z => by
    have y := tabAt a z
    rw [ha] at y
    have y2 := congrArg Obj.data (Option.some.inj y)
    cases y2
  have inT : ∀ p ∈ cs, p.2 ∈ cs.map (·.2) := fun p hp => List.mem_map.mpr ⟨p, hp, rfl⟩
  suffices main : ∃ H : Hp, OnlyT cs H ∧ (∀ p ∈ cs, H p.2 = some (.tbl #[])) ∧ SqL K H a (ns.map V.int) ∧ HOk P w H s₁.heap ∧ (∀ b, H b ≠ none → b ∈ cs.map (·.2) ∨ (b = a ∧ K.lookup a = none)) by
    obtain ⟨H, o1, ot, o2, ok, tr⟩ := main
    have keepH : ∀ {b : Addr} {o : Obj}, s₁.heap.get? b = some o → H b = none → (hidT s₁.heap H).get? b = some o := fun z n => hidT_get z n
    -- what is no list and no empty table is not tracked
    have free : ∀ {b : Addr} {o : Obj}, s₁.heap.get? b = some o → (∀ us n, o.data ≠ .seq us n) → o.data ≠ .fields #[] → H b = none := fun {b o} z1 z2 z3 => by
      by_cases n : H b = none
      · exact n
      · rcases tr b n with y | ⟨y, _⟩
        · rw [tabAt b y] at z1
          cases z1
          exact absurd rfl z3
        · rw [y, ha] at z1
          cases z1
          exact absurd rfl (z2 _ _)
    have seqNot : ∀ {b : Addr} {o : Obj} {es : Array DictEntry} {ep : Nat}, s₁.heap.get? b = some o → o.data = .dict es ep → H b = none := fun {b o es ep} z1 z2 =>
      free z1 (fun us n y => by rw [z2] at y; cases y) fun y => by rw [z2] at y; cases y
    have nss : ∀ {b : Addr} {m : Str → Option Value}, s₁.heap.Ns b m → (hidT s₁.heap H).Ns b m := by
      rintro b m ⟨o, es, ep, z1, z2, r⟩
      exact ⟨o, es, ep, keepH z1 (seqNot z1 z2), z2, r⟩
    have kb : K.In (hidT s₁.heap H) := by
      intro b o z
      refine keepH (kin b o z) ?_
      by_cases n : H b = none
      · exact n
      · rcases tr b n with y | ⟨y, y2⟩
        · obtain ⟨p, hp, e⟩ := List.mem_map.mp y
          rw [← e, tn p hp] at z
          cases z
        · rw [y, y2] at z
          cases z
    have md : Mod K mg (hidT s₁.heap H) := by
      obtain ⟨mc, c1, c2⟩ := nl
      exact ⟨kb, nss gl, ⟨mb, nss bl, bb⟩, ⟨mc, nss c1, c2⟩⟩
    have tabs : ∀ p ∈ cs, TabB (hidT s₁.heap H) mg p.1 p.2 := fun p hp => by
      have tp := tb p hp
      refine ⟨?_, ?_, fun z => ?_⟩
      · obtain ⟨o, us, f1, f2, f3, f4, f5, f6, f7, e1, e2, e3, rest⟩ := tc p hp
        refine ⟨o, us, f1, f2, f3, f4, f5, f6, f7, keepH e1 (free e1 (fun _ _ y => ?_) fun y => ?_), e2, e3, rest⟩
        · rw [e3] at y
          cases y
        · rw [e3] at y
          cases y
          have z := rest.1
          simp at z
      · obtain ⟨m, ob, b1, b2, b3, b4, b5, b6⟩ := bm
        have m1 : m ≠ mainGlobals := fun z => by
          obtain ⟨o, es, ep, y, yd, _⟩ := gl
          rw [z, y] at b3
          cases b3
          rw [yd] at b6
          cases b6
        have m2 : m ≠ p.2 := fun z => by
          rw [z, tp] at b3
          cases b3
          cases b6
        refine ⟨m, ob, b1, b2, m1, m2, keepH b3 (free b3 (fun _ _ y => ?_) fun y => ?_), b4, b5, b6⟩
        · rw [b6] at y
          cases y
        · rw [b6] at y
          cases y
      · obtain ⟨o, es, ep, y, yd, _⟩ := gl
        rw [z, tp] at y
        cases y
        cases yd
    have en : Env0 P w K mg (hidT s₁.heap H) callerA [] s₁ H :=
      ⟨rfl, md, fun _ _ z => of_hidT z, Nat.le_of_eq (hidT_size _ _), trivial, fun b z => absurd (show b ∈ ([] : List Addr) from z) (by simp), ok, .of_eq gn⟩
    refine codeAny_mono (F _ H kb (nss gl) (sm.elim fun mm z => ⟨mm, nss z⟩) tabs ot o2 en) fun r s2 z => ?_
    match r, z with
    | .error _, z => exact False.elim z
    | .ok .next, z => exact False.elim z
    | .ok .brk, z => exact False.elim z
    | .ok .cont, z => exact False.elim z
    | .ok (.ret u), z =>
      obtain ⟨v, H2, os, bare, un, ok2, rr, q⟩ := z
      have q2 : v = .bl true := q
      subst q2
      obtain rfl : u = Value.bool true := rr
      have same : ∀ b o, b ∉ cs.map (·.2) → s₁.heap.get? b = some o → s2.heap.get? b = some o := fun b o nb z => by
        rcases o1 b with n | y | ⟨ob, xs, y⟩
        · exact un.keep b o z n (fun y => absurd (show b ∈ ([] : List Addr) from y) (by simp)) (by simp)
        · exact absurd y nb
        · obtain ⟨y1, _⟩ := ok b _ y
          obtain ⟨y2, _⟩ := ok2 b _ (un.frzs b ob _ y)
          rw [z] at y1
          cases y1
          exact y2
      have more : ∀ p ∈ cs, ∃ m : Array Value, s2.heap.get? p.2 = some (PySem.W.tabObj m) := fun p hp => by
        obtain ⟨m, y⟩ := un.tbls p.2 #[] (ot p hp)
        exact ⟨_, ok2 p.2 _ y⟩
      refine ⟨rfl, ⟨fun b o z => ?_, fun b o z => ?_⟩, os, bare⟩
      · by_cases hb : b ∈ cs.map (·.2)
        · obtain ⟨p, hp, e⟩ := List.mem_map.mp hb
          obtain ⟨m, hm⟩ := more p hp
          rw [← e] at z ⊢
          rw [tb p hp] at z
          cases z
          exact .inr (.inl ⟨((tc p hp).tab (tb p hp)).isCodeTable, rfl, #[], m, rfl, by rw [Array.empty_append]; exact hm⟩)
        · exact .inl (same b o hb z)
      · by_cases hb : b ∈ cs.map (·.2)
        · obtain ⟨p, hp, e⟩ := List.mem_map.mp hb
          obtain ⟨m, hm⟩ := more p hp
          rw [← e]
          exact ⟨_, hm⟩
        · exact ⟨o, same b o hb z⟩
  let tabH : Hp := fun b => if b ∈ cs.map (·.2) then some (.tbl #[]) else none
  have t1 : ∀ {b}, b ∈ cs.map (·.2) → tabH b = some (.tbl #[]) := fun hb => if_pos hb
  have t0 : ∀ {b}, b ∉ cs.map (·.2) → tabH b = none := fun hb => if_neg hb
  cases hk : K.lookup a with
  | some o =>
    have z := kin a o hk
    rw [ha] at z
    cases z
    refine ⟨tabH, fun b => ?_, fun p hp => t1 (inT p hp), .inr ⟨_, vs.toArray, _, hk, rfl, rfl, rfl, by rw [List.size_toArray, ln]; exact hl, by simpa using rv⟩, fun b u y => ?_, fun b y => ?_⟩
    · by_cases hb : b ∈ cs.map (·.2)
      · exact .inr (.inl hb)
      · exact .inl (t0 hb)
    · by_cases hb : b ∈ cs.map (·.2)
      · have y2 := (t1 hb).symm.trans y
        cases y2
        exact tabAt b hb
      · have y2 := (t0 hb).symm.trans y
        cases y2
    · by_cases hb : b ∈ cs.map (·.2)
      · exact .inl hb
      · exact absurd (t0 hb) y
  | none =>
    let scr : HO := .frz { cls := .type "list", data := .seq vs.toArray } (.lst (ns.map V.int))
    have s0 : upd tabH a scr a = some scr := upd_same
    have s1 : ∀ {b}, b ≠ a → upd tabH a scr b = tabH b := fun hb => upd_ne hb
    refine ⟨upd tabH a scr, fun b => ?_, fun p hp => ?_, .inl (.inr ⟨_, s0⟩), fun b u y => ?_, fun b y => ?_⟩
    · by_cases e : b = a
      · subst e
        exact .inr (.inr ⟨_, _, s0⟩)
      · by_cases hb : b ∈ cs.map (·.2)
        · exact .inr (.inl hb)
        · exact .inl ((s1 e).trans (t0 hb))
    · have e : p.2 ≠ a := fun z => aNot (z ▸ inT p hp)
      exact (s1 e).trans (t1 (inT p hp))
    · by_cases e : b = a
      · subst e
        have y2 := s0.symm.trans y
        cases y2
        exact ⟨ha, by rw [List.length_map]; exact hl, vs, _, rv, ha⟩
      · have y1 := (s1 e).symm.trans y
        by_cases hb : b ∈ cs.map (·.2)
        · have y2 := (t1 hb).symm.trans y1
          cases y2
          exact tabAt b hb
        · have y2 := (t0 hb).symm.trans y1
          cases y2
    · by_cases e : b = a
      · exact .inr ⟨e, rfl⟩
      · by_cases hb : b ∈ cs.map (·.2)
        · exact .inl hb
        · exact absurd ((s1 e).trans (t0 hb)) y
/-- what k_head leaves, from such a call -/
theorem walk_GTS {l : PySem.W.OpenLaw} {n : Nat} {q : Program} {loose : List Str} {XP : (Str → Option Value) → Heap → Prop} {YP : World → Heap → Prop} {d : DefRec} {K : Params → PySem.W.Frag} {ts : List Addr}
    (imp : importsNone q = true) (hn : l.most = some n) (hn2 : n ≤ sizeLine) (hdf : d.params.defaults = []) (hY : ∀ (w : World) (h : Heap), YP w h → (K w.params).In h ∧ ∀ P ∈ ts, h.get? P = some (PySem.W.tabObj #[]))
    (F : ∀ (w : World) (mg : Str → Option Value) (fa a : Addr) (st : Shared) (ns : List Int), (K w.params).In st.heap → st.heap.Ns mainGlobals mg → mg d.name = some (.ref fa) → ns.length ≤ n → (∀ P ∈ ts, st.heap.get? P = some (PySem.W.tabObj #[])) →
      ∃ cs : List (Addr × Addr), (∀ p ∈ cs, st.heap.get? p.2 = some (PySem.W.tabObj #[])) ∧ (∀ p ∈ cs, (K w.params).lookup p.2 = none) ∧ (∀ p ∈ cs, PySem.W.CodeHd st.heap p.1 p.2) ∧
        ∀ (base : Heap) (H : Hp), (K w.params).In base → base.Ns mainGlobals mg → (∃ mm, base.Ns sysModules mm) → (∀ p ∈ cs, TabB base mg p.1 p.2) → (∀ p ∈ cs, H p.2 = some (.tbl #[])) → SqL (K w.params) H a (ns.map V.int) → Env0 l.prog w (K w.params) mg base callerA [] st H →
          codeAny (model l.prog w) callerA (.call (.ref fa) ⟨[.ref a], []⟩) (CR CX0 [] l.prog w H st (fun v _ => v = .bl true) fun _ _ _ => False) st) :
    PySem.W.WalkO q loose XP YP l.row.toRowW d [] (fun f vs => PySem.call f vs) := by
  refine Att.attach_call hn hdf fun w s₀ s₁ mg mb fa o pm cd doc a vs ns G Y ho hd hcd hmg hobj hints hlen hg => ?_
  obtain ⟨kin, ht⟩ := hY w _ Y
  obtain ⟨cs, c1, c2, c3, c4⟩ := F w mg fa a s₁ ns kin G.T.g hmg hlen ht
  exact law_atGTS kin G.T.g G.T.b G.T.builtins G.T.nolimit ((G.T.seer imp).mods.elim fun mm z => ⟨mm, z.1⟩) hg c1 c2 c3 G.T.bmain hobj hints (Nat.le_trans hlen hn2) c4
end PT


set_option maxHeartbeats 8000000
/-! law 56: its body -/
namespace PT
open PySem PySem.Spec PyProof.Rows L2 LamX NdefX TL
theorem units56 {k : Nat} {A : Around} (r : Room k A) : A.units + 65 < cLine := by have := r.un; omega
section
variable {K : PySem.W.Frag} {mg : Str → Option Value} {T : Tx K mg}
theorem Sd.keep2 {G G' : Hp} {b c1 c x r s p q dc1 : Addr} {t : Nat} {pl ss : List Int} {es : List Ent} {vs : List V} {v : V} (S : Sd T G c x r s t p q pl ss es) (eb : G b = some (.lst vs)) (e1 : G c1 = some (.ins T.x_Console dc1 (coF v))) (cc : c ≠ c1) (rb : r ≠ b) (sb : s ≠ b) (e : ∀ a o, a ≠ b → a ≠ c1 → G a = some o → G' a = some o) : Sd T G' c x r s t p q pl ss es := by
  obtain ⟨⟨dc, o1⟩, ⟨dx, o2⟩, ⟨vr, o3⟩, ⟨vs, o4⟩⟩ := S.objs
  exact S.mv (fun a xs ea => e _ _ (ne_of ea eb (by intro z; cases z)) (ne_of ea e1 (by intro z; cases z)) ea) ((e _ _ (ne_of o1 eb (by intro z; cases z)) cc o1).trans o1.symm) ((e _ _ (ne_of o2 eb (by intro z; cases z)) (ne_of o2 e1 (fun z => coF_lvF z.symm)) o2).trans o2.symm) ((e _ _ rb (ne_of o3 e1 (by intro z; cases z)) o3).trans o3.symm) ((e _ _ sb (ne_of o4 e1 (by intro z; cases z)) o4).trans o4.symm)
theorem Sd.put {G : Hp} {D c x r s p q : Addr} {t : Nat} {pl ss : List Int} {es : List Ent} {xs ys : List V} (S : Sd T G c x r s t p q pl ss es) (eD : G D = some (.lst xs)) (rD : r ≠ D) (sD : s ≠ D) : Sd T (upd G D (.lst ys)) c x r s t p q pl ss es := by
  obtain ⟨⟨dc, o1⟩, ⟨dx, o2⟩, ⟨vr, o3⟩, ⟨vs, o4⟩⟩ := S.objs
  exact S.mv (kt_put56 eD) (upd_ne (ne_of o1 eD (by intro z; cases z))) (upd_ne (ne_of o2 eD (by intro z; cases z))) (upd_ne rD) (upd_ne sD)
def two (a b : Addr) : Nat → Addr := fun i => if i = 0 then a else b
theorem co_new {G : Hp} {c d : Addr} {v : V} (nc : G c = none) (ndd : G d = none) (ne : d ≠ c) : Same G (upd (upd (upd G d (.own c)) c (.ins T.x_Console d [])) c (.ins T.x_Console d (coF v))) := fun a o h => by
  rw [upd_ne (ne_of_none h nc), upd_ne (ne_of_none h nc), upd_ne (ne_of_none h ndd)]
  exact h
theorem tabs_any {Ts : List (Addr × Str)} {G G' : Hp} (h : Tabs Ts G) (k : ∀ a o, (∀ C dx fs, o ≠ .ins C dx fs) → (∀ vs, o ≠ .lst vs) → G a = some o → G' a = some o) : Tabs Ts G' := fun t ht => by
  obtain ⟨ps, h1, h2, h3⟩ := h t ht
  refine ⟨ps, k _ _ (fun _ _ _ z => by cases z) (fun _ z => by cases z) h1, h2, fun pos cv hc => ?_⟩
  obtain ⟨c2, e3, e4⟩ := h3 pos cv hc
  exact ⟨c2, e3, k _ _ (fun C dx fs => codeO_ins C dx fs) (fun vs => codeO_lst vs) e4⟩
theorem few_days {pl : List Int} {d : Nat} (hP : Plant pl) (l : pl.length ≤ 7) (hd : d ≤ 10 ^ 30) : daysOkL pl d := by
  refine ⟨hd, fun W ok => ?_⟩
  have z := cyl_df hP ok _ 0 rfl (Nat.zero_le _)
  have s := sz_le pl 0
  have m := df_mono (show sz pl 0 - 1 ≤ 7 by omega)
  have d : df 7 ≤ 1000000 := by decide +kernel
  omega
theorem ok_up {pl : List Int} {g g2 : Nat} {m : Int} {n : Opn} (h : n.ok pl g m) (l : g ≤ g2) : n.ok pl g2 m := by
  cases n with
  | days d => exact ⟨h.1, Nat.le_trans h.2 l⟩
  | day => exact h
  | sell j => exact h
  | add j => exact h
  | rem => exact h
def stockT : Str := Str.ofString "stock"
theorem stock_ok : (∀ y ∈ [stockT], 32 ∉ tl y ∧ 10 ∉ tl y) ∧ Txt.startswith stockT opT = false ∧ stockT.length = 5 := by
  have z : tl stockT = [115, 116, 111, 99, 107] := tl_lit (by decide)
  refine ⟨fun y hy => ?_, ?_, ?_⟩
  · rw [List.mem_singleton.mp hy, z]
    decide
  · rw [starts_tl, tl_op, z]
    rfl
  · rw [len_tl, z]
    rfl
/-- before the second plant is opened -/
structure V56 (T : Tx K mg) (H1 : Hp) (b cR D c0 c1 x0 r0 s0 : Addr) (n : Nat) (G : Hp) : Prop where
  ext : ExtN H1 G
  nx : NewN H1 x0
  nr : NewN H1 r0
  ns : NewN H1 s0
  pot : PotAt G b n
  tabs : Tabs T.tabW G
  eC : G cR = some (.lst [.ref c0, .ref c1])
  eD : G D = some (.lst [.ref s0])
  s3 : s0 ≠ b ∧ s0 ≠ cR ∧ s0 ≠ D
  r3 : r0 ≠ b ∧ r0 ≠ cR ∧ r0 ≠ D
  sr : s0 ≠ r0
  c1n : CoAt T G c1 .non
  sd : ∃ (p q : Addr) (pl ss : List Int), Sd T G c0 x0 r0 s0 0 p q pl ss []
end
section
variable {P : Program} {w : World} {K : PySem.W.Frag} {mg : Str → Option Value} {base : Heap}
theorem law_body (T : Tx K mg) (B2 : TabB base mg T.c_oldest_giver T.P_oldest_giver) (B : TabB base mg T.c_words_by_age T.P_words_by_age) (TD : TxD w T) {f a : Addr} {cdv : Value} {st : Shared} {H : Hp} {ns : List Int} (hl : ns.length ≤ 63) (hS : SqL K H a (ns.map V.int)) (sb : ∃ mm, base.Ns sysModules mm) (hT : Tabs T.tabW H) (hr : Room 18 (callerA.deeper (envOfC "law" (defScope sLaw) st.heap.objs.size f cdv))) :
    ∃ t, PSs (cxOf CX0 P w K mg base ["script", "k", "fount", "consoles_here", "console", "there", "turn", "which", "way", "states", "operation", "due", "state", "one", "some", "box"] "law" (defScope sLaw) f cdv callerA [] st H fun _ _ _ => False).nox (defBody sLaw) t ∧ t { nx := fun _ _ => V.non = .bl true, rt := fun v _ => v = .bl true } (start ["script", "k", "fount", "consoles_here", "console", "there", "turn", "which", "way", "states", "operation", "due", "state", "one", "some", "box"] [.ref a]) H := by
  have nd := scLaw.nd
  refine ⟨_, (pss_cons (ps_for PassesOwn.never rfl (pi_range1 (by rfl) T.n_range (pa_cons (pe_callB (call_max2 rfl) (by rfl) T.n_max (by decide +kernel) (pa_cons pe_int (pa_cons (pe_callB (call_min2 rfl) (by rfl) T.n_min (by decide +kernel) (pa_cons pe_int (pa_cons (pe_callB call_len_seq (by rfl) T.n_len PySem.boot_len (pa_cons (pv 0) pa_nil)) pa_nil))) pa_nil))) pa_nil)) (pg_name (i := 1) nd rfl (.inl rfl))
(pss_cons (ps_set (i := 2) nd rfl (.inr rfl) (pe_call (ok_fount T) (hr.mono (by omega)) (by rfl) T.g__law_fount T.F__law_fount.kp T.b__law_fount .nil pass0 (pa_cons (pv 0) (pa_cons (pv 1) pa_nil))))
(pss_cons (ps_set (i := 3) nd rfl (.inl rfl) (pe_lst (pa_cons (pe_make0 T.M_Console (ok_co_init T) (hr.mono (by omega)) (by rfl) T.g_Console T.b_co_init .nil pass0) (pa_cons (pe_make0 T.M_Console (ok_co_init T) (hr.mono (by omega)) (by rfl) T.g_Console T.b_co_init .nil pass0) pa_nil))))
(pss_cons (ps_setLc (i := 5) (own := [("console", 4)]) (g := gName 4) (tt := tYes) (by rfl) nd rfl rfl (sw_true rfl rfl rfl (by decide +kernel)) (pi_list (pv 3))
(blkOk_by (N := ["script", "k", "fount", "consoles_here", "console", "there", "turn", "which", "way", "states", "operation", "due", "state", "one", "some", "box"]) (sc := defScope sLaw) (by decide +kernel)) (fun _ _ _ _ _ => (pg_name (i := 4) nd rfl (.inl rfl))) (fun _ _ _ _ _ => pts_nil) (fun _ _ _ _ _ => (pe_call (ok_opened T B B2 TD) (hr.mono (by omega)) (by rfl) T.g__law_opened T.F__law_opened.kp T.b__law_opened .nil pass0 (pa_cons (pv 2) (pa_cons (pv 4) pa_nil)))))
(pss_one (ps_for PassesOwn.never rfl (pi_range1 (by rfl) T.n_range (pa_cons (pe_call (ok_sip T) (hr.mono (by omega)) (by rfl) T.g__law_sip T.F__law_sip.kp T.b__law_sip .nil pass0 (pa_cons (pv 2) (pa_cons pe_int pa_nil))) pa_nil)) (pg_name (i := 6) nd rfl (.inl rfl))
(pss_cons (ps_par (i := 7) (j := 8) rfl nd rfl rfl (by decide) rfl rfl (pa_cons (pe_call (ok_sip T) (hr.mono (by omega)) (by rfl) T.g__law_sip T.F__law_sip.kp T.b__law_sip .nil pass0 (pa_cons (pv 2) (pa_cons pe_int pa_nil))) (pa_cons (pe_call (ok_sip T) (hr.mono (by omega)) (by rfl) T.g__law_sip T.F__law_sip.kp T.b__law_sip .nil pass0 (pa_cons (pv 2) (pa_cons pe_int pa_nil))) pa_nil)) (by rfl))
(pss_cons (ps_set (i := 4) nd rfl (.inl rfl) (pe_ix ix_list (pv 3) (pv 7) (fun _ _ => rfl)))
(Evl.pss_cut (ps_if (pt_cmpR op_eq (pv 8) pe_int (nomark _))
(pss_one (ps_asg (pe_call (ok_opened T B B2 TD) (hr.mono (by omega)) (by rfl) T.g__law_opened T.F__law_opened.kp T.b__law_opened .nil pass0 (pa_cons (pv 2) (pa_cons (pv 4) pa_nil))) (pg_sub (pv 5) (pv 7) set_list))) pss_nil)
(pss_cons (ps_if (pt_cmpR (op_inD (units56 hr)) pe_non (pv 5) (by rfl))
(pss_one (ps_ret pe_bl)) pss_nil)
(pss_cons (ps_set (i := 9) nd rfl (.inl rfl) (pe_ix ix_list (pv 5) (pv 7) (fun _ _ => rfl)))
(Evl.pss_cut (ps_if (PW.pt (pw_and (pt_cmpR op_lt (pv 8) pe_int (nomark _)) (pw_and1 (pt_not (pt_val (pe_call (ok_undone T B B2 TD) (hr.mono (by omega)) (by rfl) T.g__law_undone T.F__law_undone.kp T.b__law_undone .nil pass0 (pa_cons (pv 4) (pa_cons (pv 9) pa_nil))))))))
(pss_one (ps_ret pe_bl)) pss_nil)
(Evl.pss_cut (ps_if (pt_cmpR op_gt (pv 8) pe_int (nomark _))
(pss_cons (ps_set (i := 10) nd rfl (.inl rfl) (pe_call (ok_oper T) (hr.mono (by omega)) (by rfl) T.g__law_operation T.F__law_operation.kp T.b__law_operation .nil pass0 (pa_cons (pv 2) (pa_cons (pe_ix ix_list (pv 9) (pe_un un_neg pe_int) (fun _ _ => rfl)) (pa_cons pe_int (pa_cons (pe_op op_pow pe_int pe_int) pa_nil))))))
(pss_cons (ps_asg (pe_call (ok_step T) (hr.mono (by omega)) (by rfl) T.g__law_step T.F__law_step.kp T.b__law_step .nil pass0 (pa_cons (pe_ix ix_list (pv 9) (pe_un un_neg pe_int) (fun _ _ => rfl)) (pa_cons (pv 10) pa_nil))) (pg_tup (by rfl) (pgs_cons (pg_name (i := 11) nd rfl (.inl rfl)) (pgs_cons (pg_name (i := 12) nd rfl (.inl rfl)) pgs_nil))))
(pss_cons (ps_expr (pe_bm PySem.F.plainAttrs_list PySem.F.slot_list_append PySem.F.type_list_append mt_append (pv 9) (pa_cons (pv 12) pa_nil)))
(pss_one (ps_if (pt_cmpR op_ne (pe_meth (pv 4) T.C_Console T.M_co_say (ok_co_say T B B2 TD) (hr.mono (by omega)) T.b_co_say .nil pass0 (pa_cons (pe_call (ok_row T) (hr.mono (by omega)) (by rfl) T.g__law_row T.F__law_row.kp T.b__law_row .nil pass0 (pa_cons (pv 10) pa_nil)) pa_nil)) (pe_ifExp (pt_cmpR op_isN (pv 11) pe_non (nomark _)) pe_str (pe_callTy call_str_int (by rfl) T.n_str (by decide +kernel) (pa_cons (pv 11) pa_nil))) (nomark _))
(pss_one (ps_ret pe_bl)) pss_nil))))) pss_nil)
(pss_one (ps_for PassesOwn.never rfl (pi_zip (by rfl) T.n_zip (pa_cons (pv 3) (pa_cons (pv 5) pa_nil))) (pg_tup (by rfl) (pgs_cons (pg_name (i := 13) nd rfl (.inl rfl)) (pgs_cons (pg_name (i := 14) nd rfl (.inl rfl)) pgs_nil)))
(pss_one (ps_if (pt_cmpR op_ne (pe_meth (pv 13) T.C_Console T.M_co_say (ok_co_say T B B2 TD) (hr.mono (by omega)) T.b_co_say .nil pass0 (pa_cons pe_str pa_nil)) (pe_bm PySem.F.plainAttrs_str PySem.F.slot_str_join PySem.F.type_str_join mt_join pe_str (pa_cons (pe_lc (own := [("box", 15)]) (g := gName 15) (tt := tYes) (te := (tCB (fun xs H Q => ∃ i : Int, xs = [.int i] ∧ i.natAbs.log2 < 1920 ∧ Q (.str (toString i)) H) (tCons (tVar 15) tNil))) rfl nd (pi_tup (pe_ix ix_tup (pe_ix ix_list (pv 14) (pe_un un_neg pe_int) (fun _ _ => rfl)) pe_int (fun _ _ => rfl)))
(blkOk_by (N := ["script", "k", "fount", "consoles_here", "console", "there", "turn", "which", "way", "states", "operation", "due", "state", "one", "some", "box"]) (sc := defScope sLaw) (by decide +kernel)) (fun _ _ _ _ _ => (pg_name (i := 15) nd rfl (.inl rfl))) (fun _ _ _ _ _ => pts_nil) (fun _ _ _ _ _ => (pe_callTy call_str_int (by rfl) T.n_str (by decide +kernel) (pa_cons (pv 15) pa_nil)))) pa_nil)) (nomark _))
(pss_one (ps_ret pe_bl)) pss_nil)))))))))))))))))
(pss_one (ps_ret (pe_cmpR (op_notInD (units56 hr)) pe_non (pv 5) (by rfl))))), ?_⟩
  have el : ((ns.map V.int).length : Nat) = ns.length := List.length_map ..
  obtain ⟨m6, e6, l6, l7⟩ : ∃ M : Nat, (if (if ((ns.map V.int).length : Int) < 4 then ((ns.map V.int).length : Int) else 4) > 1 then (if ((ns.map V.int).length : Int) < 4 then ((ns.map V.int).length : Int) else 4) else 1) = (M : Int) ∧ M ≤ 4 ∧ 1 ≤ M := by
    by_cases c1 : ((ns.map V.int).length : Int) < 4
    · rw [if_pos c1]
      by_cases c2 : ((ns.map V.int).length : Int) > 1
      · rw [if_pos c2]
        exact ⟨_, rfl, by omega, by omega⟩
      · rw [if_neg c2]
        exact ⟨1, rfl, by decide, by decide⟩
    · rw [if_neg c1, if_pos (by decide)]
      exact ⟨4, rfl, by decide, by decide⟩
  refine ⟨.ref a, rfl, a, _, rfl, .inl hS, _, _, rfl, _, _, rfl, (m6 : Int), congrArg (fun z => [V.int z]) e6, by omega, by omega, ?_⟩
  refine for_range (lo := 0) (n := m6) (fun i σ H' => ∃ (y1 y2 y3 y4 y5 y6 y7 y8 y9 y10 y11 y12 y13 y14 : Option V), σ = [some (.ref a), y1, y2, y3, y4, y5, y6, y7, y8, y9, y10, y11, y12, y13, y14, none] ∧ SqL K H' a (ns.map V.int) ∧ Tabs T.tabW H' ∧ (1 ≤ i → ∃ (tR : Addr) (ds : List PyData), y5 = some (.ref tR) ∧ Dp K H' (.ref tR) (.list ds) ∧ SeqAt.shaped (.list ds) = true ∧ ds.any (fun z => PyData.eqv z .none) = false))
    ⟨none, none, none, none, none, none, none, none, none, none, none, none, none, none, rfl, hS, hT, fun z => absurd z (by decide)⟩ (fun i σ H1 hi p1 => ?_) (fun σ H1 p1 => ?_)
  · obtain ⟨y1, y2, y3, y4, y5, y6, y7, y8, y9, y10, y11, y12, y13, y14, rfl, S1, t1, _⟩ := p1
    refine ⟨.ref a, rfl, .int (0 + (i : Nat)), rfl, a, ns, i, congrArg (fun z => [V.ref a, V.int z]) (Int.zero_add _), S1, by omega, fun b o nb pb => ?_⟩
    have s2 := same_new (o := o) nb
    have t2 := tabs_same t1 s2
    generalize upd H1 b o = H2 at pb t2 s2 ⊢
    refine fun c0 d0 n0 m0 ne0 => ⟨c0, d0, rfl, upd_same, rfl, fun c1 d1 n1 m1 ne1 => ⟨c1, d1, rfl, upd_same, rfl, (by show 2 ≤ sizeLine; decide), fun cR nC => ?_⟩⟩
    have sA := co_new (K := K) (mg := mg) (T := T) (v := .non) n0 m0 ne0
    have eA0 : upd (upd (upd H2 d0 (.own c0)) c0 (.ins T.x_Console d0 [])) c0 (.ins T.x_Console d0 (coF .non)) c0 = some (.ins T.x_Console d0 (coF .non)) := upd_same
    generalize upd (upd (upd H2 d0 (.own c0)) c0 (.ins T.x_Console d0 [])) c0 (.ins T.x_Console d0 (coF .non)) = HA at n1 m1 sA eA0 nC ⊢
    have sB := co_new (K := K) (mg := mg) (T := T) (v := .non) n1 m1 ne1
    have eB1 : upd (upd (upd HA d1 (.own c1)) c1 (.ins T.x_Console d1 [])) c1 (.ins T.x_Console d1 (coF .non)) c1 = some (.ins T.x_Console d1 (coF .non)) := upd_same
    generalize upd (upd (upd HA d1 (.own c1)) c1 (.ins T.x_Console d1 [])) c1 (.ins T.x_Console d1 (coF .non)) = HB at sB eB1 nC ⊢
    have c01 : c0 ≠ c1 := fun z => by rw [z, n1] at eA0; cases eA0
    have sC := same_new (o := .lst [V.ref c0, .ref c1]) nC
    have eCR : upd HB cR (.lst [.ref c0, .ref c1]) cR = some (.lst [.ref c0, .ref c1]) := upd_same
    have cRb : b ≠ cR := fun z => by
      obtain ⟨_, _, _, zb, _⟩ := id pb
      rw [← z, sB _ _ (sA _ _ zb)] at nC
      cases nC
    generalize upd HB cR (.lst [.ref c0, .ref c1]) = HC at sC eCR ⊢
    have s2C : Same H2 HC := sA.trans (sB.trans sC)
    have e0C := sC _ _ (sB _ _ eA0)
    have e1C := sC _ _ eB1
    have potC := pb.same s2C
    have tC := tabs_same t2 s2C
    have xC : ExtN H1 HC := (same_extN s2).trans (same_extN s2C)
    have nC0 : NewN H1 c0 := (newN_of n0).back (same_extN s2)
    have nC1 : NewN H1 c1 := (newN_of n1).back ((same_extN s2).trans (same_extN sA))
    clear sC sB sA nC n0 m0 ne0 n1 m1 ne1 eA0 eB1
    refine ⟨.ref cR, rfl, cR, rfl, ⟨_, .inl (.inl eCR)⟩, fun D nD => ?_⟩
    have nDn : NewN H1 D := (newN_of nD).back xC
    have bD : b ≠ D := (potC.some nD).symm
    have cRD : cR ≠ D := fun z => by rw [z, nD] at eCR; cases eCR
    obtain ⟨bx0, by0, bz0, ebC, _⟩ := id potC
    refine lc_list (xs := [V.ref c0, .ref c1]) (fun j G => (j = 0 ∧ Same HC G ∧ G D = some (.lst [])) ∨ (j = 1 ∧ ∃ x0 r0 s0, V56 T H1 b cR D c0 c1 x0 r0 s0 300 G) ∨ (j = 2 ∧ ∃ xf rf sf, W56 T H1 b cR D (two c0 c1) xf rf sf 600 0 G)) (.inl ⟨rfl, same_new nD, upd_same⟩)
      (fun j G _ p2 => ?_) (fun j v G ev p2 => ?_) (fun G p2 => ?_)
    · rcases p2 with ⟨_, sG, _⟩ | ⟨_, x0, r0, s0, VV⟩ | ⟨_, xf, rf, sf, W⟩
      · exact .inl (.inl (sG _ _ eCR))
      · exact .inl (.inl VV.eC)
      · exact .inl (.inl W.eC)
    · rcases p2 with ⟨rfl, sG, eD⟩ | ⟨rfl, x0, r0, s0, VV⟩ | ⟨rfl, xf, rf, sf, W⟩
      · cases ev
        have e0G := sG _ _ e0C
        have e1G := sG _ _ e1C
        refine ⟨rfl, tyes_if ⟨.ref b, rfl, .ref c0, rfl, b, c0, .non, 0, rfl, potC.same sG, by decide, ⟨d0, e0G⟩, fun G2 sR t x r p q p2 q2 pl ss k2 e2 ns nx nr sr co L eS et St lp sm => ?_⟩⟩
        have ebG := sG _ _ ebC
        have keepL : ∀ {u : Addr} {vs : List V}, G u = some (.lst vs) → u ≠ b → G2 u = some (.lst vs) := fun eu n1 => e2 _ _ n1 (ne_of eu e0G (by intro z; cases z)) eu
        have eD2 := keepL eD (Ne.symm bD)
        have xG : ExtN H1 G := xC.trans (same_extN sG)
        have nU : ∀ {u : Addr} {o : HO}, G u = none → G2 u = some o ∨ True → u ≠ D ∧ u ≠ b ∧ u ≠ cR := fun hu _ => ⟨(fun z => by rw [z, eD] at hu; cases hu), (fun z => by rw [z, ebG] at hu; cases hu), (fun z => by rw [z, sG _ _ eCR] at hu; cases hu)⟩
        obtain ⟨sD, sB1, sC1⟩ := nU (o := .lst []) ns (.inr trivial)
        obtain ⟨rD, rB1, rC1⟩ := nU (o := .lst []) nr (.inr trivial)
        refine ⟨_, eD2, by decide, .inr (.inl ⟨rfl, x, r, sR, ?_⟩)⟩
        obtain ⟨dc, ec⟩ := co
        have kt := kt_put56 (ys := [V.ref sR]) eD2
        have S0 : Sd T G2 c0 x r sR 0 p q pl ss [] := ⟨⟨dc, ec⟩, L, ⟨[.ref t], eS, Rw.snoc (vs := []) (l := []) .nil ⟨t, p2, q2, rfl, et, St⟩⟩, Nat.zero_le _, fun y hy => by
          rw [List.mem_singleton.mp (show y ∈ [(pl, ss)] from hy)]
          exact ⟨by show pl.length ≤ 7; omega, fun i hi => by have := sm i hi; omega⟩⟩
        have e1' : G2 c1 = some (.ins T.x_Console d1 (coF .non)) := e2 _ _ (ne_of e1G ebG (by intro z; cases z)) (Ne.symm c01) e1G
        obtain ⟨a1, a2, a3, zb, wb⟩ := k2
        exact ⟨fun u o hu z => (upd_ne (newN_ne nDn hu z)).trans (e2 _ _ (newN_ne (newN_of nb) hu z) (newN_ne nC0 hu z) (xG u o hu z)), (newN_of nx).back xG, (newN_of nr).back xG, (newN_of ns).back xG, ⟨a1, a2, a3, (upd_ne bD).trans zb, wb⟩, tabs_set (tabs_two (tabs_same tC sG) ebG e0G e2) eD2, (upd_ne cRD).trans (keepL (sG _ _ eCR) (Ne.symm cRb)), upd_same, ⟨sB1, sC1, sD⟩, ⟨rB1, rC1, rD⟩, sr, ⟨d1, (upd_ne (ne_of e1' eD2 (by intro z; cases z))).trans e1'⟩, p, q, pl, ss, S0.put eD2 rD sD⟩
      · cases ev
        obtain ⟨d1', e1G⟩ := VV.c1n
        obtain ⟨p0, q0, pl0, ss0, S0⟩ := VV.sd
        obtain ⟨⟨dc0, o1⟩, ⟨dx0, o2⟩, ⟨vr0, o3⟩, ⟨vs0, o4⟩⟩ := S0.objs
        obtain ⟨_, _, _, ebG, _⟩ := id VV.pot
        refine ⟨rfl, tyes_if ⟨.ref b, rfl, .ref c1, rfl, b, c1, .non, 300, rfl, VV.pot, by decide, ⟨d1', e1G⟩, fun G2 sR t x r p q p2 q2 pl ss k2 e2 ns nx nr sr co L eS et St lp sm => ?_⟩⟩
        have keepL : ∀ {u : Addr} {vs : List V}, G u = some (.lst vs) → u ≠ b → G2 u = some (.lst vs) := fun eu n1 => e2 _ _ n1 (ne_of eu e1G (by intro z; cases z)) eu
        have eD2 := keepL VV.eD (Ne.symm bD)
        have nU : ∀ {u : Addr}, G u = none → u ≠ D ∧ u ≠ b ∧ u ≠ cR ∧ u ≠ x0 ∧ u ≠ r0 ∧ u ≠ s0 := fun hu => ⟨(fun z => by rw [z, VV.eD] at hu; cases hu), (fun z => by rw [z, ebG] at hu; cases hu), (fun z => by rw [z, VV.eC] at hu; cases hu), (fun z => by rw [z, o2] at hu; cases hu), (fun z => by rw [z, o3] at hu; cases hu), (fun z => by rw [z, o4] at hu; cases hu)⟩
        obtain ⟨sD, sB1, sC1, _, s_r0, s_s0⟩ := nU ns
        obtain ⟨rD, rB1, rC1, _, r_r0, r_s0⟩ := nU nr
        obtain ⟨_, _, _, x_x0, _, _⟩ := nU nx
        refine ⟨_, eD2, by show 1 < sizeLine; decide, .inr (.inr ⟨rfl, two x0 x, two r0 r, two s0 sR, ?_⟩)⟩
        obtain ⟨dc, ec⟩ := co
        have okN : ∀ y ∈ stsE [] pl ss, okS 0 y := fun y hy => by
          rw [List.mem_singleton.mp (show y ∈ [(pl, ss)] from hy)]
          exact ⟨by show pl.length ≤ 7; omega, fun i hi => by have := sm i hi; omega⟩
        have SN : Sd T G2 c1 x r sR 0 p q pl ss [] := ⟨⟨dc, ec⟩, L, ⟨[.ref t], eS, Rw.snoc (vs := []) (l := []) .nil ⟨t, p2, q2, rfl, et, St⟩⟩, Nat.zero_le _, okN⟩
        have SO := S0.keep2 ebG e1G c01 VV.r3.1 VV.s3.1 e2
        obtain ⟨a1, a2, a3, zb, wb⟩ := k2
        have i2 : ∀ i, i < 2 → i = 0 ∨ i = 1 := fun i h => by omega
        refine ⟨fun u o hu z => (upd_ne (newN_ne nDn hu z)).trans (e2 _ _ (newN_ne (newN_of nb) hu z) (newN_ne nC1 hu z) (VV.ext u o hu z)), newN_of nb, nDn, fun i h => ?_, fun i h => ?_, fun i h => ?_, fun i h => ?_, ⟨a1, a2, a3, (upd_ne bD).trans zb, wb⟩, tabs_set (tabs_two VV.tabs ebG e1G e2) eD2, (upd_ne cRD).trans (keepL VV.eC (Ne.symm cRb)), upd_same, cRb, bD, cRD, fun i h => ?_, fun i h => ?_, fun i j h h2 => ?_, fun i j h h2 ij => ?_, fun i h => ?_⟩
        · rcases i2 i h with rfl | rfl
          · exact nC0
          · exact nC1
        · rcases i2 i h with rfl | rfl
          · exact VV.nx
          · exact (newN_of nx).back VV.ext
        · rcases i2 i h with rfl | rfl
          · exact VV.nr
          · exact (newN_of nr).back VV.ext
        · rcases i2 i h with rfl | rfl
          · exact VV.ns
          · exact (newN_of ns).back VV.ext
        · rcases i2 i h with rfl | rfl
          · exact VV.s3
          · exact ⟨sB1, sC1, sD⟩
        · rcases i2 i h with rfl | rfl
          · exact VV.r3
          · exact ⟨rB1, rC1, rD⟩
        · rcases i2 i h with rfl | rfl <;> rcases i2 j h2 with rfl | rfl
          · exact VV.sr
          · exact Ne.symm r_s0
          · exact s_r0
          · exact sr
        · rcases i2 i h with rfl | rfl <;> rcases i2 j h2 with rfl | rfl
          · exact absurd rfl ij
          · exact ⟨c01, Ne.symm x_x0, Ne.symm r_r0, Ne.symm s_s0⟩
          · exact ⟨Ne.symm c01, x_x0, r_r0, s_s0⟩
          · exact absurd rfl ij
        · rcases i2 i h with rfl | rfl
          · exact ⟨p0, q0, pl0, ss0, [], SO.put eD2 VV.r3.2.2 VV.s3.2.2⟩
          · exact ⟨p, q, pl, ss, [], SN.put eD2 rD sD⟩
      · cases ev
    · have W0 : ∃ xf rf sf, W56 T H1 b cR D (two c0 c1) xf rf sf 600 0 G := by
        rcases p2 with ⟨z, _⟩ | ⟨z, _⟩ | ⟨_, W⟩
        · exact absurd z (by show ¬ 2 = 0; decide)
        · exact absurd z (by show ¬ 2 = 1; decide)
        · exact W
      obtain ⟨xf0, rf0, sf0, W0⟩ := W0
      clear p2 ebC cRD bD nDn nD
      have xS : SqL K H1 a (ns.map V.int) := S1
      clear e0C e1C potC tC s2C xC eCR cRb S1
      refine ⟨.ref b, rfl, b, 15, 600, rfl, by decide, by decide, W0.pot, by decide, fun r6 H6 a6 b6 k6 B6 O6 => ?_⟩
      obtain ⟨M, rfl⟩ := Int.eq_ofNat_of_zero_le a6
      have W6 := W0.sip k6 B6
      clear W0 k6 B6 O6
      refine ⟨(M : Int), rfl, by omega, by omega, ?_⟩
      refine for_range (lo := 0) (n := M) (fun t σ G => ∃ (z4 z6 z7 z8 z9 z10 z11 z12 z13 z14 : Option V) (xf rf sf : Nat → Addr), σ = [some (.ref a), some (.int (0 + (i : Nat))), some (.ref b), some (.ref cR), z4, some (.ref D), z6, z7, z8, z9, z10, z11, z12, z13, z14, none] ∧ W56 T H1 b cR D (two c0 c1) xf rf sf (601 + 400 * t) t G)
        ⟨_, _, _, _, _, _, _, _, _, _, xf0, rf0, sf0, rfl, W6⟩ (fun t σ G ht p3 => ?_) (fun σ G p3 => ?_)
      · obtain ⟨z4, z6, z7, z8, z9, z10, z11, z12, z13, z14, xf, rf, sf, rfl, W⟩ := p3
        clear W6
        refine ⟨.ref b, rfl, b, 2, _, rfl, by decide, by decide, W.pot, by omega, fun rw1 G1 a1 b1 k1 B1 O1 => ⟨.ref b, rfl, b, 8, _, rfl, by decide, by decide, k1, by omega, fun ry G2 a2 b2 k2 B2 O2 => ⟨_, _, rfl, ?_⟩⟩⟩
        have W2 := (W.sip k1 B1).sip k2 B2
        clear W k1 B1 O1 k2 B2 O2
        obtain ⟨ww, rfl⟩ := Int.eq_ofNat_of_zero_le a1
        have hw : ww < 2 := by omega
        have atT : ∀ f : Nat → Addr, atI [V.ref (f 0), .ref (f 1)] (ww : Int) = some (.ref (f ww)) := fun f => by
          rcases (show ww = 0 ∨ ww = 1 by omega) with rfl | rfl
          · exact atI_nat (j := 0) rfl
          · exact atI_nat (j := 1) rfl
        refine ⟨.ref cR, rfl, .int (ww : Int), rfl, cR, _, (ww : Int), .ref (two c0 c1 ww), rfl, rfl, .inl (.inl W2.eC), atT (two c0 c1), ?_⟩
        refine ⟨fun σ G => ∃ (xf rf sf : Nat → Addr), σ = [some (.ref a), some (.int (0 + (i : Nat))), some (.ref b), some (.ref cR), some (.ref (two c0 c1 ww)), some (.ref D), some (.int (0 + (t : Nat))), some (.int (ww : Int)), some (.int ry), z9, z10, z11, z12, z13, z14, none] ∧ W56 T H1 b cR D (two c0 c1) xf rf sf (601 + 400 * t + 302) t G, ?_, fun σ G pw => ?_⟩
        · refine ⟨.int ry, rfl, rfl, _, rfl, ite2 (fun cz => ?_) (fun cz => ?_)⟩
          · obtain ⟨pw, qw, plw, ssw, esw, Sw⟩ := W2.sd ww hw
            refine ⟨.ref b, rfl, .ref (two c0 c1 ww), rfl, b, two c0 c1 ww, .ref (xf ww), _, rfl, W2.pot, by omega, Sw.co, fun G3 s' tt x' r' p q p2 q2 pl ss k3 e3 ns' nx' nr' sr' co L eS et St lp sm => ?_⟩
            have ok0 : okS t (pl, ss) := ⟨by show pl.length ≤ 7; omega, fun i hi => by
              have := sm i hi
              have : (0 : Int) ≤ (t : Int) * 10 ^ 31 := Int.mul_nonneg (Int.natCast_nonneg t) (by decide)
              omega⟩
            have W3 := (W2.opened hw k3 e3 ns' nx' nr' sr' co L eS et St ok0).mono (m := 601 + 400 * t + 302) (by omega)
            have eT3 : G3 D = some (.lst [.ref (sf 0), .ref (sf 1)]) := by
              obtain ⟨_, _, _, zb, _⟩ := id W2.pot
              obtain ⟨dcw, ew⟩ := Sw.co
              exact e3 _ _ (Ne.symm W2.bt) (ne_of W2.eT ew (by intro z; cases z)) W2.eT
            have eset : ([V.ref (sf 0), .ref (sf 1)] : List V).set ww (.ref s') = [.ref (fnU sf ww s' 0), .ref (fnU sf ww s' 1)] := by
              rcases (show ww = 0 ∨ ww = 1 by omega) with rfl | rfl <;> rfl
            have eix : ixN ([V.ref (sf 0), .ref (sf 1)] : List V).length (ww : Int) = some ww := by
              rcases (show ww = 0 ∨ ww = 1 by omega) with rfl | rfl <;> rfl
            refine ⟨.ref D, rfl, .int (ww : Int), rfl, D, _, (ww : Int), ww, rfl, rfl, eT3, eix, ?_⟩
            rw [eset]
            exact ⟨_, _, _, rfl, W3⟩
          · exact ⟨xf, rf, sf, rfl, W2.mono (by omega)⟩
        · obtain ⟨xf, rf, sf, rfl, W⟩ := pw
          clear W2
          obtain ⟨ds, dT, sh, no⟩ := W.there
          refine ⟨.ref D, rfl, .none, ds, .non, dT, rfl, sh, _, rfl, ?_⟩
          rw [no]
          refine iteF ?_
          clear dT sh no ds
          refine ⟨.ref D, rfl, .int (ww : Int), rfl, D, _, (ww : Int), .ref (sf ww), rfl, rfl, .inl (.inl W.eT), atT sf, ?_⟩
          refine ⟨fun σ G => σ = [some (.ref a), some (.int (0 + (i : Nat))), some (.ref b), some (.ref cR), some (.ref (two c0 c1 ww)), some (.ref D), some (.int (0 + (t : Nat))), some (.int (ww : Int)), some (.int ry), some (.ref (sf ww)), z10, z11, z12, z13, z14, none] ∧ W56 T H1 b cR D (two c0 c1) xf rf sf (601 + 400 * t + 302) t G, ?_, fun σ G pw => ?_⟩
          · refine ⟨.int ry, rfl, _, _, rfl, rfl, _, rfl, ite2 (fun cy => ?_) (fun cy => iteF ⟨rfl, W⟩)⟩
            obtain ⟨p, q, pl, ss, es, S⟩ := W.sd ww hw
            obtain ⟨⟨dc, o1⟩, ⟨dx, o2⟩, ⟨vr, o3⟩, ⟨vs', o4⟩⟩ := S.objs
            have sx : sf ww ≠ xf ww := ne_of o4 o2 (by intro z; cases z)
            have srw := W.sr ww ww hw hw
            have few := S.few
            obtain ⟨vs, eS, rw_⟩ := S.st
            obtain ⟨us, u, rfl, ru, su⟩ := Rw.pop (l := es.map stE) (a := (pl, ss)) rw_
            by_cases ce : es = []
            · subst ce
              have lu := ru.len
              obtain rfl : us = [] := List.length_eq_zero_iff.mp lu
              refine ⟨.ref _, rfl, .ref _, rfl, two c0 c1 ww, xf ww, rf ww, p, q, sf ww, pl, ss, rfl, S.co, sx, srw, .inl ⟨u, eS, S.lv, fun G2 s2 => ⟨_, rfl, iteF ⟨rfl, W.same s2⟩⟩⟩⟩
            · obtain ⟨es2, en, rfl⟩ : ∃ l x, es = l ++ [x] := ⟨_, _, (List.dropLast_concat_getLast ce).symm⟩
              have lu := ru.len
              rw [List.length_map, List.length_append] at lu
              have lu : us.length = es2.length + 1 := lu
              rw [List.length_append] at few
              have few : es2.length + 1 ≤ t := few
              refine ⟨.ref _, rfl, .ref _, rfl, two c0 c1 ww, xf ww, rf ww, p, q, sf ww, pl, ss, rfl, S.co, sx, srw, .inr ⟨us, u, es2, en, eS, (fun z => by rw [z] at lu; cases lu), S.lv, by omega, fun G2 p3 q3 e2 eS2 L2 => ⟨_, rfl, iteF ⟨rfl, ?_⟩⟩⟩⟩
              have kt : KT G G2 := fun a xs ea => e2 _ _ (ne_of ea o2 (by intro z; cases z)) (ne_of ea o3 (by intro z; cases z)) (ne_of ea o4 (by intro z; cases z)) ea
              refine W.op hw (fun a o h1 h2 h3 ea _ => e2 a o h1 h2 h3 ea) (tabs_any W.tabs fun a o n1 n2 ea => e2 a o (fun z => ?_) (fun z => ?_) (fun z => ?_) ea) (Nat.le_refl _) ⟨p3, q3, en.pl, en.ss, es2, ⟨dc, e2 _ _ (ne_of o1 o2 coF_lvF) (ne_of o1 o3 (by intro z; cases z)) (ne_of o1 o4 (by intro z; cases z)) o1⟩, L2, ⟨us, eS2, ?_⟩, by omega, fun y hy => ?_⟩ (fun h => h)
              · rw [z, o2] at ea
                exact n1 _ _ _ (Option.some.inj ea).symm
              · rw [z, o3] at ea
                exact n2 _ (Option.some.inj ea).symm
              · rw [z, o4] at ea
                exact n2 _ (Option.some.inj ea).symm
              · have z : (es2 ++ [en]).map stE = stsE es2 en.pl en.ss := by
                  unfold stsE
                  rw [List.map_append]
                  rfl
                rw [z] at ru
                exact ru.imp fun v a y => StOne.kt kt y
              · refine S.ok y ?_
                unfold stsE at hy ⊢
                rw [List.map_append]
                exact List.mem_append_left _ hy
          · obtain ⟨rfl, W⟩ := pw
            refine ⟨fun σ G => ∃ (z10 z11 z12 : Option V), σ = [some (.ref a), some (.int (0 + (i : Nat))), some (.ref b), some (.ref cR), some (.ref (two c0 c1 ww)), some (.ref D), some (.int (0 + (t : Nat))), some (.int (ww : Int)), some (.int ry), some (.ref (sf ww)), z10, z11, z12, z13, z14, none] ∧ W56 T H1 b cR D (two c0 c1) xf rf sf (601 + 400 * t + 310) (t + 1) G, ?_, fun σ G pw => ?_⟩
            · refine ⟨.int ry, rfl, _, _, rfl, rfl, _, rfl, ite2 (fun cy => ?_) (fun cy => ⟨_, _, _, rfl, W.next.mono (by omega)⟩)⟩
              obtain ⟨p, q, pl, ss, es, S⟩ := W.sd ww hw
              obtain ⟨vs, eS, rw_⟩ := S.st
              obtain ⟨us, u, rfl, ru, sl, pa, qa, rfl, ela, Sta⟩ := Rw.pop (l := es.map stE) (a := (pl, ss)) rw_
              have lu := ru.len
              rw [List.length_map] at lu
              have few := S.few
              have okp : okS t (pl, ss) := S.ok _ (List.mem_append_right _ List.mem_cons_self)
              obtain ⟨nX, eX, hX⟩ : ∃ nX, nX = 601 + 400 * t + 302 ∧ nX ≤ 601 + 400 * t + 302 := ⟨_, rfl, Nat.le_refl _⟩
              rw [← eX] at W
              refine ⟨.ref b, rfl, .ref (sf ww), rfl, 1, rfl, sf ww, _, -1, .ref sl, rfl, rfl, .inl (.inl eS), atI_last us _, 10, 30, rfl, rfl, ⟨by decide, by decide, by decide⟩, b, sl, pa, qa, pl, ss, 8, 10 ^ 30, nX, rfl, W.pot, by omega, ela, Sta, by decide, by decide, fun HO o op kO BO nO' hop hok => ?_⟩
              have WO := W.sip kO BO
              have ktO := BO.kt W.pot
              have eSO := BO _ _ (W.sb ww hw).1 eS
              have elaO := ktO _ _ ela
              have StaO := Sta.kt ktO
              have hok2 : op.ok pl (10 ^ 30) 8 := ok_up hok (by decide)
              refine ⟨.ref (sf ww), rfl, 1, rfl, sf ww, _, -1, .ref sl, rfl, rfl, .inl (.inl eSO), atI_last us _, .ref o, rfl, sl, pa, qa, pl, ss, .ref o, op, _, 8, rfl, elaO, StaO, hop, hok, by decide, fun d e => ?_, fun H7 t7 s7 p5 q5 sm7 et es7 St5 => ?_⟩
              · subst e
                exact few_days Sta.P.ok okp.1 hok2.2
              refine ⟨t7, _, rfl, .inl (.inl et), rfl, _, _, rfl, _, _, rfl, rfl, ?_⟩
              have eS7 := sm7 _ _ eSO
              have W7 := WO.same sm7
              refine ⟨.ref (sf ww), rfl, .inl ⟨rfl, _, .inl (.inl eS7)⟩, .ref s7, rfl, sf ww, _, .ref s7, rfl, rfl, eS7, by rw [List.length_append]; exact small1000 (by show us.length + 1 ≤ 1000; omega), ?_⟩
              obtain ⟨⟨dc, o1⟩, ⟨dx, o2⟩, ⟨vr, o3⟩, ⟨vs', o4⟩⟩ := S.objs
              obtain ⟨_, _, _, zb, _⟩ := id W.pot
              have k7 : ∀ {u : Addr} {oo : L2.HO}, u ≠ b → G u = some oo → H7 u = some oo := fun n e => sm7 _ _ (BO _ _ n e)
              have S7 : Sd T H7 (two c0 c1 ww) (xf ww) (rf ww) (sf ww) t p q pl ss es := S.mv (fun u xs e => sm7 _ _ (ktO _ _ e)) ((k7 (ne_of o1 zb (by intro z; cases z)) o1).trans o1.symm) ((k7 (ne_of o2 zb (by intro z; cases z)) o2).trans o2.symm) ((k7 (W.rb ww hw).1 o3).trans o3.symm) ((k7 (W.sb ww hw).1 o4).trans o4.symm)
              have hop7 := hop.kt (Same.kt sm7)
              have o17 := k7 (ne_of o1 zb (by intro z; cases z)) o1
              have o27 := k7 (ne_of o2 zb (by intro z; cases z)) o2
              have o37 := k7 (W.rb ww hw).1 o3
              have kt8 : KT H7 (upd H7 (sf ww) (.lst (us ++ [.ref sl] ++ [.ref s7]))) := kt_put56 eS7
              have eS8 : upd H7 (sf ww) (.lst (us ++ [.ref sl] ++ [.ref s7])) (sf ww) = some (.lst (us ++ [.ref sl] ++ [.ref s7])) := upd_same
              have k8 : ∀ u oo, u ≠ sf ww → H7 u = some oo → upd H7 (sf ww) (.lst (us ++ [.ref sl] ++ [.ref s7])) u = some oo := fun u oo n e => (upd_ne n).trans e
              have o18 := k8 _ _ (ne_of o17 eS7 (by intro z; cases z)) o17
              have L8 := S7.lv.mv kt8 (upd_ne (ne_of o27 eS7 (by intro z; cases z))) (upd_ne (Ne.symm (W.sr ww ww hw hw)))
              have hop8 := hop7.kt kt8
              have tb8 : Tabs T.tabW (upd H7 (sf ww) (.lst (us ++ [.ref sl] ++ [.ref s7]))) := tabs_set W7.tabs eS7
              have rw8 : Rw (StOne (upd H7 (sf ww) (.lst (us ++ [.ref sl] ++ [.ref s7])))) (us ++ [.ref sl]) (stsE es pl ss) := rw_.imp fun v a y => StOne.kt (fun u xs e => kt8 _ _ (sm7 _ _ (ktO _ _ e))) y
              have es8 := kt8 _ _ es7
              have St8 := St5.kt kt8
              generalize upd H7 (sf ww) (.lst (us ++ [.ref sl] ++ [.ref s7])) = H8 at kt8 eS8 k8 o18 L8 hop8 tb8 rw8 es8 St8 ⊢
              obtain ⟨ne, fr, nst, len⟩ := row_ok hok2 Sta.P.ok.len
              have lp39 := Sta.P.ok.len
              refine ⟨.ref (two c0 c1 ww), rfl, two c0 c1 ww, dc, _, rfl, o18, coF_no _, .ref o, rfl, .ref o, op, pl, 8, rfl, hop8, hok2, lp39, fun H9 s9 => .inr ⟨two c0 c1 ww, xf ww, partsT op, rfl, ⟨dc, s9 _ _ o18⟩, ne, fr, nst, len, fun H10 l s10 nl el => ?_⟩⟩
              have s910 := s9.trans s10
              have smB : ∀ i ∈ ss, i.natAbs < 10 ^ 50 := fun i hi => by
                have := okp.2 i hi
                have : (t : Int) * 10 ^ 31 ≤ 15 * 10 ^ 31 := Int.mul_le_mul_of_nonneg_right (by omega) (by decide)
                omega
              refine ⟨xf ww, l, rf ww, p, q, pl, ss, partsT op, rfl, el, .inl ⟨es, op, 8, rfl, L8.same s910, hok2, by decide, by omega, smB, tabs_same tb8 s910, fun H11 p6 q6 b11 t11 L11 => ?_⟩⟩
              have L9 := L8.same s910
              have kt11 : KT H8 H11 := fun u xs e => b11.kt L9 _ _ (s910 _ _ e)
              have cx : two c0 c1 ww ≠ xf ww := ne_of o17 o27 coF_lvF
              have cr : two c0 c1 ww ≠ rf ww := ne_of o17 o37 (by intro z; cases z)
              have sx : sf ww ≠ xf ww := ne_of eS7 o27 (by intro z; cases z)
              have srw := W.sr ww ww hw hw
              have fin : W56 T H1 b cR D (two c0 c1) xf rf sf (601 + 400 * t + 310) (t + 1) H11 := by
                refine (W7.op hw (fun u oo h1 h2 h3 e z => b11 _ _ h1 h2 (s910 _ _ (k8 _ _ h3 e)) z) t11 (Nat.le_succ t) ⟨p6, q6, op.pl pl, op.ss pl ss, _, ⟨dc, b11 _ _ cx cr (s910 _ _ o18) (fun _ z => by cases z)⟩, L11, ⟨_, b11 _ _ sx srw (s910 _ _ eS8) (fun _ z => by cases z), ?_⟩, ?_, fun y hy => ?_⟩ (fun h => h.next)).mono (by omega)
                · have z : stsE (es ++ [⟨op.op, pl, ss⟩]) (op.pl pl) (op.ss pl ss) = stsE es pl ss ++ [(op.pl pl, op.ss pl ss)] := by
                    unfold stsE
                    rw [List.map_append]
                    rfl
                  rw [z]
                  exact (rw8.imp fun v a y => StOne.kt kt11 y).snoc ⟨s7, p5, q5, rfl, kt11 _ _ es8, St8.kt kt11⟩
                · rw [List.length_append]
                  show es.length + 1 ≤ t + 1
                  omega
                · have z : stsE (es ++ [⟨op.op, pl, ss⟩]) (op.pl pl) (op.ss pl ss) = stsE es pl ss ++ [(op.pl pl, op.ss pl ss)] := by
                    unfold stsE
                    rw [List.map_append]
                    rfl
                  rw [z] at hy
                  rcases List.mem_append.mp hy with hy | hy
                  · exact (S.ok y hy).next
                  · rw [List.mem_singleton.mp hy]
                    exact okp.op Sta.P.ok Sta.ls Sta.nd hok2
              have hb : ∀ j : Nat, (bx ss j).natAbs < 10 ^ 50 := fun j => by
                by_cases c : j < ss.length
                · exact smB _ (List.mem_of_getElem? (bx_at c))
                · unfold bx
                  rw [Int.toNat_natCast, List.getD_eq_getElem?_getD, List.getElem?_eq_none (by omega)]
                  decide
              have e0 : ∀ x : V, (!decide (x = x)) = false := fun x => by rw [decide_eq_true rfl]; rfl
              cases op with
              | day => exact ⟨_, rfl, rfl, _, rfl, iteF ⟨_, rfl, _, rfl, numT_log (hb 0), rfl, _, rfl, by rw [show (!decide (V.str (ansT .day ss) = V.str (Str.ofString (toString (bx ss 0))))) = false from e0 _]; exact iteF ⟨_, _, _, rfl, fin⟩⟩⟩
              | sell j => exact ⟨_, rfl, rfl, _, rfl, iteF ⟨_, rfl, _, rfl, numT_log (hb j), rfl, _, rfl, by rw [show (!decide (V.str (ansT (.sell j) ss) = V.str (Str.ofString (toString (bx ss j))))) = false from e0 _]; exact iteF ⟨_, _, _, rfl, fin⟩⟩⟩
              | days d => exact ⟨_, rfl, rfl, _, rfl, iteT ⟨rfl, _, rfl, by rw [show (!decide (V.str (ansT (.days d) ss) = V.str (Str.ofString "ok"))) = false from e0 _]; exact iteF ⟨_, _, _, rfl, fin⟩⟩⟩
              | add j => exact ⟨_, rfl, rfl, _, rfl, iteT ⟨rfl, _, rfl, by rw [show (!decide (V.str (ansT (.add j) ss) = V.str (Str.ofString "ok"))) = false from e0 _]; exact iteF ⟨_, _, _, rfl, fin⟩⟩⟩
              | rem => exact ⟨_, rfl, rfl, _, rfl, iteT ⟨rfl, _, rfl, by rw [show (!decide (V.str (ansT .rem ss) = V.str (Str.ofString "ok"))) = false from e0 _]; exact iteF ⟨_, _, _, rfl, fin⟩⟩⟩
            · obtain ⟨z10, z11, z12, rfl, W⟩ := pw
              refine ⟨.ref cR, rfl, .ref D, rfl, cR, D, _, _, rfl, .inl (.inl W.eC), .inl (.inl W.eT), ?_⟩
              refine for_it (walk_zip (n := 2) (xs := [V.ref (two c0 c1 0), .ref (two c0 c1 1)]) (ys := [V.ref (sf 0), .ref (sf 1)]) rfl)
                (fun j σ G => ∃ (z13 z14 : Option V), σ = [some (.ref a), some (.int (0 + (i : Nat))), some (.ref b), some (.ref cR), some (.ref (two c0 c1 ww)), some (.ref D), some (.int (0 + (t : Nat))), some (.int (ww : Int)), some (.int ry), some (.ref (sf ww)), z10, z11, z12, z13, z14, none] ∧ W56 T H1 b cR D (two c0 c1) xf rf sf (601 + 400 * t + 310) (t + 1) G)
                ⟨_, _, rfl, W⟩ (fun j σ G _ p4 => ?_) (fun j v σ G G4 hj p4 y => ?_) (fun σ G p4 => ?_)
              · obtain ⟨_, _, _, W⟩ := p4
                exact ⟨.inl (.inl W.eC), .inl (.inl W.eT)⟩
              · obtain ⟨z13, z14, rfl, W⟩ := p4
                obtain ⟨T2, x1', x2', rfl, n2, rfl, g1, g2⟩ := y
                obtain ⟨rfl, rfl⟩ : V.ref (two c0 c1 j) = x1' ∧ V.ref (sf j) = x2' := by
                  rcases (show j = 0 ∨ j = 1 by omega) with rfl | rfl
                  · cases g1; cases g2; exact ⟨rfl, rfl⟩
                  · cases g1; cases g2; exact ⟨rfl, rfl⟩
                have W4 := W.same (same_new (o := .tup [V.ref (two c0 c1 j), .ref (sf j)]) n2)
                refine ⟨T2, _, rfl, .inl (.inl upd_same), rfl, _, _, rfl, _, _, rfl, rfl, ?_⟩
                generalize upd G T2 (.tup [V.ref (two c0 c1 j), .ref (sf j)]) = G4 at W4 ⊢
                obtain ⟨p, q, pl, ss, es, S⟩ := W4.sd j (by omega)
                obtain ⟨⟨dc, o1⟩, _, _, _⟩ := S.objs
                obtain ⟨vs, eS, rw_⟩ := S.st
                obtain ⟨us, u, rfl, ru, sl, pa, qa, rfl, ela, Sta⟩ := Rw.pop (l := es.map stE) (a := (pl, ss)) rw_
                have okp : okS (t + 1) (pl, ss) := S.ok _ (List.mem_append_right _ List.mem_cons_self)
                have smB : ∀ i ∈ ss, i.natAbs < 10 ^ 50 := fun i hi => by
                  have := okp.2 i hi
                  have : ((t + 1 : Nat) : Int) * 10 ^ 31 ≤ 16 * 10 ^ 31 := Int.mul_le_mul_of_nonneg_right (by omega) (by decide)
                  omega
                have l60 : ss.length ≤ 60 := by
                  have h1 : ss.length = pl.length + 1 := Sta.ls
                  have h2 : pl.length ≤ 39 := Sta.P.ok.len
                  omega
                obtain ⟨fr, nst, len⟩ := stock_ok
                refine ⟨.ref (two c0 c1 j), rfl, two c0 c1 j, dc, _, rfl, o1, coF_no _, .inr ⟨two c0 c1 j, xf j, [stockT], rfl, ⟨dc, o1⟩, by simp, fr, nst, by rw [show Txt.join spT [stockT] = stockT from rfl, len]; decide, fun G5 l s5 nl el => ?_⟩⟩
                refine ⟨xf j, l, rf j, p, q, pl, ss, [stockT], rfl, el, .inr (.inr ⟨es, rfl, S.lv.same s5, smB, fun G6 s6 => ?_⟩)⟩
                have s56 := s5.trans s6
                refine ⟨rfl, .ref (sf j), rfl, 1, rfl, sf j, _, -1, .ref sl, rfl, rfl, .inl (.inl (s56 _ _ eS)), atI_last us _, sl, _, 1, .ref qa, rfl, rfl, .inl (.inl (s56 _ _ ela)), atI_nat (j := 1) rfl, qa, rfl, ⟨_, .inl (.inl (s56 _ _ Sta.S))⟩, fun D2 nD2 => ?_⟩
                refine lc_tup (xs := ss.map V.int) (fun i G => Same G6 G ∧ G D2 = some (.lst (((ss.take i).map numT).map V.str))) ⟨same_new nD2, upd_same⟩ (fun i G _ p1 => .inl (.inl (p1.1 _ _ (s56 _ _ Sta.S)))) (fun i v G ev p1 => ?_) (fun G p1 => ?_)
                · obtain ⟨sG, eD⟩ := p1
                  rw [List.getElem?_map] at ev
                  obtain ⟨bo, ej, rfl⟩ := Option.map_eq_some_iff.mp ev
                  have hi : i < ss.length := (List.getElem?_eq_some_iff.mp ej).1
                  refine ⟨rfl, tyes_if ⟨.int bo, rfl, bo, rfl, numT_log (smB bo (List.mem_of_getElem? ej)), _, eD, ?_, fun c' o h => (upd_ne (ne_of_none h nD2)).trans (sG _ _ h), ?_⟩⟩
                  · rw [List.length_map, List.length_map, List.length_take]
                    exact small300 (by omega)
                  · rw [upd_same, List.take_add_one, ej, List.map_append, List.map_append]
                    rfl
                · obtain ⟨sG, eD⟩ := p1
                  rw [List.length_map, List.take_length] at eD
                  have big := sum_le (B := 60) (ys := ss.map numT) (fun y hy => by
                    obtain ⟨i, hi, rfl⟩ := List.mem_map.mp hy
                    exact numT_len (smB i hi))
                  refine ⟨spT, D2, ss.map numT, rfl, rfl, .inl (.inl (.inl eD)), ?_, rfl, _, rfl, ?_⟩
                  · rw [show spT.length = 1 by decide +kernel]
                    rw [List.length_map] at big ⊢
                    have : ss.length * 60 ≤ 60 * 60 := Nat.mul_le_mul_right _ l60
                    omega
                  · rw [show (!decide (V.str (spacedT ss) = V.str (Txt.join spT (ss.map numT)))) = false by rw [show spacedT ss = Txt.join spT (ss.map numT) from rfl, decide_eq_true rfl]; rfl]
                    exact iteF ⟨_, _, rfl, W4.same (s56.trans sG)⟩
              · obtain ⟨z13, z14, rfl, W⟩ := p4
                exact ⟨_, _, _, _, _, _, _, _, _, _, xf, rf, sf, rfl, W.mono (by omega)⟩
      · obtain ⟨z4, z6, z7, z8, z9, z10, z11, z12, z13, z14, xf, rf, sf, rfl, W⟩ := p3
        obtain ⟨ds, dT, sh, no⟩ := W.there
        exact ⟨_, _, _, _, _, _, _, _, _, _, _, _, _, _, rfl, extN_seqL W.ext xS, W.tabs, fun _ => ⟨D, ds, rfl, dT, sh, no⟩⟩
  · obtain ⟨y1, y2, y3, y4, y5, y6, y7, y8, y9, y10, y11, y12, y13, y14, rfl, S1, t1, hT5⟩ := p1
    obtain ⟨tR, ds, rfl, dT, sh, no⟩ := hT5 l7
    refine ⟨.ref tR, rfl, .none, ds, .non, dT, rfl, sh, ?_⟩
    rw [no]
    rfl
end
end PT

set_option maxHeartbeats 8000000
/-! the end: what the top has left, and the law's call -/
namespace PT
open PySem PySem.Spec PyProof.Rows L2 LamX NdefX
theorem all_mk {l : PySem.W.OpenLaw} {w : World} {K : PySem.W.Frag} {mg : Str → Option Value} {fa a : Addr} {st : Shared} {ns : List Int} {p15 p16 p17 p18 p19 p20 p21 p22 p23 p24 p26 p29 p30 p31 p32 p34 p35 p36 p37 p39 p40 p41 p42 p43 p44 p45 p47 p49 p50 p51 p52 p54 p55 p56 p60 p61 p64 p65 p66 p70 p71 p72 p73 p74 p75 p76 p77 p78 p79 p80 p81 p82 p86 p87 p88 p90 p91 p92 p93 p94 p95 p96 p97 p98 p99 p100 p101 p102 p103 p104 : Addr} {t_MOST_STATIONS : Tok} {t_FARTHEST_DAY : Tok} {t_MOST_DAYS : Tok} {t_MOST_DIGITS_texts : Tok} {t_MOST_DIGITS_console : Tok}
    (X : K.In st.heap) (G : st.heap.Ns mainGlobals mg) (hfa : mg "law" = some (.ref fa)) (hl : ns.length ≤ 63)
    {TD31 : Addr}
    {od15 an15 od16 an16 od17 an17 od18 an18 od19 an19 od20 an20 od21 an21 od22 an22 od23 an23 od24 an24 od26 an26 od29 an29 od30 an30 od31 an31 od32 an32 od34 an34 od35 an35 od36 an36 od37 an37 od39 an39 od40 an40 od41 an41 od42 an42 od43 an43 od44 an44 od45 an45 od47 an47 od49 an49 od50 an50 od51 an51 od52 an52 od54 an54 od55 an55 od56 an56 od60 an60 od61 an61 od64 an64 od65 an65 od66 an66 od70 an70 od71 an71 od72 an72 od73 an73 od74 an74 od75 an75 od76 an76 od77 an77 od78 an78 od79 an79 od80 an80 od81 an81 od82 an82 od86 an86 od87 an87 od88 an88 od90 an90 od91 an91 od92 an92 od93 an93 od94 an94 od95 an95 od96 an96 od97 an97 od98 an98 od99 an99 od100 an100 od101 an101 od102 an102 od103 an103 od104 an104 : Option Addr} {sl15 sl16 sl17 sl18 sl19 sl20 sl21 sl22 sl23 sl24 sl26 sl29 sl30 sl31 sl32 sl34 sl35 sl36 sl37 sl39 sl40 sl41 sl42 sl43 sl44 sl45 sl47 sl49 sl50 sl51 sl52 sl54 sl55 sl56 sl60 sl61 sl64 sl65 sl66 sl70 sl71 sl72 sl73 sl74 sl75 sl76 sl77 sl78 sl79 sl80 sl81 sl82 sl86 sl87 sl88 sl90 sl91 sl92 sl93 sl94 sl95 sl96 sl97 sl98 sl99 sl100 sl101 sl102 sl103 sl104 : Array (Option Value)} {oc15 kV15 dc15 pm15 ct15 cd15 oc16 kV16 dc16 pm16 ct16 cd16 oc17 kV17 dc17 pm17 ct17 cd17 oc18 kV18 dc18 pm18 ct18 cd18 oc19 kV19 dc19 pm19 ct19 cd19 oc20 kV20 dc20 pm20 ct20 cd20 oc21 kV21 dc21 pm21 ct21 cd21 oc22 kV22 dc22 pm22 ct22 cd22 oc23 kV23 dc23 pm23 ct23 cd23 oc24 kV24 dc24 pm24 ct24 cd24 oc26 kV26 dc26 pm26 ct26 cd26 oc29 kV29 dc29 pm29 ct29 cd29 oc30 kV30 dc30 pm30 ct30 cd30 oc31 kV31 dc31 pm31 ct31 cd31 oc32 kV32 dc32 pm32 ct32 oc34 kV34 dc34 pm34 ct34 cd34 oc35 kV35 dc35 pm35 ct35 cd35 oc36 kV36 dc36 pm36 ct36 cd36 oc37 kV37 dc37 pm37 ct37 cd37 oc39 kV39 dc39 pm39 ct39 cd39 oc40 kV40 dc40 pm40 ct40 oc41 kV41 dc41 pm41 ct41 cd41 oc42 kV42 dc42 pm42 ct42 cd42 oc43 kV43 dc43 pm43 ct43 cd43 oc44 kV44 dc44 pm44 ct44 cd44 oc45 kV45 dc45 pm45 ct45 cd45 oc47 kV47 dc47 pm47 ct47 cd47 oc49 kV49 dc49 pm49 ct49 cd49 oc50 kV50 dc50 pm50 ct50 cd50 oc51 kV51 dc51 pm51 ct51 cd51 oc52 kV52 dc52 pm52 ct52 cd52 oc54 kV54 dc54 pm54 ct54 cd54 oc55 kV55 dc55 pm55 ct55 cd55 oc56 kV56 dc56 pm56 ct56 cd56 oc60 kV60 dc60 pm60 ct60 cd60 oc61 kV61 dc61 pm61 ct61 cd61 oc64 kV64 dc64 pm64 ct64 cd64 oc65 kV65 dc65 pm65 ct65 cd65 oc66 kV66 dc66 pm66 ct66 cd66 oc70 kV70 dc70 pm70 ct70 cd70 oc71 kV71 dc71 pm71 ct71 cd71 oc72 kV72 dc72 pm72 ct72 cd72 oc73 kV73 dc73 pm73 ct73 cd73 oc74 kV74 dc74 pm74 ct74 cd74 oc75 kV75 dc75 pm75 ct75 cd75 oc76 kV76 dc76 pm76 ct76 cd76 oc77 kV77 dc77 pm77 ct77 cd77 oc78 kV78 dc78 pm78 ct78 cd78 oc79 kV79 dc79 pm79 ct79 cd79 oc80 kV80 dc80 pm80 ct80 cd80 oc81 kV81 dc81 pm81 ct81 cd81 oc82 kV82 dc82 pm82 ct82 cd82 oc86 kV86 dc86 pm86 ct86 cd86 oc87 kV87 dc87 pm87 ct87 cd87 oc88 kV88 dc88 pm88 ct88 cd88 oc90 kV90 dc90 pm90 ct90 cd90 oc91 kV91 dc91 pm91 ct91 cd91 oc92 kV92 dc92 pm92 ct92 cd92 oc93 kV93 dc93 pm93 ct93 cd93 oc94 kV94 dc94 pm94 ct94 cd94 oc95 kV95 dc95 pm95 ct95 cd95 oc96 kV96 dc96 pm96 ct96 cd96 oc97 kV97 dc97 pm97 ct97 cd97 oc98 kV98 dc98 pm98 ct98 cd98 oc99 kV99 dc99 pm99 ct99 cd99 oc100 kV100 dc100 pm100 ct100 cd100 oc101 kV101 dc101 pm101 ct101 cd101 oc102 kV102 dc102 pm102 ct102 cd102 oc103 kV103 dc103 pm103 ct103 cd103 oc104 kV104 dc104 pm104 ct104 cd104 : Value}
    {cc32 PP32 cc40 PP40 : Addr}
    (a15 : PySem.W.nsIn K mainGlobals "is_integer" = some (some (.ref p15))) (l15 : K.lookup p15 = some ⟨oc15, od15, .func (PySem.W.fnOf "is_integer" "is_integer" (defArgs sIsInteger) (defBody sIsInteger) (defScope sIsInteger) .none kV15 dc15 pm15 an15 cd15 ct15), sl15⟩) (c15 : PySem.W.codeIn K cd15 "is_integer" = true) (k15 : PySem.W.keepIn K (.ref p15) = true)
    (a16 : PySem.W.nsIn K mainGlobals "is_within" = some (some (.ref p16))) (l16 : K.lookup p16 = some ⟨oc16, od16, .func (PySem.W.fnOf "is_within" "is_within" (defArgs sIsWithin) (defBody sIsWithin) (defScope sIsWithin) .none kV16 dc16 pm16 an16 cd16 ct16), sl16⟩) (c16 : PySem.W.codeIn K cd16 "is_within" = true) (k16 : PySem.W.keepIn K (.ref p16) = true)
    (a17 : PySem.W.nsIn K mainGlobals "is_decimal" = some (some (.ref p17))) (l17 : K.lookup p17 = some ⟨oc17, od17, .func (PySem.W.fnOf "is_decimal" "is_decimal" (defArgs sIsDecimal) (defBody sIsDecimal) (defScope sIsDecimal) .none kV17 dc17 pm17 an17 cd17 ct17), sl17⟩) (c17 : PySem.W.codeIn K cd17 "is_decimal" = true) (k17 : PySem.W.keepIn K (.ref p17) = true)
    (a18 : PySem.W.nsIn K mainGlobals "fits_plant" = some (some (.ref p18))) (l18 : K.lookup p18 = some ⟨oc18, od18, .func (PySem.W.fnOf "fits_plant" "fits_plant" (defArgs sFitsPlant) (defBody sFitsPlant) (defScope sFitsPlant) .none kV18 dc18 pm18 an18 cd18 ct18), sl18⟩) (c18 : PySem.W.codeIn K cd18 "fits_plant" = true) (k18 : PySem.W.keepIn K (.ref p18) = true)
    (a19 : PySem.W.nsIn K mainGlobals "fits_station" = some (some (.ref p19))) (l19 : K.lookup p19 = some ⟨oc19, od19, .func (PySem.W.fnOf "fits_station" "fits_station" (defArgs sFitsStation) (defBody sFitsStation) (defScope sFitsStation) .none kV19 dc19 pm19 an19 cd19 ct19), sl19⟩) (c19 : PySem.W.codeIn K cd19 "fits_station" = true) (k19 : PySem.W.keepIn K (.ref p19) = true)
    (a20 : PySem.W.nsIn K mainGlobals "fits_stock" = some (some (.ref p20))) (l20 : K.lookup p20 = some ⟨oc20, od20, .func (PySem.W.fnOf "fits_stock" "fits_stock" (defArgs sFitsStock) (defBody sFitsStock) (defScope sFitsStock) .none kV20 dc20 pm20 an20 cd20 ct20), sl20⟩) (c20 : PySem.W.codeIn K cd20 "fits_stock" = true) (k20 : PySem.W.keepIn K (.ref p20) = true)
    (a21 : PySem.W.nsIn K mainGlobals "check_plant" = some (some (.ref p21))) (l21 : K.lookup p21 = some ⟨oc21, od21, .func (PySem.W.fnOf "check_plant" "check_plant" (defArgs sCheckPlant) (defBody sCheckPlant) (defScope sCheckPlant) .none kV21 dc21 pm21 an21 cd21 ct21), sl21⟩) (c21 : PySem.W.codeIn K cd21 "check_plant" = true) (k21 : PySem.W.keepIn K (.ref p21) = true)
    (a22 : PySem.W.nsIn K mainGlobals "check_station" = some (some (.ref p22))) (l22 : K.lookup p22 = some ⟨oc22, od22, .func (PySem.W.fnOf "check_station" "check_station" (defArgs sCheckStation) (defBody sCheckStation) (defScope sCheckStation) .none kV22 dc22 pm22 an22 cd22 ct22), sl22⟩) (c22 : PySem.W.codeIn K cd22 "check_station" = true) (k22 : PySem.W.keepIn K (.ref p22) = true)
    (a23 : PySem.W.nsIn K mainGlobals "check_stock" = some (some (.ref p23))) (l23 : K.lookup p23 = some ⟨oc23, od23, .func (PySem.W.fnOf "check_stock" "check_stock" (defArgs sCheckStock) (defBody sCheckStock) (defScope sCheckStock) .none kV23 dc23 pm23 an23 cd23 ct23), sl23⟩) (c23 : PySem.W.codeIn K cd23 "check_stock" = true) (k23 : PySem.W.keepIn K (.ref p23) = true)
    (a24 : PySem.W.nsIn K mainGlobals "check_days" = some (some (.ref p24))) (l24 : K.lookup p24 = some ⟨oc24, od24, .func (PySem.W.fnOf "check_days" "check_days" (defArgs sCheckDays) (defBody sCheckDays) (defScope sCheckDays) .none kV24 dc24 pm24 an24 cd24 ct24), sl24⟩) (c24 : PySem.W.codeIn K cd24 "check_days" = true) (k24 : PySem.W.keepIn K (.ref p24) = true)
    (a26 : PySem.W.nsIn K mainGlobals "supplier_lists" = some (some (.ref p26))) (l26 : K.lookup p26 = some ⟨oc26, od26, .func (PySem.W.fnOf "supplier_lists" "supplier_lists" (defArgs sSupplierLists) (defBody sSupplierLists) (defScope sSupplierLists) .none kV26 dc26 pm26 an26 cd26 ct26), sl26⟩) (c26 : PySem.W.codeIn K cd26 "supplier_lists" = true) (k26 : PySem.W.keepIn K (.ref p26) = true)
    (a29 : PySem.W.nsIn K mainGlobals "run" = some (some (.ref p29))) (l29 : K.lookup p29 = some ⟨oc29, od29, .func (PySem.W.fnOf "run" "run" (defArgs sRun) (defBody sRun) (defScope sRun) .none kV29 dc29 pm29 an29 cd29 ct29), sl29⟩) (c29 : PySem.W.codeIn K cd29 "run" = true) (k29 : PySem.W.keepIn K (.ref p29) = true)
    (a30 : PySem.W.nsIn K mainGlobals "first_days" = some (some (.ref p30))) (l30 : K.lookup p30 = some ⟨oc30, od30, .func (PySem.W.fnOf "first_days" "first_days" (defArgs sFirstDays) (defBody sFirstDays) (defScope sFirstDays) .none kV30 dc30 pm30 an30 cd30 ct30), sl30⟩) (c30 : PySem.W.codeIn K cd30 "first_days" = true) (k30 : PySem.W.keepIn K (.ref p30) = true)
    (a31 : PySem.W.nsIn K mainGlobals "pass_day" = some (some (.ref p31))) (l31 : K.lookup p31 = some ⟨oc31, od31, .func (PySem.W.fnOf "pass_day" "pass_day" (defArgs sPassDay) (defBody sPassDay) (defScope sPassDay) (.ref TD31) kV31 dc31 pm31 an31 cd31 ct31), sl31⟩) (c31 : PySem.W.codeIn K cd31 "pass_day" = true) (k31 : PySem.W.keepIn K (.ref p31) = true)
    {Tc31 : Value} {To31 : Option Addr} {Ts31 : Array (Option Value)} {Tt31 : Tok} {Tn31 : Nat} (u31 : K.lookup TD31 = some ⟨Tc31, To31, .seq #[.int 0 Tt31] Tn31, Ts31⟩)
    (a32 : PySem.W.nsIn K mainGlobals "oldest_giver" = some (some (.ref p32))) (l32 : K.lookup p32 = some ⟨oc32, od32, .func (PySem.W.fnOf "oldest_giver" "oldest_giver" (defArgs sOldestGiver) (defBody sOldestGiver) (defScope sOldestGiver) .none kV32 dc32 pm32 an32 (.ref cc32) ct32), sl32⟩) (c32 : PySem.W.codeIn K (.ref cc32) "oldest_giver" = true) (k32 : PySem.W.keepIn K (.ref p32) = true)
    (a34 : PySem.W.nsIn K mainGlobals "days_until_ordered" = some (some (.ref p34))) (l34 : K.lookup p34 = some ⟨oc34, od34, .func (PySem.W.fnOf "days_until_ordered" "days_until_ordered" (defArgs sDaysUntilOrdered) (defBody sDaysUntilOrdered) (defScope sDaysUntilOrdered) .none kV34 dc34 pm34 an34 cd34 ct34), sl34⟩) (c34 : PySem.W.codeIn K cd34 "days_until_ordered" = true) (k34 : PySem.W.keepIn K (.ref p34) = true)
    (a35 : PySem.W.nsIn K mainGlobals "last_disorder" = some (some (.ref p35))) (l35 : K.lookup p35 = some ⟨oc35, od35, .func (PySem.W.fnOf "last_disorder" "last_disorder" (defArgs sLastDisorder) (defBody sLastDisorder) (defScope sLastDisorder) .none kV35 dc35 pm35 an35 cd35 ct35), sl35⟩) (c35 : PySem.W.codeIn K cd35 "last_disorder" = true) (k35 : PySem.W.keepIn K (.ref p35) = true)
    (a36 : PySem.W.nsIn K mainGlobals "days_to_order" = some (some (.ref p36))) (l36 : K.lookup p36 = some ⟨oc36, od36, .func (PySem.W.fnOf "days_to_order" "days_to_order" (defArgs sDaysToOrder) (defBody sDaysToOrder) (defScope sDaysToOrder) .none kV36 dc36 pm36 an36 cd36 ct36), sl36⟩) (c36 : PySem.W.codeIn K cd36 "days_to_order" = true) (k36 : PySem.W.keepIn K (.ref p36) = true)
    (a37 : PySem.W.nsIn K mainGlobals "check_ordered" = some (some (.ref p37))) (l37 : K.lookup p37 = some ⟨oc37, od37, .func (PySem.W.fnOf "check_ordered" "check_ordered" (defArgs sCheckOrdered) (defBody sCheckOrdered) (defScope sCheckOrdered) .none kV37 dc37 pm37 an37 cd37 ct37), sl37⟩) (c37 : PySem.W.codeIn K cd37 "check_ordered" = true) (k37 : PySem.W.keepIn K (.ref p37) = true)
    (a39 : PySem.W.nsIn K mainGlobals "word" = some (some (.ref p39))) (l39 : K.lookup p39 = some ⟨oc39, od39, .func (PySem.W.fnOf "word" "word" (defArgs sWord) (defBody sWord) (defScope sWord) .none kV39 dc39 pm39 an39 cd39 ct39), sl39⟩) (c39 : PySem.W.codeIn K cd39 "word" = true) (k39 : PySem.W.keepIn K (.ref p39) = true)
    (a40 : PySem.W.nsIn K mainGlobals "words_by_age" = some (some (.ref p40))) (l40 : K.lookup p40 = some ⟨oc40, od40, .func (PySem.W.fnOf "words_by_age" "words_by_age" (defArgs sWordsByAge) (defBody sWordsByAge) (defScope sWordsByAge) .none kV40 dc40 pm40 an40 (.ref cc40) ct40), sl40⟩) (c40 : PySem.W.codeIn K (.ref cc40) "words_by_age" = true) (k40 : PySem.W.keepIn K (.ref p40) = true)
    (a41 : PySem.W.nsIn K mainGlobals "ranks_by_words" = some (some (.ref p41))) (l41 : K.lookup p41 = some ⟨oc41, od41, .func (PySem.W.fnOf "ranks_by_words" "ranks_by_words" (defArgs sRanksByWords) (defBody sRanksByWords) (defScope sRanksByWords) .none kV41 dc41 pm41 an41 cd41 ct41), sl41⟩) (c41 : PySem.W.codeIn K cd41 "ranks_by_words" = true) (k41 : PySem.W.keepIn K (.ref p41) = true)
    (a42 : PySem.W.nsIn K mainGlobals "turned_words" = some (some (.ref p42))) (l42 : K.lookup p42 = some ⟨oc42, od42, .func (PySem.W.fnOf "turned_words" "turned_words" (defArgs sTurnedWords) (defBody sTurnedWords) (defScope sTurnedWords) .none kV42 dc42 pm42 an42 cd42 ct42), sl42⟩) (c42 : PySem.W.codeIn K cd42 "turned_words" = true) (k42 : PySem.W.keepIn K (.ref p42) = true)
    (a43 : PySem.W.nsIn K mainGlobals "turned" = some (some (.ref p43))) (l43 : K.lookup p43 = some ⟨oc43, od43, .func (PySem.W.fnOf "turned" "turned" (defArgs sTurned) (defBody sTurned) (defScope sTurned) .none kV43 dc43 pm43 an43 cd43 ct43), sl43⟩) (c43 : PySem.W.codeIn K cd43 "turned" = true) (k43 : PySem.W.keepIn K (.ref p43) = true)
    (a44 : PySem.W.nsIn K mainGlobals "emptied_by_words" = some (some (.ref p44))) (l44 : K.lookup p44 = some ⟨oc44, od44, .func (PySem.W.fnOf "emptied_by_words" "emptied_by_words" (defArgs sEmptiedByWords) (defBody sEmptiedByWords) (defScope sEmptiedByWords) .none kV44 dc44 pm44 an44 cd44 ct44), sl44⟩) (c44 : PySem.W.codeIn K cd44 "emptied_by_words" = true) (k44 : PySem.W.keepIn K (.ref p44) = true)
    (a45 : PySem.W.nsIn K mainGlobals "times_given" = some (some (.ref p45))) (l45 : K.lookup p45 = some ⟨oc45, od45, .func (PySem.W.fnOf "times_given" "times_given" (defArgs sTimesGiven) (defBody sTimesGiven) (defScope sTimesGiven) .none kV45 dc45 pm45 an45 cd45 ct45), sl45⟩) (c45 : PySem.W.codeIn K cd45 "times_given" = true) (k45 : PySem.W.keepIn K (.ref p45) = true)
    (a47 : PySem.W.nsIn K mainGlobals "common_divisor" = some (some (.ref p47))) (l47 : K.lookup p47 = some ⟨oc47, od47, .func (PySem.W.fnOf "common_divisor" "common_divisor" (defArgs sCommonDivisor) (defBody sCommonDivisor) (defScope sCommonDivisor) .none kV47 dc47 pm47 an47 cd47 ct47), sl47⟩) (c47 : PySem.W.codeIn K cd47 "common_divisor" = true) (k47 : PySem.W.keepIn K (.ref p47) = true)
    (a49 : PySem.W.nsIn K mainGlobals "cycle_length" = some (some (.ref p49))) (l49 : K.lookup p49 = some ⟨oc49, od49, .func (PySem.W.fnOf "cycle_length" "cycle_length" (defArgs sCycleLength) (defBody sCycleLength) (defScope sCycleLength) .none kV49 dc49 pm49 an49 cd49 ct49), sl49⟩) (c49 : PySem.W.codeIn K cd49 "cycle_length" = true) (k49 : PySem.W.keepIn K (.ref p49) = true)
    (a50 : PySem.W.nsIn K mainGlobals "period_of" = some (some (.ref p50))) (l50 : K.lookup p50 = some ⟨oc50, od50, .func (PySem.W.fnOf "period_of" "period_of" (defArgs sPeriodOf) (defBody sPeriodOf) (defScope sPeriodOf) .none kV50 dc50 pm50 an50 cd50 ct50), sl50⟩) (c50 : PySem.W.codeIn K cd50 "period_of" = true) (k50 : PySem.W.keepIn K (.ref p50) = true)
    (a51 : PySem.W.nsIn K mainGlobals "length_of_cycle" = some (some (.ref p51))) (l51 : K.lookup p51 = some ⟨oc51, od51, .func (PySem.W.fnOf "length_of_cycle" "length_of_cycle" (defArgs sLengthOfCycle) (defBody sLengthOfCycle) (defScope sLengthOfCycle) .none kV51 dc51 pm51 an51 cd51 ct51), sl51⟩) (c51 : PySem.W.codeIn K cd51 "length_of_cycle" = true) (k51 : PySem.W.keepIn K (.ref p51) = true)
    (a52 : PySem.W.nsIn K mainGlobals "common_multiple" = some (some (.ref p52))) (l52 : K.lookup p52 = some ⟨oc52, od52, .func (PySem.W.fnOf "common_multiple" "common_multiple" (defArgs sCommonMultiple) (defBody sCommonMultiple) (defScope sCommonMultiple) .none kV52 dc52 pm52 an52 cd52 ct52), sl52⟩) (c52 : PySem.W.codeIn K cd52 "common_multiple" = true) (k52 : PySem.W.keepIn K (.ref p52) = true)
    (a54 : PySem.W.nsIn K mainGlobals "maker_on" = some (some (.ref p54))) (l54 : K.lookup p54 = some ⟨oc54, od54, .func (PySem.W.fnOf "maker_on" "maker_on" (defArgs sMakerOn) (defBody sMakerOn) (defScope sMakerOn) .none kV54 dc54 pm54 an54 cd54 ct54), sl54⟩) (c54 : PySem.W.codeIn K cd54 "maker_on" = true) (k54 : PySem.W.keepIn K (.ref p54) = true)
    (a55 : PySem.W.nsIn K mainGlobals "far_stock" = some (some (.ref p55))) (l55 : K.lookup p55 = some ⟨oc55, od55, .func (PySem.W.fnOf "far_stock" "far_stock" (defArgs sFarStock) (defBody sFarStock) (defScope sFarStock) .none kV55 dc55 pm55 an55 cd55 ct55), sl55⟩) (c55 : PySem.W.codeIn K cd55 "far_stock" = true) (k55 : PySem.W.keepIn K (.ref p55) = true)
    (a56 : PySem.W.nsIn K mainGlobals "far_chain" = some (some (.ref p56))) (l56 : K.lookup p56 = some ⟨oc56, od56, .func (PySem.W.fnOf "far_chain" "far_chain" (defArgs sFarChain) (defBody sFarChain) (defScope sFarChain) .none kV56 dc56 pm56 an56 cd56 ct56), sl56⟩) (c56 : PySem.W.codeIn K cd56 "far_chain" = true) (k56 : PySem.W.keepIn K (.ref p56) = true)
    (a60 : PySem.W.nsIn K mainGlobals "sold_on" = some (some (.ref p60))) (l60 : K.lookup p60 = some ⟨oc60, od60, .func (PySem.W.fnOf "sold_on" "sold_on" (defArgs sSoldOn) (defBody sSoldOn) (defScope sSoldOn) .none kV60 dc60 pm60 an60 cd60 ct60), sl60⟩) (c60 : PySem.W.codeIn K cd60 "sold_on" = true) (k60 : PySem.W.keepIn K (.ref p60) = true)
    (a61 : PySem.W.nsIn K mainGlobals "sales_of_first" = some (some (.ref p61))) (l61 : K.lookup p61 = some ⟨oc61, od61, .func (PySem.W.fnOf "sales_of_first" "sales_of_first" (defArgs sSalesOfFirst) (defBody sSalesOfFirst) (defScope sSalesOfFirst) .none kV61 dc61 pm61 an61 cd61 ct61), sl61⟩) (c61 : PySem.W.codeIn K cd61 "sales_of_first" = true) (k61 : PySem.W.keepIn K (.ref p61) = true)
    (a64 : PySem.W.nsIn K mainGlobals "read_plant" = some (some (.ref p64))) (l64 : K.lookup p64 = some ⟨oc64, od64, .func (PySem.W.fnOf "read_plant" "read_plant" (defArgs sReadPlant) (defBody sReadPlant) (defScope sReadPlant) .none kV64 dc64 pm64 an64 cd64 ct64), sl64⟩) (c64 : PySem.W.codeIn K cd64 "read_plant" = true) (k64 : PySem.W.keepIn K (.ref p64) = true)
    (a65 : PySem.W.nsIn K mainGlobals "check_text" = some (some (.ref p65))) (l65 : K.lookup p65 = some ⟨oc65, od65, .func (PySem.W.fnOf "check_text" "check_text" (defArgs sCheckText) (defBody sCheckText) (defScope sCheckText) .none kV65 dc65 pm65 an65 cd65 ct65), sl65⟩) (c65 : PySem.W.codeIn K cd65 "check_text" = true) (k65 : PySem.W.keepIn K (.ref p65) = true)
    (a66 : PySem.W.nsIn K mainGlobals "number_in" = some (some (.ref p66))) (l66 : K.lookup p66 = some ⟨oc66, od66, .func (PySem.W.fnOf "number_in" "number_in" (defArgs sNumberIn) (defBody sNumberIn) (defScope sNumberIn) .none kV66 dc66 pm66 an66 cd66 ct66), sl66⟩) (c66 : PySem.W.codeIn K cd66 "number_in" = true) (k66 : PySem.W.keepIn K (.ref p66) = true)
    (a70 : PySem.W.nsIn K mainGlobals "say_day" = some (some (.ref p70))) (l70 : K.lookup p70 = some ⟨oc70, od70, .func (PySem.W.fnOf "say_day" "say_day" (defArgs sSayDay) (defBody sSayDay) (defScope sSayDay) .none kV70 dc70 pm70 an70 cd70 ct70), sl70⟩) (c70 : PySem.W.codeIn K cd70 "say_day" = true) (k70 : PySem.W.keepIn K (.ref p70) = true)
    (a71 : PySem.W.nsIn K mainGlobals "say_remove" = some (some (.ref p71))) (l71 : K.lookup p71 = some ⟨oc71, od71, .func (PySem.W.fnOf "say_remove" "say_remove" (defArgs sSayRemove) (defBody sSayRemove) (defScope sSayRemove) .none kV71 dc71 pm71 an71 cd71 ct71), sl71⟩) (c71 : PySem.W.codeIn K cd71 "say_remove" = true) (k71 : PySem.W.keepIn K (.ref p71) = true)
    (a72 : PySem.W.nsIn K mainGlobals "say_undo" = some (some (.ref p72))) (l72 : K.lookup p72 = some ⟨oc72, od72, .func (PySem.W.fnOf "say_undo" "say_undo" (defArgs sSayUndo) (defBody sSayUndo) (defScope sSayUndo) .none kV72 dc72 pm72 an72 cd72 ct72), sl72⟩) (c72 : PySem.W.codeIn K cd72 "say_undo" = true) (k72 : PySem.W.keepIn K (.ref p72) = true)
    (a73 : PySem.W.nsIn K mainGlobals "say_stock" = some (some (.ref p73))) (l73 : K.lookup p73 = some ⟨oc73, od73, .func (PySem.W.fnOf "say_stock" "say_stock" (defArgs sSayStock) (defBody sSayStock) (defScope sSayStock) .none kV73 dc73 pm73 an73 cd73 ct73), sl73⟩) (c73 : PySem.W.codeIn K cd73 "say_stock" = true) (k73 : PySem.W.keepIn K (.ref p73) = true)
    (a74 : PySem.W.nsIn K mainGlobals "say_wait" = some (some (.ref p74))) (l74 : K.lookup p74 = some ⟨oc74, od74, .func (PySem.W.fnOf "say_wait" "say_wait" (defArgs sSayWait) (defBody sSayWait) (defScope sSayWait) .none kV74 dc74 pm74 an74 cd74 ct74), sl74⟩) (c74 : PySem.W.codeIn K cd74 "say_wait" = true) (k74 : PySem.W.keepIn K (.ref p74) = true)
    (a75 : PySem.W.nsIn K mainGlobals "say_cycle" = some (some (.ref p75))) (l75 : K.lookup p75 = some ⟨oc75, od75, .func (PySem.W.fnOf "say_cycle" "say_cycle" (defArgs sSayCycle) (defBody sSayCycle) (defScope sSayCycle) .none kV75 dc75 pm75 an75 cd75 ct75), sl75⟩) (c75 : PySem.W.codeIn K cd75 "say_cycle" = true) (k75 : PySem.W.keepIn K (.ref p75) = true)
    (a76 : PySem.W.nsIn K mainGlobals "say_sell" = some (some (.ref p76))) (l76 : K.lookup p76 = some ⟨oc76, od76, .func (PySem.W.fnOf "say_sell" "say_sell" (defArgs sSaySell) (defBody sSaySell) (defScope sSaySell) .none kV76 dc76 pm76 an76 cd76 ct76), sl76⟩) (c76 : PySem.W.codeIn K cd76 "say_sell" = true) (k76 : PySem.W.keepIn K (.ref p76) = true)
    (a77 : PySem.W.nsIn K mainGlobals "say_days" = some (some (.ref p77))) (l77 : K.lookup p77 = some ⟨oc77, od77, .func (PySem.W.fnOf "say_days" "say_days" (defArgs sSayDays) (defBody sSayDays) (defScope sSayDays) .none kV77 dc77 pm77 an77 cd77 ct77), sl77⟩) (c77 : PySem.W.codeIn K cd77 "say_days" = true) (k77 : PySem.W.keepIn K (.ref p77) = true)
    (a78 : PySem.W.nsIn K mainGlobals "say_add" = some (some (.ref p78))) (l78 : K.lookup p78 = some ⟨oc78, od78, .func (PySem.W.fnOf "say_add" "say_add" (defArgs sSayAdd) (defBody sSayAdd) (defScope sSayAdd) .none kV78 dc78 pm78 an78 cd78 ct78), sl78⟩) (c78 : PySem.W.codeIn K cd78 "say_add" = true) (k78 : PySem.W.keepIn K (.ref p78) = true)
    (a79 : PySem.W.nsIn K mainGlobals "say_word" = some (some (.ref p79))) (l79 : K.lookup p79 = some ⟨oc79, od79, .func (PySem.W.fnOf "say_word" "say_word" (defArgs sSayWord) (defBody sSayWord) (defScope sSayWord) .none kV79 dc79 pm79 an79 cd79 ct79), sl79⟩) (c79 : PySem.W.codeIn K cd79 "say_word" = true) (k79 : PySem.W.keepIn K (.ref p79) = true)
    (a80 : PySem.W.nsIn K mainGlobals "say_sold" = some (some (.ref p80))) (l80 : K.lookup p80 = some ⟨oc80, od80, .func (PySem.W.fnOf "say_sold" "say_sold" (defArgs sSaySold) (defBody sSaySold) (defScope sSaySold) .none kV80 dc80 pm80 an80 cd80 ct80), sl80⟩) (c80 : PySem.W.codeIn K cd80 "say_sold" = true) (k80 : PySem.W.keepIn K (.ref p80) = true)
    (a81 : PySem.W.nsIn K mainGlobals "say_maker" = some (some (.ref p81))) (l81 : K.lookup p81 = some ⟨oc81, od81, .func (PySem.W.fnOf "say_maker" "say_maker" (defArgs sSayMaker) (defBody sSayMaker) (defScope sSayMaker) .none kV81 dc81 pm81 an81 cd81 ct81), sl81⟩) (c81 : PySem.W.codeIn K cd81 "say_maker" = true) (k81 : PySem.W.keepIn K (.ref p81) = true)
    (a82 : PySem.W.nsIn K mainGlobals "spaced" = some (some (.ref p82))) (l82 : K.lookup p82 = some ⟨oc82, od82, .func (PySem.W.fnOf "spaced" "spaced" (defArgs sSpaced) (defBody sSpaced) (defScope sSpaced) .none kV82 dc82 pm82 an82 cd82 ct82), sl82⟩) (c82 : PySem.W.codeIn K cd82 "spaced" = true) (k82 : PySem.W.keepIn K (.ref p82) = true)
    (a86 : PySem.W.nsIn K mainGlobals "live_plant_of" = some (some (.ref p86))) (l86 : K.lookup p86 = some ⟨oc86, od86, .func (PySem.W.fnOf "live_plant_of" "live_plant_of" (defArgs sLivePlantOf) (defBody sLivePlantOf) (defScope sLivePlantOf) .none kV86 dc86 pm86 an86 cd86 ct86), sl86⟩) (c86 : PySem.W.codeIn K cd86 "live_plant_of" = true) (k86 : PySem.W.keepIn K (.ref p86) = true)
    (a87 : PySem.W.nsIn K mainGlobals "answer" = some (some (.ref p87))) (l87 : K.lookup p87 = some ⟨oc87, od87, .func (PySem.W.fnOf "answer" "answer" (defArgs sAnswer) (defBody sAnswer) (defScope sAnswer) .none kV87 dc87 pm87 an87 cd87 ct87), sl87⟩) (c87 : PySem.W.codeIn K cd87 "answer" = true) (k87 : PySem.W.keepIn K (.ref p87) = true)
    (a88 : PySem.W.nsIn K mainGlobals "check_row" = some (some (.ref p88))) (l88 : K.lookup p88 = some ⟨oc88, od88, .func (PySem.W.fnOf "check_row" "check_row" (defArgs sCheckRow) (defBody sCheckRow) (defScope sCheckRow) .none kV88 dc88 pm88 an88 cd88 ct88), sl88⟩) (c88 : PySem.W.codeIn K cd88 "check_row" = true) (k88 : PySem.W.keepIn K (.ref p88) = true)
    (a90 : PySem.W.nsIn K mainGlobals "_law_fount" = some (some (.ref p90))) (l90 : K.lookup p90 = some ⟨oc90, od90, .func (PySem.W.fnOf "_law_fount" "_law_fount" (defArgs sLawFount) (defBody sLawFount) (defScope sLawFount) .none kV90 dc90 pm90 an90 cd90 ct90), sl90⟩) (c90 : PySem.W.codeIn K cd90 "_law_fount" = true) (k90 : PySem.W.keepIn K (.ref p90) = true)
    (a91 : PySem.W.nsIn K mainGlobals "_law_sip" = some (some (.ref p91))) (l91 : K.lookup p91 = some ⟨oc91, od91, .func (PySem.W.fnOf "_law_sip" "_law_sip" (defArgs sLawSip) (defBody sLawSip) (defScope sLawSip) .none kV91 dc91 pm91 an91 cd91 ct91), sl91⟩) (c91 : PySem.W.codeIn K cd91 "_law_sip" = true) (k91 : PySem.W.keepIn K (.ref p91) = true)
    (a92 : PySem.W.nsIn K mainGlobals "_law_mixed" = some (some (.ref p92))) (l92 : K.lookup p92 = some ⟨oc92, od92, .func (PySem.W.fnOf "_law_mixed" "_law_mixed" (defArgs sLawMixed) (defBody sLawMixed) (defScope sLawMixed) .none kV92 dc92 pm92 an92 cd92 ct92), sl92⟩) (c92 : PySem.W.codeIn K cd92 "_law_mixed" = true) (k92 : PySem.W.keepIn K (.ref p92) = true)
    (a93 : PySem.W.nsIn K mainGlobals "_law_grown" = some (some (.ref p93))) (l93 : K.lookup p93 = some ⟨oc93, od93, .func (PySem.W.fnOf "_law_grown" "_law_grown" (defArgs sLawGrown) (defBody sLawGrown) (defScope sLawGrown) .none kV93 dc93 pm93 an93 cd93 ct93), sl93⟩) (c93 : PySem.W.codeIn K cd93 "_law_grown" = true) (k93 : PySem.W.keepIn K (.ref p93) = true)
    (a94 : PySem.W.nsIn K mainGlobals "_law_filled" = some (some (.ref p94))) (l94 : K.lookup p94 = some ⟨oc94, od94, .func (PySem.W.fnOf "_law_filled" "_law_filled" (defArgs sLawFilled) (defBody sLawFilled) (defScope sLawFilled) .none kV94 dc94 pm94 an94 cd94 ct94), sl94⟩) (c94 : PySem.W.codeIn K cd94 "_law_filled" = true) (k94 : PySem.W.keepIn K (.ref p94) = true)
    (a95 : PySem.W.nsIn K mainGlobals "_law_sold" = some (some (.ref p95))) (l95 : K.lookup p95 = some ⟨oc95, od95, .func (PySem.W.fnOf "_law_sold" "_law_sold" (defArgs sLawSold) (defBody sLawSold) (defScope sLawSold) .none kV95 dc95 pm95 an95 cd95 ct95), sl95⟩) (c95 : PySem.W.codeIn K cd95 "_law_sold" = true) (k95 : PySem.W.keepIn K (.ref p95) = true)
    (a96 : PySem.W.nsIn K mainGlobals "_law_days" = some (some (.ref p96))) (l96 : K.lookup p96 = some ⟨oc96, od96, .func (PySem.W.fnOf "_law_days" "_law_days" (defArgs sLawDays) (defBody sLawDays) (defScope sLawDays) .none kV96 dc96 pm96 an96 cd96 ct96), sl96⟩) (c96 : PySem.W.codeIn K cd96 "_law_days" = true) (k96 : PySem.W.keepIn K (.ref p96) = true)
    (a97 : PySem.W.nsIn K mainGlobals "_law_step" = some (some (.ref p97))) (l97 : K.lookup p97 = some ⟨oc97, od97, .func (PySem.W.fnOf "_law_step" "_law_step" (defArgs sLawStep) (defBody sLawStep) (defScope sLawStep) .none kV97 dc97 pm97 an97 cd97 ct97), sl97⟩) (c97 : PySem.W.codeIn K cd97 "_law_step" = true) (k97 : PySem.W.keepIn K (.ref p97) = true)
    (a98 : PySem.W.nsIn K mainGlobals "_law_operation" = some (some (.ref p98))) (l98 : K.lookup p98 = some ⟨oc98, od98, .func (PySem.W.fnOf "_law_operation" "_law_operation" (defArgs sLawOperation) (defBody sLawOperation) (defScope sLawOperation) .none kV98 dc98 pm98 an98 cd98 ct98), sl98⟩) (c98 : PySem.W.codeIn K cd98 "_law_operation" = true) (k98 : PySem.W.keepIn K (.ref p98) = true)
    (a99 : PySem.W.nsIn K mainGlobals "_law_row" = some (some (.ref p99))) (l99 : K.lookup p99 = some ⟨oc99, od99, .func (PySem.W.fnOf "_law_row" "_law_row" (defArgs sLawRow) (defBody sLawRow) (defScope sLawRow) .none kV99 dc99 pm99 an99 cd99 ct99), sl99⟩) (c99 : PySem.W.codeIn K cd99 "_law_row" = true) (k99 : PySem.W.keepIn K (.ref p99) = true)
    (a100 : PySem.W.nsIn K mainGlobals "_law_text" = some (some (.ref p100))) (l100 : K.lookup p100 = some ⟨oc100, od100, .func (PySem.W.fnOf "_law_text" "_law_text" (defArgs sLawText) (defBody sLawText) (defScope sLawText) .none kV100 dc100 pm100 an100 cd100 ct100), sl100⟩) (c100 : PySem.W.codeIn K cd100 "_law_text" = true) (k100 : PySem.W.keepIn K (.ref p100) = true)
    (a101 : PySem.W.nsIn K mainGlobals "_law_open" = some (some (.ref p101))) (l101 : K.lookup p101 = some ⟨oc101, od101, .func (PySem.W.fnOf "_law_open" "_law_open" (defArgs sLawOpen) (defBody sLawOpen) (defScope sLawOpen) .none kV101 dc101 pm101 an101 cd101 ct101), sl101⟩) (c101 : PySem.W.codeIn K cd101 "_law_open" = true) (k101 : PySem.W.keepIn K (.ref p101) = true)
    (a102 : PySem.W.nsIn K mainGlobals "_law_opened" = some (some (.ref p102))) (l102 : K.lookup p102 = some ⟨oc102, od102, .func (PySem.W.fnOf "_law_opened" "_law_opened" (defArgs sLawOpened) (defBody sLawOpened) (defScope sLawOpened) .none kV102 dc102 pm102 an102 cd102 ct102), sl102⟩) (c102 : PySem.W.codeIn K cd102 "_law_opened" = true) (k102 : PySem.W.keepIn K (.ref p102) = true)
    (a103 : PySem.W.nsIn K mainGlobals "_law_undone" = some (some (.ref p103))) (l103 : K.lookup p103 = some ⟨oc103, od103, .func (PySem.W.fnOf "_law_undone" "_law_undone" (defArgs sLawUndone) (defBody sLawUndone) (defScope sLawUndone) .none kV103 dc103 pm103 an103 cd103 ct103), sl103⟩) (c103 : PySem.W.codeIn K cd103 "_law_undone" = true) (k103 : PySem.W.keepIn K (.ref p103) = true)
    (a104 : PySem.W.nsIn K mainGlobals "law" = some (some (.ref p104))) (l104 : K.lookup p104 = some ⟨oc104, od104, .func (PySem.W.fnOf "law" "law" (defArgs sLaw) (defBody sLaw) (defScope sLaw) .none kV104 dc104 pm104 an104 cd104 ct104), sl104⟩) (c104 : PySem.W.codeIn K cd104 "law" = true) (k104 : PySem.W.keepIn K (.ref p104) = true)
    (aM_MOST_STATIONS : PySem.W.nsIn K mainGlobals "MOST_STATIONS" = some (some (.int 40 t_MOST_STATIONS)))
    (aM_FARTHEST_DAY : PySem.W.nsIn K mainGlobals "FARTHEST_DAY" = some (some (.int 1000000000000000000000000000000 t_FARTHEST_DAY)))
    (aM_MOST_DAYS : PySem.W.nsIn K mainGlobals "MOST_DAYS" = some (some (.int 2000 t_MOST_DAYS)))
    (aM_MOST_DIGITS_texts : PySem.W.nsIn K mainGlobals "MOST_DIGITS_texts" = some (some (.int 40 t_MOST_DIGITS_texts)))
    (aM_MOST_DIGITS_console : PySem.W.nsIn K mainGlobals "MOST_DIGITS_console" = some (some (.int 31 t_MOST_DIGITS_console)))
    {t_DONE : Tok} (aS_DONE : PySem.W.nsIn K mainGlobals "DONE" = some (some (.str "ok" t_DONE)))
    {pD_ALONE : Addr} {eD_ALONE : Array DictEntry} {nD_ALONE : Nat} (aD_ALONE : PySem.W.nsIn K mainGlobals "ALONE" = some (some (.ref pD_ALONE))) (lD_ALONE : K.lookup pD_ALONE = some ⟨.type "dict", none, .dict eD_ALONE nD_ALONE, #[]⟩) (kD_ALONE : PySem.W.KeysLit w.params eD_ALONE.toList) (wD_ALONE : (pD_ALONE == sysModules) = false)
    (yD_ALONE_day : PySem.W.nsIn K pD_ALONE "day" = some (some (.ref p70)))
    (yD_ALONE_remove : PySem.W.nsIn K pD_ALONE "remove" = some (some (.ref p71)))
    (yD_ALONE_undo : PySem.W.nsIn K pD_ALONE "undo" = some (some (.ref p72)))
    (yD_ALONE_stock : PySem.W.nsIn K pD_ALONE "stock" = some (some (.ref p73)))
    (yD_ALONE_wait : PySem.W.nsIn K pD_ALONE "wait" = some (some (.ref p74)))
    (yD_ALONE_cycle : PySem.W.nsIn K pD_ALONE "cycle" = some (some (.ref p75)))
    {pD_WITH_NUMBER : Addr} {eD_WITH_NUMBER : Array DictEntry} {nD_WITH_NUMBER : Nat} (aD_WITH_NUMBER : PySem.W.nsIn K mainGlobals "WITH_NUMBER" = some (some (.ref pD_WITH_NUMBER))) (lD_WITH_NUMBER : K.lookup pD_WITH_NUMBER = some ⟨.type "dict", none, .dict eD_WITH_NUMBER nD_WITH_NUMBER, #[]⟩) (kD_WITH_NUMBER : PySem.W.KeysLit w.params eD_WITH_NUMBER.toList) (wD_WITH_NUMBER : (pD_WITH_NUMBER == sysModules) = false)
    (yD_WITH_NUMBER_sell : PySem.W.nsIn K pD_WITH_NUMBER "sell" = some (some (.ref p76)))
    (yD_WITH_NUMBER_days : PySem.W.nsIn K pD_WITH_NUMBER "days" = some (some (.ref p77)))
    (yD_WITH_NUMBER_add : PySem.W.nsIn K pD_WITH_NUMBER "add" = some (some (.ref p78)))
    (yD_WITH_NUMBER_word : PySem.W.nsIn K pD_WITH_NUMBER "word" = some (some (.ref p79)))
    (yD_WITH_NUMBER_sold : PySem.W.nsIn K pD_WITH_NUMBER "sold" = some (some (.ref p80)))
    (yD_WITH_NUMBER_maker : PySem.W.nsIn K pD_WITH_NUMBER "maker" = some (some (.ref p81)))
    {xx_PlantError : Addr} (xa_PlantError : PySem.W.nsIn K mainGlobals "PlantError" = some (some (.ref xx_PlantError))) (xe_PlantError : PySem.W.excIn K xx_PlantError [.type "ValueError", .type "Exception", .type "BaseException", .type "object"] "ValueError.__new__" = true) (xk_PlantError : PySem.W.keepIn K (.ref xx_PlantError) = true) (xs_PlantError : PySem.W.subIn K (.ref xx_PlantError) (.type "BaseException") = some true) (xt_PlantError : PySem.W.typeIn K (.ref xx_PlantError) = some (.type "type"))
    {xx_NoPlant : Addr} (xa_NoPlant : PySem.W.nsIn K mainGlobals "NoPlant" = some (some (.ref xx_NoPlant))) (xe_NoPlant : PySem.W.excIn K xx_NoPlant [.type "ValueError", .type "Exception", .type "BaseException", .type "object"] "ValueError.__new__" = true) (xk_NoPlant : PySem.W.keepIn K (.ref xx_NoPlant) = true) (xs_NoPlant : PySem.W.subIn K (.ref xx_NoPlant) (.type "BaseException") = some true) (xt_NoPlant : PySem.W.typeIn K (.ref xx_NoPlant) = some (.type "type"))
    {xx_NoStation : Addr} (xa_NoStation : PySem.W.nsIn K mainGlobals "NoStation" = some (some (.ref xx_NoStation))) (xe_NoStation : PySem.W.excIn K xx_NoStation [.type "ValueError", .type "Exception", .type "BaseException", .type "object"] "ValueError.__new__" = true) (xk_NoStation : PySem.W.keepIn K (.ref xx_NoStation) = true) (xs_NoStation : PySem.W.subIn K (.ref xx_NoStation) (.type "BaseException") = some true) (xt_NoStation : PySem.W.typeIn K (.ref xx_NoStation) = some (.type "type"))
    {xx_NoStock : Addr} (xa_NoStock : PySem.W.nsIn K mainGlobals "NoStock" = some (some (.ref xx_NoStock))) (xe_NoStock : PySem.W.excIn K xx_NoStock [.type "ValueError", .type "Exception", .type "BaseException", .type "object"] "ValueError.__new__" = true) (xk_NoStock : PySem.W.keepIn K (.ref xx_NoStock) = true) (xs_NoStock : PySem.W.subIn K (.ref xx_NoStock) (.type "BaseException") = some true) (xt_NoStock : PySem.W.typeIn K (.ref xx_NoStock) = some (.type "type"))
    {xx_NoDays : Addr} (xa_NoDays : PySem.W.nsIn K mainGlobals "NoDays" = some (some (.ref xx_NoDays))) (xe_NoDays : PySem.W.excIn K xx_NoDays [.type "ValueError", .type "Exception", .type "BaseException", .type "object"] "ValueError.__new__" = true) (xk_NoDays : PySem.W.keepIn K (.ref xx_NoDays) = true) (xs_NoDays : PySem.W.subIn K (.ref xx_NoDays) (.type "BaseException") = some true) (xt_NoDays : PySem.W.typeIn K (.ref xx_NoDays) = some (.type "type"))
    {xx_NotOrdered : Addr} (xa_NotOrdered : PySem.W.nsIn K mainGlobals "NotOrdered" = some (some (.ref xx_NotOrdered))) (xe_NotOrdered : PySem.W.excIn K xx_NotOrdered [.type "ValueError", .type "Exception", .type "BaseException", .type "object"] "ValueError.__new__" = true) (xk_NotOrdered : PySem.W.keepIn K (.ref xx_NotOrdered) = true) (xs_NotOrdered : PySem.W.subIn K (.ref xx_NotOrdered) (.type "BaseException") = some true) (xt_NotOrdered : PySem.W.typeIn K (.ref xx_NotOrdered) = some (.type "type"))
    {xx_Full : Addr} (xa_Full : PySem.W.nsIn K mainGlobals "Full" = some (some (.ref xx_Full))) (xe_Full : PySem.W.excIn K xx_Full [.type "ValueError", .type "Exception", .type "BaseException", .type "object"] "ValueError.__new__" = true) (xk_Full : PySem.W.keepIn K (.ref xx_Full) = true) (xs_Full : PySem.W.subIn K (.ref xx_Full) (.type "BaseException") = some true) (xt_Full : PySem.W.typeIn K (.ref xx_Full) = some (.type "type"))
    {xx_Nothing : Addr} (xa_Nothing : PySem.W.nsIn K mainGlobals "Nothing" = some (some (.ref xx_Nothing))) (xe_Nothing : PySem.W.excIn K xx_Nothing [.type "ValueError", .type "Exception", .type "BaseException", .type "object"] "ValueError.__new__" = true) (xk_Nothing : PySem.W.keepIn K (.ref xx_Nothing) = true) (xs_Nothing : PySem.W.subIn K (.ref xx_Nothing) (.type "BaseException") = some true) (xt_Nothing : PySem.W.typeIn K (.ref xx_Nothing) = some (.type "type"))
    {xx_NoText : Addr} (xa_NoText : PySem.W.nsIn K mainGlobals "NoText" = some (some (.ref xx_NoText))) (xe_NoText : PySem.W.excIn K xx_NoText [.type "ValueError", .type "Exception", .type "BaseException", .type "object"] "ValueError.__new__" = true) (xk_NoText : PySem.W.keepIn K (.ref xx_NoText) = true) (xs_NoText : PySem.W.subIn K (.ref xx_NoText) (.type "BaseException") = some true) (xt_NoText : PySem.W.typeIn K (.ref xx_NoText) = some (.type "type"))
    {xx_NoRow : Addr} (xa_NoRow : PySem.W.nsIn K mainGlobals "NoRow" = some (some (.ref xx_NoRow))) (xe_NoRow : PySem.W.excIn K xx_NoRow [.type "ValueError", .type "Exception", .type "BaseException", .type "object"] "ValueError.__new__" = true) (xk_NoRow : PySem.W.keepIn K (.ref xx_NoRow) = true) (xs_NoRow : PySem.W.subIn K (.ref xx_NoRow) (.type "BaseException") = some true) (xt_NoRow : PySem.W.typeIn K (.ref xx_NoRow) = some (.type "type"))
    (er_all : allB K = true) (er_each : ((List.range 9).all (errB K xx_PlantError [xx_NoPlant, xx_NoStation, xx_NoStock, xx_NoDays, xx_NotOrdered, xx_Full, xx_Nothing, xx_NoText, xx_NoRow])) = true)
    (er_nothing : PySem.W.exmOne K (.ref xx_Nothing) (.ref xx_Nothing) = some true)
    {x_LivePlant : Addr} (aC_LivePlant : PySem.W.nsIn K mainGlobals "LivePlant" = some (some (.ref x_LivePlant)))
    (pg_LivePlant : PySem.W.plainGet K x_LivePlant Str.empty = true) (hd_LivePlant : PySem.W.hasDictIn K x_LivePlant = true) (po_LivePlant : PySem.W.plainOver K x_LivePlant = true) (sa_LivePlant : PySem.W.findIn K (.ref x_LivePlant) "__setattr__" = some (some (.builtin "object.__setattr__"))) (mk_LivePlant : PySem.W.makesIn K x_LivePlant = true) (kc_LivePlant : PySem.W.keepIn K (.ref x_LivePlant) = true)
    (ic1_LivePlant : PySem.W.findIn K (.ref x_LivePlant) "__class__" = some (some (.builtin "object.__class__"))) (ic2_LivePlant : PySem.W.specialIn K (.builtin "object.__class__") "__get__" = some (some (.builtin "getset_descriptor.__get__"))) (ic3_LivePlant : PySem.W.takesIn K (.builtin "object.__class__") = some true) (ic4_LivePlant : PySem.W.mroIn K x_LivePlant (.type "object") = some true) (ic5_LivePlant : PySem.W.kitOne K (.ref x_LivePlant) (.ref x_LivePlant) = some true) (ic6_LivePlant : (["NoneType", "bool", "int", "str", "list", "tuple", "dict"].all fun n => PySem.W.kitOne K (.type n) (.ref x_LivePlant) == some false) = true)
    (na_customers : PySem.W.findIn K (.ref x_LivePlant) "customers" = some none)
    (na_boxes : PySem.W.findIn K (.ref x_LivePlant) "boxes" = some none)
    (na_past : PySem.W.findIn K (.ref x_LivePlant) "past" = some none)
    {x_Console : Addr} (aC_Console : PySem.W.nsIn K mainGlobals "Console" = some (some (.ref x_Console)))
    (pg_Console : PySem.W.plainGet K x_Console Str.empty = true) (hd_Console : PySem.W.hasDictIn K x_Console = true) (po_Console : PySem.W.plainOver K x_Console = true) (sa_Console : PySem.W.findIn K (.ref x_Console) "__setattr__" = some (some (.builtin "object.__setattr__"))) (mk_Console : PySem.W.makesIn K x_Console = true) (kc_Console : PySem.W.keepIn K (.ref x_Console) = true)
    (ic1_Console : PySem.W.findIn K (.ref x_Console) "__class__" = some (some (.builtin "object.__class__"))) (ic2_Console : PySem.W.specialIn K (.builtin "object.__class__") "__get__" = some (some (.builtin "getset_descriptor.__get__"))) (ic3_Console : PySem.W.takesIn K (.builtin "object.__class__") = some true) (ic4_Console : PySem.W.mroIn K x_Console (.type "object") = some true) (ic5_Console : PySem.W.kitOne K (.ref x_Console) (.ref x_Console) = some true) (ic6_Console : (["NoneType", "bool", "int", "str", "list", "tuple", "dict"].all fun n => PySem.W.kitOne K (.type n) (.ref x_Console) == some false) = true)
    (na_live : PySem.W.findIn K (.ref x_Console) "live" = some none)
    {p_lv_init : Addr} {od_lv_init an_lv_init : Option Addr} {sl_lv_init : Array (Option Value)} {oc_lv_init  dc_lv_init pm_lv_init cd_lv_init ct_lv_init : Value} {D_lv_init : Addr}
    (a_lv_init : PySem.W.findIn K (.ref x_LivePlant) "__init__" = some (some (.ref p_lv_init))) (i_lv_init : PySem.W.isFn K (.ref p_lv_init) = true) (l_lv_init : K.lookup p_lv_init = some ⟨oc_lv_init, od_lv_init, .func (PySem.W.fnOf "__init__" "LivePlant.__init__" (defArgs sLvInit) (defBody sLvInit) (defScope sLvInit) .none (.ref D_lv_init) dc_lv_init pm_lv_init an_lv_init cd_lv_init ct_lv_init), sl_lv_init⟩) (c_lv_init : PySem.W.codeIn K cd_lv_init "LivePlant.__init__" = true) (kk_lv_init : PySem.W.keepIn K (.ref p_lv_init) = true)
    (kd_lv_init : PySem.W.nsIn K D_lv_init "stock" = some (some .none))
    {p_lv_eq : Addr} {od_lv_eq an_lv_eq : Option Addr} {sl_lv_eq : Array (Option Value)} {oc_lv_eq kV_lv_eq dc_lv_eq pm_lv_eq cd_lv_eq ct_lv_eq : Value} 
    (a_lv_eq : PySem.W.findIn K (.ref x_LivePlant) "__eq__" = some (some (.ref p_lv_eq))) (i_lv_eq : PySem.W.isFn K (.ref p_lv_eq) = true) (l_lv_eq : K.lookup p_lv_eq = some ⟨oc_lv_eq, od_lv_eq, .func (PySem.W.fnOf "__eq__" "LivePlant.__eq__" (defArgs sLvEq) (defBody sLvEq) (defScope sLvEq) .none kV_lv_eq dc_lv_eq pm_lv_eq an_lv_eq cd_lv_eq ct_lv_eq), sl_lv_eq⟩) (c_lv_eq : PySem.W.codeIn K cd_lv_eq "LivePlant.__eq__" = true) (kk_lv_eq : PySem.W.keepIn K (.ref p_lv_eq) = true)
    {p_lv_len : Addr} {od_lv_len an_lv_len : Option Addr} {sl_lv_len : Array (Option Value)} {oc_lv_len kV_lv_len dc_lv_len pm_lv_len cd_lv_len ct_lv_len : Value} 
    (a_lv_len : PySem.W.findIn K (.ref x_LivePlant) "__len__" = some (some (.ref p_lv_len))) (i_lv_len : PySem.W.isFn K (.ref p_lv_len) = true) (l_lv_len : K.lookup p_lv_len = some ⟨oc_lv_len, od_lv_len, .func (PySem.W.fnOf "__len__" "LivePlant.__len__" (defArgs sLvLen) (defBody sLvLen) (defScope sLvLen) .none kV_lv_len dc_lv_len pm_lv_len an_lv_len cd_lv_len ct_lv_len), sl_lv_len⟩) (c_lv_len : PySem.W.codeIn K cd_lv_len "LivePlant.__len__" = true) (kk_lv_len : PySem.W.keepIn K (.ref p_lv_len) = true)
    {p_lv_day : Addr} {od_lv_day an_lv_day : Option Addr} {sl_lv_day : Array (Option Value)} {oc_lv_day kV_lv_day dc_lv_day pm_lv_day cd_lv_day ct_lv_day : Value} 
    (a_lv_day : PySem.W.findIn K (.ref x_LivePlant) "day" = some (some (.ref p_lv_day))) (i_lv_day : PySem.W.isFn K (.ref p_lv_day) = true) (l_lv_day : K.lookup p_lv_day = some ⟨oc_lv_day, od_lv_day, .func (PySem.W.fnOf "day" "LivePlant.day" (defArgs sLvDay) (defBody sLvDay) (defScope sLvDay) .none kV_lv_day dc_lv_day pm_lv_day an_lv_day cd_lv_day ct_lv_day), sl_lv_day⟩) (c_lv_day : PySem.W.codeIn K cd_lv_day "LivePlant.day" = true) (kk_lv_day : PySem.W.keepIn K (.ref p_lv_day) = true)
    {p_lv_days : Addr} {od_lv_days an_lv_days : Option Addr} {sl_lv_days : Array (Option Value)} {oc_lv_days kV_lv_days dc_lv_days pm_lv_days cd_lv_days ct_lv_days : Value} 
    (a_lv_days : PySem.W.findIn K (.ref x_LivePlant) "days" = some (some (.ref p_lv_days))) (i_lv_days : PySem.W.isFn K (.ref p_lv_days) = true) (l_lv_days : K.lookup p_lv_days = some ⟨oc_lv_days, od_lv_days, .func (PySem.W.fnOf "days" "LivePlant.days" (defArgs sLvDays) (defBody sLvDays) (defScope sLvDays) .none kV_lv_days dc_lv_days pm_lv_days an_lv_days cd_lv_days ct_lv_days), sl_lv_days⟩) (c_lv_days : PySem.W.codeIn K cd_lv_days "LivePlant.days" = true) (kk_lv_days : PySem.W.keepIn K (.ref p_lv_days) = true)
    {p_lv_sell : Addr} {od_lv_sell an_lv_sell : Option Addr} {sl_lv_sell : Array (Option Value)} {oc_lv_sell kV_lv_sell dc_lv_sell pm_lv_sell cd_lv_sell ct_lv_sell : Value} 
    (a_lv_sell : PySem.W.findIn K (.ref x_LivePlant) "sell" = some (some (.ref p_lv_sell))) (i_lv_sell : PySem.W.isFn K (.ref p_lv_sell) = true) (l_lv_sell : K.lookup p_lv_sell = some ⟨oc_lv_sell, od_lv_sell, .func (PySem.W.fnOf "sell" "LivePlant.sell" (defArgs sLvSell) (defBody sLvSell) (defScope sLvSell) .none kV_lv_sell dc_lv_sell pm_lv_sell an_lv_sell cd_lv_sell ct_lv_sell), sl_lv_sell⟩) (c_lv_sell : PySem.W.codeIn K cd_lv_sell "LivePlant.sell" = true) (kk_lv_sell : PySem.W.keepIn K (.ref p_lv_sell) = true)
    {p_lv_add : Addr} {od_lv_add an_lv_add : Option Addr} {sl_lv_add : Array (Option Value)} {oc_lv_add kV_lv_add dc_lv_add pm_lv_add cd_lv_add ct_lv_add : Value} 
    (a_lv_add : PySem.W.findIn K (.ref x_LivePlant) "add" = some (some (.ref p_lv_add))) (i_lv_add : PySem.W.isFn K (.ref p_lv_add) = true) (l_lv_add : K.lookup p_lv_add = some ⟨oc_lv_add, od_lv_add, .func (PySem.W.fnOf "add" "LivePlant.add" (defArgs sLvAdd) (defBody sLvAdd) (defScope sLvAdd) .none kV_lv_add dc_lv_add pm_lv_add an_lv_add cd_lv_add ct_lv_add), sl_lv_add⟩) (c_lv_add : PySem.W.codeIn K cd_lv_add "LivePlant.add" = true) (kk_lv_add : PySem.W.keepIn K (.ref p_lv_add) = true)
    {p_lv_remove : Addr} {od_lv_remove an_lv_remove : Option Addr} {sl_lv_remove : Array (Option Value)} {oc_lv_remove kV_lv_remove dc_lv_remove pm_lv_remove cd_lv_remove ct_lv_remove : Value} 
    (a_lv_remove : PySem.W.findIn K (.ref x_LivePlant) "remove" = some (some (.ref p_lv_remove))) (i_lv_remove : PySem.W.isFn K (.ref p_lv_remove) = true) (l_lv_remove : K.lookup p_lv_remove = some ⟨oc_lv_remove, od_lv_remove, .func (PySem.W.fnOf "remove" "LivePlant.remove" (defArgs sLvRemove) (defBody sLvRemove) (defScope sLvRemove) .none kV_lv_remove dc_lv_remove pm_lv_remove an_lv_remove cd_lv_remove ct_lv_remove), sl_lv_remove⟩) (c_lv_remove : PySem.W.codeIn K cd_lv_remove "LivePlant.remove" = true) (kk_lv_remove : PySem.W.keepIn K (.ref p_lv_remove) = true)
    {p_lv_undo : Addr} {od_lv_undo an_lv_undo : Option Addr} {sl_lv_undo : Array (Option Value)} {oc_lv_undo kV_lv_undo dc_lv_undo pm_lv_undo cd_lv_undo ct_lv_undo : Value} 
    (a_lv_undo : PySem.W.findIn K (.ref x_LivePlant) "undo" = some (some (.ref p_lv_undo))) (i_lv_undo : PySem.W.isFn K (.ref p_lv_undo) = true) (l_lv_undo : K.lookup p_lv_undo = some ⟨oc_lv_undo, od_lv_undo, .func (PySem.W.fnOf "undo" "LivePlant.undo" (defArgs sLvUndo) (defBody sLvUndo) (defScope sLvUndo) .none kV_lv_undo dc_lv_undo pm_lv_undo an_lv_undo cd_lv_undo ct_lv_undo), sl_lv_undo⟩) (c_lv_undo : PySem.W.codeIn K cd_lv_undo "LivePlant.undo" = true) (kk_lv_undo : PySem.W.keepIn K (.ref p_lv_undo) = true)
    {p_lv_plant : Addr} {od_lv_plant an_lv_plant : Option Addr} {sl_lv_plant : Array (Option Value)} {oc_lv_plant kV_lv_plant dc_lv_plant pm_lv_plant cd_lv_plant ct_lv_plant : Value} 
    (a_lv_plant : PySem.W.findIn K (.ref x_LivePlant) "plant" = some (some (.ref p_lv_plant))) (i_lv_plant : PySem.W.isFn K (.ref p_lv_plant) = true) (l_lv_plant : K.lookup p_lv_plant = some ⟨oc_lv_plant, od_lv_plant, .func (PySem.W.fnOf "plant" "LivePlant.plant" (defArgs sLvPlant) (defBody sLvPlant) (defScope sLvPlant) .none kV_lv_plant dc_lv_plant pm_lv_plant an_lv_plant cd_lv_plant ct_lv_plant), sl_lv_plant⟩) (c_lv_plant : PySem.W.codeIn K cd_lv_plant "LivePlant.plant" = true) (kk_lv_plant : PySem.W.keepIn K (.ref p_lv_plant) = true)
    {p_lv_stock : Addr} {od_lv_stock an_lv_stock : Option Addr} {sl_lv_stock : Array (Option Value)} {oc_lv_stock kV_lv_stock dc_lv_stock pm_lv_stock cd_lv_stock ct_lv_stock : Value} 
    (a_lv_stock : PySem.W.findIn K (.ref x_LivePlant) "stock" = some (some (.ref p_lv_stock))) (i_lv_stock : PySem.W.isFn K (.ref p_lv_stock) = true) (l_lv_stock : K.lookup p_lv_stock = some ⟨oc_lv_stock, od_lv_stock, .func (PySem.W.fnOf "stock" "LivePlant.stock" (defArgs sLvStock) (defBody sLvStock) (defScope sLvStock) .none kV_lv_stock dc_lv_stock pm_lv_stock an_lv_stock cd_lv_stock ct_lv_stock), sl_lv_stock⟩) (c_lv_stock : PySem.W.codeIn K cd_lv_stock "LivePlant.stock" = true) (kk_lv_stock : PySem.W.keepIn K (.ref p_lv_stock) = true)
    {p_lv_pull : Addr} {od_lv_pull an_lv_pull : Option Addr} {sl_lv_pull : Array (Option Value)} {oc_lv_pull kV_lv_pull dc_lv_pull pm_lv_pull cd_lv_pull ct_lv_pull : Value} 
    (a_lv_pull : PySem.W.findIn K (.ref x_LivePlant) "pull" = some (some (.ref p_lv_pull))) (i_lv_pull : PySem.W.isFn K (.ref p_lv_pull) = true) (l_lv_pull : K.lookup p_lv_pull = some ⟨oc_lv_pull, od_lv_pull, .func (PySem.W.fnOf "pull" "LivePlant.pull" (defArgs sLvPull) (defBody sLvPull) (defScope sLvPull) .none kV_lv_pull dc_lv_pull pm_lv_pull an_lv_pull cd_lv_pull ct_lv_pull), sl_lv_pull⟩) (c_lv_pull : PySem.W.codeIn K cd_lv_pull "LivePlant.pull" = true) (kk_lv_pull : PySem.W.keepIn K (.ref p_lv_pull) = true)
    {p_lv_change : Addr} {od_lv_change an_lv_change : Option Addr} {sl_lv_change : Array (Option Value)} {oc_lv_change kV_lv_change dc_lv_change pm_lv_change cd_lv_change ct_lv_change : Value} 
    (a_lv_change : PySem.W.findIn K (.ref x_LivePlant) "change" = some (some (.ref p_lv_change))) (i_lv_change : PySem.W.isFn K (.ref p_lv_change) = true) (l_lv_change : K.lookup p_lv_change = some ⟨oc_lv_change, od_lv_change, .func (PySem.W.fnOf "change" "LivePlant.change" (defArgs sLvChange) (defBody sLvChange) (defScope sLvChange) .none kV_lv_change dc_lv_change pm_lv_change an_lv_change cd_lv_change ct_lv_change), sl_lv_change⟩) (c_lv_change : PySem.W.codeIn K cd_lv_change "LivePlant.change" = true) (kk_lv_change : PySem.W.keepIn K (.ref p_lv_change) = true)
    {p_co_init : Addr} {od_co_init an_co_init : Option Addr} {sl_co_init : Array (Option Value)} {oc_co_init kV_co_init dc_co_init pm_co_init cd_co_init ct_co_init : Value} 
    (a_co_init : PySem.W.findIn K (.ref x_Console) "__init__" = some (some (.ref p_co_init))) (i_co_init : PySem.W.isFn K (.ref p_co_init) = true) (l_co_init : K.lookup p_co_init = some ⟨oc_co_init, od_co_init, .func (PySem.W.fnOf "__init__" "Console.__init__" (defArgs sCoInit) (defBody sCoInit) (defScope sCoInit) .none kV_co_init dc_co_init pm_co_init an_co_init cd_co_init ct_co_init), sl_co_init⟩) (c_co_init : PySem.W.codeIn K cd_co_init "Console.__init__" = true) (kk_co_init : PySem.W.keepIn K (.ref p_co_init) = true)
    {p_co_say : Addr} {od_co_say an_co_say : Option Addr} {sl_co_say : Array (Option Value)} {oc_co_say kV_co_say dc_co_say pm_co_say cd_co_say ct_co_say : Value} 
    (a_co_say : PySem.W.findIn K (.ref x_Console) "say" = some (some (.ref p_co_say))) (i_co_say : PySem.W.isFn K (.ref p_co_say) = true) (l_co_say : K.lookup p_co_say = some ⟨oc_co_say, od_co_say, .func (PySem.W.fnOf "say" "Console.say" (defArgs sCoSay) (defBody sCoSay) (defScope sCoSay) .none kV_co_say dc_co_say pm_co_say an_co_say cd_co_say ct_co_say), sl_co_say⟩) (c_co_say : PySem.W.codeIn K cd_co_say "Console.say" = true) (kk_co_say : PySem.W.keepIn K (.ref p_co_say) = true)
    (z_all : PySem.W.nsIn K mainGlobals "all" = some none)
    (z_bool : PySem.W.nsIn K mainGlobals "bool" = some none)
    (z_divmod : PySem.W.nsIn K mainGlobals "divmod" = some none)
    (z_enumerate : PySem.W.nsIn K mainGlobals "enumerate" = some none)
    (z_int : PySem.W.nsIn K mainGlobals "int" = some none)
    (z_isinstance : PySem.W.nsIn K mainGlobals "isinstance" = some none)
    (z_len : PySem.W.nsIn K mainGlobals "len" = some none)
    (z_list : PySem.W.nsIn K mainGlobals "list" = some none)
    (z_max : PySem.W.nsIn K mainGlobals "max" = some none)
    (z_min : PySem.W.nsIn K mainGlobals "min" = some none)
    (z_range : PySem.W.nsIn K mainGlobals "range" = some none)
    (z_set : PySem.W.nsIn K mainGlobals "set" = some none)
    (z_sorted : PySem.W.nsIn K mainGlobals "sorted" = some none)
    (z_str : PySem.W.nsIn K mainGlobals "str" = some none)
    (z_tuple : PySem.W.nsIn K mainGlobals "tuple" = some none)
    (z_zip : PySem.W.nsIn K mainGlobals "zip" = some none)
    (t32 : st.heap.get? PP32 = some (PySem.W.tabObj #[])) (h32 : PySem.W.codeHdIn K cc32 PP32 = true) (z32 : K.lookup PP32 = none)
    (t40 : st.heap.get? PP40 = some (PySem.W.tabObj #[])) (h40 : PySem.W.codeHdIn K cc40 PP40 = true) (z40 : K.lookup PP40 = none)
    (q32_40 : PP32 ≠ PP40) :
    ∃ cs : List (Addr × Addr), (∀ p ∈ cs, st.heap.get? p.2 = some (PySem.W.tabObj #[])) ∧ (∀ p ∈ cs, K.lookup p.2 = none) ∧ (∀ p ∈ cs, PySem.W.CodeHd st.heap p.1 p.2) ∧
      ∀ (base : Heap) (H : Hp), K.In base → base.Ns mainGlobals mg → (∃ mm, base.Ns sysModules mm) → (∀ p ∈ cs, TabB base mg p.1 p.2) → (∀ p ∈ cs, H p.2 = some (.tbl #[])) → SqL K H a (ns.map V.int) → Env0 l.prog w K mg base callerA [] st H →
      codeAny (model l.prog w) callerA (.call (.ref fa) ⟨[.ref a], []⟩) (CR CX0 [] l.prog w H st (fun v _ => v = .bl true) fun _ _ _ => False) st := by
  have e := hfa.symm.trans (PySem.W.mg_of X G a104)
  cases e
  have F15 := fun_mk (st := sIsInteger) l15 c15 k15
  have b15 := F15.binds (ps := ["value"]) fun _ _ _ _ _ _ us hl => match us, hl with | [_], _ => rfl
  have F16 := fun_mk (st := sIsWithin) l16 c16 k16
  have b16 := F16.binds (ps := ["value", "least", "most"]) fun _ _ _ _ _ _ us hl => match us, hl with | [_, _, _], _ => rfl
  have F17 := fun_mk (st := sIsDecimal) l17 c17 k17
  have b17 := F17.binds (ps := ["text", "most"]) fun _ _ _ _ _ _ us hl => match us, hl with | [_, _], _ => rfl
  have F18 := fun_mk (st := sFitsPlant) l18 c18 k18
  have b18 := F18.binds (ps := ["value"]) fun _ _ _ _ _ _ us hl => match us, hl with | [_], _ => rfl
  have F19 := fun_mk (st := sFitsStation) l19 c19 k19
  have b19 := F19.binds (ps := ["plant", "value"]) fun _ _ _ _ _ _ us hl => match us, hl with | [_, _], _ => rfl
  have F20 := fun_mk (st := sFitsStock) l20 c20 k20
  have b20 := F20.binds (ps := ["plant", "value"]) fun _ _ _ _ _ _ us hl => match us, hl with | [_, _], _ => rfl
  have F21 := fun_mk (st := sCheckPlant) l21 c21 k21
  have b21 := F21.binds (ps := ["plant"]) fun _ _ _ _ _ _ us hl => match us, hl with | [_], _ => rfl
  have F22 := fun_mk (st := sCheckStation) l22 c22 k22
  have b22 := F22.binds (ps := ["plant", "station"]) fun _ _ _ _ _ _ us hl => match us, hl with | [_, _], _ => rfl
  have F23 := fun_mk (st := sCheckStock) l23 c23 k23
  have b23 := F23.binds (ps := ["plant", "stock"]) fun _ _ _ _ _ _ us hl => match us, hl with | [_, _], _ => rfl
  have F24 := fun_mk (st := sCheckDays) l24 c24 k24
  have b24 := F24.binds (ps := ["days", "least", "most"]) fun _ _ _ _ _ _ us hl => match us, hl with | [_, _, _], _ => rfl
  have F26 := fun_mk (st := sSupplierLists) l26 c26 k26
  have b26 := F26.binds (ps := ["plant"]) fun _ _ _ _ _ _ us hl => match us, hl with | [_], _ => rfl
  have F29 := fun_mk (st := sRun) l29 c29 k29
  have b29 := F29.binds (ps := ["plant", "stock", "days"]) fun _ _ _ _ _ _ us hl => match us, hl with | [_, _, _], _ => rfl
  have F30 := fun_mk (st := sFirstDays) l30 c30 k30
  have b30 := F30.binds (ps := ["plant", "stock", "days"]) fun _ _ _ _ _ _ us hl => match us, hl with | [_, _, _], _ => rfl
  have F31 := funD_mk l31 c31 k31 (dfl0 u31)
  obtain ⟨ds31, D31, b31⟩ := F31.binds1 (ps := ["givers", "boxes", "first"]) 2 0 (by simp) rfl fun _ _ _ _ _ _ _ us its h1 h2 => match us, its, h1, h2 with | [_, _], [_], _, _ => ⟨_, rfl, rfl⟩
  obtain ⟨es31, E31, w31⟩ := F31.binds1 (ps := ["givers", "boxes", "first"]) 3 1 (by simp) rfl fun _ _ _ _ _ _ _ us its h1 h2 => match us, its, h1, h2 with | [_, _, _], [_], _, _ => ⟨_, rfl, rfl⟩
  cases E31
  have C32 := funC_mk (st := sOldestGiver) l32 c32 k32
  have F32 := C32.fun
  have b32 := F32.binds (ps := ["stations", "boxes"]) fun _ _ _ _ _ _ us hl => match us, hl with | [_, _], _ => rfl
  have F34 := fun_mk (st := sDaysUntilOrdered) l34 c34 k34
  have b34 := F34.binds (ps := ["plant", "stock"]) fun _ _ _ _ _ _ us hl => match us, hl with | [_, _], _ => rfl
  have F35 := fun_mk (st := sLastDisorder) l35 c35 k35
  have b35 := F35.binds (ps := ["plant", "boxes"]) fun _ _ _ _ _ _ us hl => match us, hl with | [_, _], _ => rfl
  have F36 := fun_mk (st := sDaysToOrder) l36 c36 k36
  have b36 := F36.binds (ps := ["plant", "stock"]) fun _ _ _ _ _ _ us hl => match us, hl with | [_, _], _ => rfl
  have F37 := fun_mk (st := sCheckOrdered) l37 c37 k37
  have b37 := F37.binds (ps := ["plant", "stock"]) fun _ _ _ _ _ _ us hl => match us, hl with | [_, _], _ => rfl
  have F39 := fun_mk (st := sWord) l39 c39 k39
  have b39 := F39.binds (ps := ["plant", "stock", "station"]) fun _ _ _ _ _ _ us hl => match us, hl with | [_, _, _], _ => rfl
  have C40 := funC_mk (st := sWordsByAge) l40 c40 k40
  have F40 := C40.fun
  have b40 := F40.binds (ps := ["plant", "stock"]) fun _ _ _ _ _ _ us hl => match us, hl with | [_, _], _ => rfl
  have F41 := fun_mk (st := sRanksByWords) l41 c41 k41
  have b41 := F41.binds (ps := ["words"]) fun _ _ _ _ _ _ us hl => match us, hl with | [_], _ => rfl
  have F42 := fun_mk (st := sTurnedWords) l42 c42 k42
  have b42 := F42.binds (ps := ["plant", "words", "days"]) fun _ _ _ _ _ _ us hl => match us, hl with | [_, _, _], _ => rfl
  have F43 := fun_mk (st := sTurned) l43 c43 k43
  have b43 := F43.binds (ps := ["letters", "many"]) fun _ _ _ _ _ _ us hl => match us, hl with | [_, _], _ => rfl
  have F44 := fun_mk (st := sEmptiedByWords) l44 c44 k44
  have b44 := F44.binds (ps := ["plant", "words", "days"]) fun _ _ _ _ _ _ us hl => match us, hl with | [_, _, _], _ => rfl
  have F45 := fun_mk (st := sTimesGiven) l45 c45 k45
  have b45 := F45.binds (ps := ["letters", "supplier", "many"]) fun _ _ _ _ _ _ us hl => match us, hl with | [_, _, _], _ => rfl
  have F47 := fun_mk (st := sCommonDivisor) l47 c47 k47
  have b47 := F47.binds (ps := ["one", "other"]) fun _ _ _ _ _ _ us hl => match us, hl with | [_, _], _ => rfl
  have F49 := fun_mk (st := sCycleLength) l49 c49 k49
  have b49 := F49.binds (ps := ["plant", "stock"]) fun _ _ _ _ _ _ us hl => match us, hl with | [_, _], _ => rfl
  have F50 := fun_mk (st := sPeriodOf) l50 c50 k50
  have b50 := F50.binds (ps := ["letters"]) fun _ _ _ _ _ _ us hl => match us, hl with | [_], _ => rfl
  have F51 := fun_mk (st := sLengthOfCycle) l51 c51 k51
  have b51 := F51.binds (ps := ["plant", "stock"]) fun _ _ _ _ _ _ us hl => match us, hl with | [_, _], _ => rfl
  have F52 := fun_mk (st := sCommonMultiple) l52 c52 k52
  have b52 := F52.binds (ps := ["one", "other"]) fun _ _ _ _ _ _ us hl => match us, hl with | [_, _], _ => rfl
  have F54 := fun_mk (st := sMakerOn) l54 c54 k54
  have b54 := F54.binds (ps := ["plant", "stock", "day"]) fun _ _ _ _ _ _ us hl => match us, hl with | [_, _, _], _ => rfl
  have F55 := fun_mk (st := sFarStock) l55 c55 k55
  have b55 := F55.binds (ps := ["plant", "stock", "days"]) fun _ _ _ _ _ _ us hl => match us, hl with | [_, _, _], _ => rfl
  have F56 := fun_mk (st := sFarChain) l56 c56 k56
  have b56 := F56.binds (ps := ["plant", "stock", "day"]) fun _ _ _ _ _ _ us hl => match us, hl with | [_, _, _], _ => rfl
  have F60 := fun_mk (st := sSoldOn) l60 c60 k60
  have b60 := F60.binds (ps := ["plant", "stock", "day"]) fun _ _ _ _ _ _ us hl => match us, hl with | [_, _, _], _ => rfl
  have F61 := fun_mk (st := sSalesOfFirst) l61 c61 k61
  have b61 := F61.binds (ps := ["plant", "stock"]) fun _ _ _ _ _ _ us hl => match us, hl with | [_, _], _ => rfl
  have F64 := fun_mk (st := sReadPlant) l64 c64 k64
  have b64 := F64.binds (ps := ["text"]) fun _ _ _ _ _ _ us hl => match us, hl with | [_], _ => rfl
  have F65 := fun_mk (st := sCheckText) l65 c65 k65
  have b65 := F65.binds (ps := ["holds"]) fun _ _ _ _ _ _ us hl => match us, hl with | [_], _ => rfl
  have F66 := fun_mk (st := sNumberIn) l66 c66 k66
  have b66 := F66.binds (ps := ["text"]) fun _ _ _ _ _ _ us hl => match us, hl with | [_], _ => rfl
  have F70 := fun_mk (st := sSayDay) l70 c70 k70
  have b70 := F70.binds (ps := ["live"]) fun _ _ _ _ _ _ us hl => match us, hl with | [_], _ => rfl
  have F71 := fun_mk (st := sSayRemove) l71 c71 k71
  have b71 := F71.binds (ps := ["live"]) fun _ _ _ _ _ _ us hl => match us, hl with | [_], _ => rfl
  have F72 := fun_mk (st := sSayUndo) l72 c72 k72
  have b72 := F72.binds (ps := ["live"]) fun _ _ _ _ _ _ us hl => match us, hl with | [_], _ => rfl
  have F73 := fun_mk (st := sSayStock) l73 c73 k73
  have b73 := F73.binds (ps := ["live"]) fun _ _ _ _ _ _ us hl => match us, hl with | [_], _ => rfl
  have F74 := fun_mk (st := sSayWait) l74 c74 k74
  have b74 := F74.binds (ps := ["live"]) fun _ _ _ _ _ _ us hl => match us, hl with | [_], _ => rfl
  have F75 := fun_mk (st := sSayCycle) l75 c75 k75
  have b75 := F75.binds (ps := ["live"]) fun _ _ _ _ _ _ us hl => match us, hl with | [_], _ => rfl
  have F76 := fun_mk (st := sSaySell) l76 c76 k76
  have b76 := F76.binds (ps := ["live", "station"]) fun _ _ _ _ _ _ us hl => match us, hl with | [_, _], _ => rfl
  have F77 := fun_mk (st := sSayDays) l77 c77 k77
  have b77 := F77.binds (ps := ["live", "many"]) fun _ _ _ _ _ _ us hl => match us, hl with | [_, _], _ => rfl
  have F78 := fun_mk (st := sSayAdd) l78 c78 k78
  have b78 := F78.binds (ps := ["live", "station"]) fun _ _ _ _ _ _ us hl => match us, hl with | [_, _], _ => rfl
  have F79 := fun_mk (st := sSayWord) l79 c79 k79
  have b79 := F79.binds (ps := ["live", "station"]) fun _ _ _ _ _ _ us hl => match us, hl with | [_, _], _ => rfl
  have F80 := fun_mk (st := sSaySold) l80 c80 k80
  have b80 := F80.binds (ps := ["live", "day"]) fun _ _ _ _ _ _ us hl => match us, hl with | [_, _], _ => rfl
  have F81 := fun_mk (st := sSayMaker) l81 c81 k81
  have b81 := F81.binds (ps := ["live", "day"]) fun _ _ _ _ _ _ us hl => match us, hl with | [_, _], _ => rfl
  have F82 := fun_mk (st := sSpaced) l82 c82 k82
  have b82 := F82.binds (ps := ["numbers"]) fun _ _ _ _ _ _ us hl => match us, hl with | [_], _ => rfl
  have F86 := fun_mk (st := sLivePlantOf) l86 c86 k86
  have b86 := F86.binds (ps := ["text"]) fun _ _ _ _ _ _ us hl => match us, hl with | [_], _ => rfl
  have F87 := fun_mk (st := sAnswer) l87 c87 k87
  have b87 := F87.binds (ps := ["live", "parts"]) fun _ _ _ _ _ _ us hl => match us, hl with | [_, _], _ => rfl
  have F88 := fun_mk (st := sCheckRow) l88 c88 k88
  have b88 := F88.binds (ps := ["holds"]) fun _ _ _ _ _ _ us hl => match us, hl with | [_], _ => rfl
  have F90 := fun_mk (st := sLawFount) l90 c90 k90
  have b90 := F90.binds (ps := ["script", "k"]) fun _ _ _ _ _ _ us hl => match us, hl with | [_, _], _ => rfl
  have F91 := fun_mk (st := sLawSip) l91 c91 k91
  have b91 := F91.binds (ps := ["fount", "many"]) fun _ _ _ _ _ _ us hl => match us, hl with | [_, _], _ => rfl
  have F92 := fun_mk (st := sLawMixed) l92 c92 k92
  have b92 := F92.binds (ps := ["fount", "items"]) fun _ _ _ _ _ _ us hl => match us, hl with | [_, _], _ => rfl
  have F93 := fun_mk (st := sLawGrown) l93 c93 k93
  have b93 := F93.binds (ps := ["fount", "most"]) fun _ _ _ _ _ _ us hl => match us, hl with | [_, _], _ => rfl
  have F94 := fun_mk (st := sLawFilled) l94 c94 k94
  have b94 := F94.binds (ps := ["fount", "plant"]) fun _ _ _ _ _ _ us hl => match us, hl with | [_, _], _ => rfl
  have F95 := fun_mk (st := sLawSold) l95 c95 k95
  have b95 := F95.binds (ps := ["plant", "boxes", "station"]) fun _ _ _ _ _ _ us hl => match us, hl with | [_, _, _], _ => rfl
  have F96 := fun_mk (st := sLawDays) l96 c96 k96
  have b96 := F96.binds (ps := ["plant", "boxes", "many"]) fun _ _ _ _ _ _ us hl => match us, hl with | [_, _, _], _ => rfl
  have F97 := fun_mk (st := sLawStep) l97 c97 k97
  have b97 := F97.binds (ps := ["state", "operation"]) fun _ _ _ _ _ _ us hl => match us, hl with | [_, _], _ => rfl
  have F98 := fun_mk (st := sLawOperation) l98 c98 k98
  have b98 := F98.binds (ps := ["fount", "state", "most", "great"]) fun _ _ _ _ _ _ us hl => match us, hl with | [_, _, _, _], _ => rfl
  have F99 := fun_mk (st := sLawRow) l99 c99 k99
  have b99 := F99.binds (ps := ["operation"]) fun _ _ _ _ _ _ us hl => match us, hl with | [_], _ => rfl
  have F100 := fun_mk (st := sLawText) l100 c100 k100
  have b100 := F100.binds (ps := ["plant", "boxes"]) fun _ _ _ _ _ _ us hl => match us, hl with | [_, _], _ => rfl
  have F101 := fun_mk (st := sLawOpen) l101 c101 k101
  have b101 := F101.binds (ps := ["plant", "boxes"]) fun _ _ _ _ _ _ us hl => match us, hl with | [_, _], _ => rfl
  have F102 := fun_mk (st := sLawOpened) l102 c102 k102
  have b102 := F102.binds (ps := ["fount", "console"]) fun _ _ _ _ _ _ us hl => match us, hl with | [_, _], _ => rfl
  have F103 := fun_mk (st := sLawUndone) l103 c103 k103
  have b103 := F103.binds (ps := ["console", "states"]) fun _ _ _ _ _ _ us hl => match us, hl with | [_, _], _ => rfl
  have F_lv_init : FunD K "__init__" "LivePlant.__init__" (defArgs sLvInit) (defBody sLvInit) (defScope sLvInit) [] [("stock", V.non)] p_lv_init _ := ⟨⟨oc_lv_init, od_lv_init, .none, .ref D_lv_init, dc_lv_init, pm_lv_init, an_lv_init, cd_lv_init, ct_lv_init, sl_lv_init, rfl, l_lv_init, c_lv_init, .inl ⟨rfl, rfl⟩, .inr ⟨D_lv_init, rfl, fun q hq => by rw [List.mem_singleton.mp hq]; exact ⟨_, kd_lv_init, rfl⟩⟩⟩, kk_lv_init⟩
  obtain ⟨ds_lv_init, D2_lv_init, b_lv_init⟩ := F_lv_init.binds0 (ps := ["self", "plant", "stock"]) 2 (by simp) rfl fun _ _ _ _ _ _ us ks h1 h2 => match us, ks, h1, h2 with | [_, _], [_], _, _ => ⟨_, _, _, _, _, _, rfl, rfl, rfl⟩
  obtain ⟨mv_lv_init, kb_lv_init⟩ := F_lv_init.kbinds0 (ps := ["self", "plant", "stock"]) 2 ["stock"] [] (fun vs mz zs => vs ++ zs) (by simp) (by simp) (fun r1 _ r3 => r1.append r3) fun _ _ _ _ _ _ us mv ws h1 h2 h3 => match us, mv, ws, h1, h2, h3 with | [_, _], [], [_], _, _, _ => rfl
  have F_lv_eq := fun_mk (st := sLvEq) l_lv_eq c_lv_eq kk_lv_eq
  have b_lv_eq := F_lv_eq.binds (ps := ["self", "other"]) fun _ _ _ _ _ _ us hl => match us, hl with | [_, _], _ => rfl
  have F_lv_len := fun_mk (st := sLvLen) l_lv_len c_lv_len kk_lv_len
  have b_lv_len := F_lv_len.binds (ps := ["self"]) fun _ _ _ _ _ _ us hl => match us, hl with | [_], _ => rfl
  have F_lv_day := fun_mk (st := sLvDay) l_lv_day c_lv_day kk_lv_day
  have b_lv_day := F_lv_day.binds (ps := ["self"]) fun _ _ _ _ _ _ us hl => match us, hl with | [_], _ => rfl
  have F_lv_days := fun_mk (st := sLvDays) l_lv_days c_lv_days kk_lv_days
  have b_lv_days := F_lv_days.binds (ps := ["self", "days"]) fun _ _ _ _ _ _ us hl => match us, hl with | [_, _], _ => rfl
  have F_lv_sell := fun_mk (st := sLvSell) l_lv_sell c_lv_sell kk_lv_sell
  have b_lv_sell := F_lv_sell.binds (ps := ["self", "station"]) fun _ _ _ _ _ _ us hl => match us, hl with | [_, _], _ => rfl
  have F_lv_add := fun_mk (st := sLvAdd) l_lv_add c_lv_add kk_lv_add
  have b_lv_add := F_lv_add.binds (ps := ["self", "station"]) fun _ _ _ _ _ _ us hl => match us, hl with | [_, _], _ => rfl
  have F_lv_remove := fun_mk (st := sLvRemove) l_lv_remove c_lv_remove kk_lv_remove
  have b_lv_remove := F_lv_remove.binds (ps := ["self"]) fun _ _ _ _ _ _ us hl => match us, hl with | [_], _ => rfl
  have F_lv_undo := fun_mk (st := sLvUndo) l_lv_undo c_lv_undo kk_lv_undo
  have b_lv_undo := F_lv_undo.binds (ps := ["self"]) fun _ _ _ _ _ _ us hl => match us, hl with | [_], _ => rfl
  have F_lv_plant := fun_mk (st := sLvPlant) l_lv_plant c_lv_plant kk_lv_plant
  have b_lv_plant := F_lv_plant.binds (ps := ["self"]) fun _ _ _ _ _ _ us hl => match us, hl with | [_], _ => rfl
  have F_lv_stock := fun_mk (st := sLvStock) l_lv_stock c_lv_stock kk_lv_stock
  have b_lv_stock := F_lv_stock.binds (ps := ["self"]) fun _ _ _ _ _ _ us hl => match us, hl with | [_], _ => rfl
  have F_lv_pull := fun_mk (st := sLvPull) l_lv_pull c_lv_pull kk_lv_pull
  have b_lv_pull := F_lv_pull.binds (ps := ["self", "operation", "first"]) fun _ _ _ _ _ _ us hl => match us, hl with | [_, _, _], _ => rfl
  have F_lv_change := fun_mk (st := sLvChange) l_lv_change c_lv_change kk_lv_change
  have b_lv_change := F_lv_change.binds (ps := ["self", "operation", "customers", "boxes"]) fun _ _ _ _ _ _ us hl => match us, hl with | [_, _, _, _], _ => rfl
  have F_co_init := fun_mk (st := sCoInit) l_co_init c_co_init kk_co_init
  have b_co_init := F_co_init.binds (ps := ["self"]) fun _ _ _ _ _ _ us hl => match us, hl with | [_], _ => rfl
  have F_co_say := fun_mk (st := sCoSay) l_co_say c_co_say kk_co_say
  have b_co_say := F_co_say.binds (ps := ["self", "row"]) fun _ _ _ _ _ _ us hl => match us, hl with | [_, _], _ => rfl
  obtain ⟨T, eC32, eP32, eC40, eP40, eD_ALONE, eD_WITH_NUMBER⟩ : ∃ T : Tx K mg, T.c_oldest_giver = cc32 ∧ T.P_oldest_giver = PP32 ∧ T.c_words_by_age = cc40 ∧ T.P_words_by_age = PP40 ∧ T.A_ALONE = pD_ALONE ∧ T.A_WITH_NUMBER = pD_WITH_NUMBER := ⟨{ f_is_integer := p15, d_is_integer := _, F_is_integer := F15, b_is_integer := b15, g_is_integer := PySem.W.mg_of X G a15, f_is_within := p16, d_is_within := _, F_is_within := F16, b_is_within := b16, g_is_within := PySem.W.mg_of X G a16, f_is_decimal := p17, d_is_decimal := _, F_is_decimal := F17, b_is_decimal := b17, g_is_decimal := PySem.W.mg_of X G a17, f_fits_plant := p18, d_fits_plant := _, F_fits_plant := F18, b_fits_plant := b18, g_fits_plant := PySem.W.mg_of X G a18, f_fits_station := p19, d_fits_station := _, F_fits_station := F19, b_fits_station := b19, g_fits_station := PySem.W.mg_of X G a19, f_fits_stock := p20, d_fits_stock := _, F_fits_stock := F20, b_fits_stock := b20, g_fits_stock := PySem.W.mg_of X G a20, f_check_plant := p21, d_check_plant := _, F_check_plant := F21, b_check_plant := b21, g_check_plant := PySem.W.mg_of X G a21, f_check_station := p22, d_check_station := _, F_check_station := F22, b_check_station := b22, g_check_station := PySem.W.mg_of X G a22, f_check_stock := p23, d_check_stock := _, F_check_stock := F23, b_check_stock := b23, g_check_stock := PySem.W.mg_of X G a23, f_check_days := p24, d_check_days := _, F_check_days := F24, b_check_days := b24, g_check_days := PySem.W.mg_of X G a24, f_supplier_lists := p26, d_supplier_lists := _, F_supplier_lists := F26, b_supplier_lists := b26, g_supplier_lists := PySem.W.mg_of X G a26, f_run := p29, d_run := _, F_run := F29, b_run := b29, g_run := PySem.W.mg_of X G a29, f_first_days := p30, d_first_days := _, F_first_days := F30, b_first_days := b30, g_first_days := PySem.W.mg_of X G a30, f_pass_day := p31, d_pass_day := _, F_pass_day := F31, v_pass_day := ds31, V_pass_day := D31, b_pass_day := b31, w_pass_day := w31, g_pass_day := PySem.W.mg_of X G a31, f_oldest_giver := p32, d_oldest_giver := _, F_oldest_giver := F32, b_oldest_giver := b32, g_oldest_giver := PySem.W.mg_of X G a32, c_oldest_giver := cc32, P_oldest_giver := PP32, C_oldest_giver := C32, f_days_until_ordered := p34, d_days_until_ordered := _, F_days_until_ordered := F34, b_days_until_ordered := b34, g_days_until_ordered := PySem.W.mg_of X G a34, f_last_disorder := p35, d_last_disorder := _, F_last_disorder := F35, b_last_disorder := b35, g_last_disorder := PySem.W.mg_of X G a35, f_days_to_order := p36, d_days_to_order := _, F_days_to_order := F36, b_days_to_order := b36, g_days_to_order := PySem.W.mg_of X G a36, f_check_ordered := p37, d_check_ordered := _, F_check_ordered := F37, b_check_ordered := b37, g_check_ordered := PySem.W.mg_of X G a37, f_word := p39, d_word := _, F_word := F39, b_word := b39, g_word := PySem.W.mg_of X G a39, f_words_by_age := p40, d_words_by_age := _, F_words_by_age := F40, b_words_by_age := b40, g_words_by_age := PySem.W.mg_of X G a40, c_words_by_age := cc40, P_words_by_age := PP40, C_words_by_age := C40, f_ranks_by_words := p41, d_ranks_by_words := _, F_ranks_by_words := F41, b_ranks_by_words := b41, g_ranks_by_words := PySem.W.mg_of X G a41, f_turned_words := p42, d_turned_words := _, F_turned_words := F42, b_turned_words := b42, g_turned_words := PySem.W.mg_of X G a42, f_turned := p43, d_turned := _, F_turned := F43, b_turned := b43, g_turned := PySem.W.mg_of X G a43, f_emptied_by_words := p44, d_emptied_by_words := _, F_emptied_by_words := F44, b_emptied_by_words := b44, g_emptied_by_words := PySem.W.mg_of X G a44, f_times_given := p45, d_times_given := _, F_times_given := F45, b_times_given := b45, g_times_given := PySem.W.mg_of X G a45, f_common_divisor := p47, d_common_divisor := _, F_common_divisor := F47, b_common_divisor := b47, g_common_divisor := PySem.W.mg_of X G a47, f_cycle_length := p49, d_cycle_length := _, F_cycle_length := F49, b_cycle_length := b49, g_cycle_length := PySem.W.mg_of X G a49, f_period_of := p50, d_period_of := _, F_period_of := F50, b_period_of := b50, g_period_of := PySem.W.mg_of X G a50, f_length_of_cycle := p51, d_length_of_cycle := _, F_length_of_cycle := F51, b_length_of_cycle := b51, g_length_of_cycle := PySem.W.mg_of X G a51, f_common_multiple := p52, d_common_multiple := _, F_common_multiple := F52, b_common_multiple := b52, g_common_multiple := PySem.W.mg_of X G a52, f_maker_on := p54, d_maker_on := _, F_maker_on := F54, b_maker_on := b54, g_maker_on := PySem.W.mg_of X G a54, f_far_stock := p55, d_far_stock := _, F_far_stock := F55, b_far_stock := b55, g_far_stock := PySem.W.mg_of X G a55, f_far_chain := p56, d_far_chain := _, F_far_chain := F56, b_far_chain := b56, g_far_chain := PySem.W.mg_of X G a56, f_sold_on := p60, d_sold_on := _, F_sold_on := F60, b_sold_on := b60, g_sold_on := PySem.W.mg_of X G a60, f_sales_of_first := p61, d_sales_of_first := _, F_sales_of_first := F61, b_sales_of_first := b61, g_sales_of_first := PySem.W.mg_of X G a61, f_read_plant := p64, d_read_plant := _, F_read_plant := F64, b_read_plant := b64, g_read_plant := PySem.W.mg_of X G a64, f_check_text := p65, d_check_text := _, F_check_text := F65, b_check_text := b65, g_check_text := PySem.W.mg_of X G a65, f_number_in := p66, d_number_in := _, F_number_in := F66, b_number_in := b66, g_number_in := PySem.W.mg_of X G a66, f_say_day := p70, d_say_day := _, F_say_day := F70, b_say_day := b70, g_say_day := PySem.W.mg_of X G a70, f_say_remove := p71, d_say_remove := _, F_say_remove := F71, b_say_remove := b71, g_say_remove := PySem.W.mg_of X G a71, f_say_undo := p72, d_say_undo := _, F_say_undo := F72, b_say_undo := b72, g_say_undo := PySem.W.mg_of X G a72, f_say_stock := p73, d_say_stock := _, F_say_stock := F73, b_say_stock := b73, g_say_stock := PySem.W.mg_of X G a73, f_say_wait := p74, d_say_wait := _, F_say_wait := F74, b_say_wait := b74, g_say_wait := PySem.W.mg_of X G a74, f_say_cycle := p75, d_say_cycle := _, F_say_cycle := F75, b_say_cycle := b75, g_say_cycle := PySem.W.mg_of X G a75, f_say_sell := p76, d_say_sell := _, F_say_sell := F76, b_say_sell := b76, g_say_sell := PySem.W.mg_of X G a76, f_say_days := p77, d_say_days := _, F_say_days := F77, b_say_days := b77, g_say_days := PySem.W.mg_of X G a77, f_say_add := p78, d_say_add := _, F_say_add := F78, b_say_add := b78, g_say_add := PySem.W.mg_of X G a78, f_say_word := p79, d_say_word := _, F_say_word := F79, b_say_word := b79, g_say_word := PySem.W.mg_of X G a79, f_say_sold := p80, d_say_sold := _, F_say_sold := F80, b_say_sold := b80, g_say_sold := PySem.W.mg_of X G a80, f_say_maker := p81, d_say_maker := _, F_say_maker := F81, b_say_maker := b81, g_say_maker := PySem.W.mg_of X G a81, f_spaced := p82, d_spaced := _, F_spaced := F82, b_spaced := b82, g_spaced := PySem.W.mg_of X G a82, f_live_plant_of := p86, d_live_plant_of := _, F_live_plant_of := F86, b_live_plant_of := b86, g_live_plant_of := PySem.W.mg_of X G a86, f_answer := p87, d_answer := _, F_answer := F87, b_answer := b87, g_answer := PySem.W.mg_of X G a87, f_check_row := p88, d_check_row := _, F_check_row := F88, b_check_row := b88, g_check_row := PySem.W.mg_of X G a88, f__law_fount := p90, d__law_fount := _, F__law_fount := F90, b__law_fount := b90, g__law_fount := PySem.W.mg_of X G a90, f__law_sip := p91, d__law_sip := _, F__law_sip := F91, b__law_sip := b91, g__law_sip := PySem.W.mg_of X G a91, f__law_mixed := p92, d__law_mixed := _, F__law_mixed := F92, b__law_mixed := b92, g__law_mixed := PySem.W.mg_of X G a92, f__law_grown := p93, d__law_grown := _, F__law_grown := F93, b__law_grown := b93, g__law_grown := PySem.W.mg_of X G a93, f__law_filled := p94, d__law_filled := _, F__law_filled := F94, b__law_filled := b94, g__law_filled := PySem.W.mg_of X G a94, f__law_sold := p95, d__law_sold := _, F__law_sold := F95, b__law_sold := b95, g__law_sold := PySem.W.mg_of X G a95, f__law_days := p96, d__law_days := _, F__law_days := F96, b__law_days := b96, g__law_days := PySem.W.mg_of X G a96, f__law_step := p97, d__law_step := _, F__law_step := F97, b__law_step := b97, g__law_step := PySem.W.mg_of X G a97, f__law_operation := p98, d__law_operation := _, F__law_operation := F98, b__law_operation := b98, g__law_operation := PySem.W.mg_of X G a98, f__law_row := p99, d__law_row := _, F__law_row := F99, b__law_row := b99, g__law_row := PySem.W.mg_of X G a99, f__law_text := p100, d__law_text := _, F__law_text := F100, b__law_text := b100, g__law_text := PySem.W.mg_of X G a100, f__law_open := p101, d__law_open := _, F__law_open := F101, b__law_open := b101, g__law_open := PySem.W.mg_of X G a101, f__law_opened := p102, d__law_opened := _, F__law_opened := F102, b__law_opened := b102, g__law_opened := PySem.W.mg_of X G a102, f__law_undone := p103, d__law_undone := _, F__law_undone := F103, b__law_undone := b103, g__law_undone := PySem.W.mg_of X G a103, t_MOST_STATIONS := t_MOST_STATIONS, g_MOST_STATIONS := PySem.W.mg_of X G aM_MOST_STATIONS, t_FARTHEST_DAY := t_FARTHEST_DAY, g_FARTHEST_DAY := PySem.W.mg_of X G aM_FARTHEST_DAY, t_MOST_DAYS := t_MOST_DAYS, g_MOST_DAYS := PySem.W.mg_of X G aM_MOST_DAYS, t_MOST_DIGITS_texts := t_MOST_DIGITS_texts, g_MOST_DIGITS_texts := PySem.W.mg_of X G aM_MOST_DIGITS_texts, t_MOST_DIGITS_console := t_MOST_DIGITS_console, g_MOST_DIGITS_console := PySem.W.mg_of X G aM_MOST_DIGITS_console, t_DONE := t_DONE, g_DONE := PySem.W.mg_of X G aS_DONE, A_ALONE := pD_ALONE, g_ALONE := PySem.W.mg_of X G aD_ALONE, y_ALONE_day := yD_ALONE_day, y_ALONE_remove := yD_ALONE_remove, y_ALONE_undo := yD_ALONE_undo, y_ALONE_stock := yD_ALONE_stock, y_ALONE_wait := yD_ALONE_wait, y_ALONE_cycle := yD_ALONE_cycle, A_WITH_NUMBER := pD_WITH_NUMBER, g_WITH_NUMBER := PySem.W.mg_of X G aD_WITH_NUMBER, y_WITH_NUMBER_sell := yD_WITH_NUMBER_sell, y_WITH_NUMBER_days := yD_WITH_NUMBER_days, y_WITH_NUMBER_add := yD_WITH_NUMBER_add, y_WITH_NUMBER_word := yD_WITH_NUMBER_word, y_WITH_NUMBER_sold := yD_WITH_NUMBER_sold, y_WITH_NUMBER_maker := yD_WITH_NUMBER_maker, x_LivePlant := x_LivePlant, g_LivePlant := PySem.W.mg_of X G aC_LivePlant, C_LivePlant := ⟨pg_LivePlant, hd_LivePlant, po_LivePlant, sa_LivePlant⟩, I_LivePlant := ⟨⟨pg_LivePlant, hd_LivePlant, po_LivePlant, sa_LivePlant⟩, ic1_LivePlant, ic2_LivePlant, ic3_LivePlant, ic4_LivePlant, ic5_LivePlant⟩, N_LivePlant := ic6_LivePlant, a_customers := na_customers, a_boxes := na_boxes, a_past := na_past, x_Console := x_Console, g_Console := PySem.W.mg_of X G aC_Console, C_Console := ⟨pg_Console, hd_Console, po_Console, sa_Console⟩, I_Console := ⟨⟨pg_Console, hd_Console, po_Console, sa_Console⟩, ic1_Console, ic2_Console, ic3_Console, ic4_Console, ic5_Console⟩, N_Console := ic6_Console, a_live := na_live, f_lv_init := p_lv_init, d_lv_init := _, F_lv_init := F_lv_init, v_lv_init := ds_lv_init, V_lv_init := D2_lv_init, b_lv_init := b_lv_init, k_lv_init := kb_lv_init, M_lv_init := ⟨a_lv_init, i_lv_init, kk_lv_init⟩, M_LivePlant := ⟨mk_LivePlant, a_lv_init, i_lv_init, kc_LivePlant⟩, f_lv_eq := p_lv_eq, d_lv_eq := _, F_lv_eq := F_lv_eq, b_lv_eq := b_lv_eq, M_lv_eq := ⟨a_lv_eq, i_lv_eq, kk_lv_eq⟩, f_lv_len := p_lv_len, d_lv_len := _, F_lv_len := F_lv_len, b_lv_len := b_lv_len, M_lv_len := ⟨a_lv_len, i_lv_len, kk_lv_len⟩, f_lv_day := p_lv_day, d_lv_day := _, F_lv_day := F_lv_day, b_lv_day := b_lv_day, M_lv_day := ⟨a_lv_day, i_lv_day, kk_lv_day⟩, f_lv_days := p_lv_days, d_lv_days := _, F_lv_days := F_lv_days, b_lv_days := b_lv_days, M_lv_days := ⟨a_lv_days, i_lv_days, kk_lv_days⟩, f_lv_sell := p_lv_sell, d_lv_sell := _, F_lv_sell := F_lv_sell, b_lv_sell := b_lv_sell, M_lv_sell := ⟨a_lv_sell, i_lv_sell, kk_lv_sell⟩, f_lv_add := p_lv_add, d_lv_add := _, F_lv_add := F_lv_add, b_lv_add := b_lv_add, M_lv_add := ⟨a_lv_add, i_lv_add, kk_lv_add⟩, f_lv_remove := p_lv_remove, d_lv_remove := _, F_lv_remove := F_lv_remove, b_lv_remove := b_lv_remove, M_lv_remove := ⟨a_lv_remove, i_lv_remove, kk_lv_remove⟩, f_lv_undo := p_lv_undo, d_lv_undo := _, F_lv_undo := F_lv_undo, b_lv_undo := b_lv_undo, M_lv_undo := ⟨a_lv_undo, i_lv_undo, kk_lv_undo⟩, f_lv_plant := p_lv_plant, d_lv_plant := _, F_lv_plant := F_lv_plant, b_lv_plant := b_lv_plant, M_lv_plant := ⟨a_lv_plant, i_lv_plant, kk_lv_plant⟩, f_lv_stock := p_lv_stock, d_lv_stock := _, F_lv_stock := F_lv_stock, b_lv_stock := b_lv_stock, M_lv_stock := ⟨a_lv_stock, i_lv_stock, kk_lv_stock⟩, f_lv_pull := p_lv_pull, d_lv_pull := _, F_lv_pull := F_lv_pull, b_lv_pull := b_lv_pull, M_lv_pull := ⟨a_lv_pull, i_lv_pull, kk_lv_pull⟩, f_lv_change := p_lv_change, d_lv_change := _, F_lv_change := F_lv_change, b_lv_change := b_lv_change, M_lv_change := ⟨a_lv_change, i_lv_change, kk_lv_change⟩, f_co_init := p_co_init, d_co_init := _, F_co_init := F_co_init, b_co_init := b_co_init, M_co_init := ⟨a_co_init, i_co_init, kk_co_init⟩, M_Console := ⟨mk_Console, a_co_init, i_co_init, kc_Console⟩, f_co_say := p_co_say, d_co_say := _, F_co_say := F_co_say, b_co_say := b_co_say, M_co_say := ⟨a_co_say, i_co_say, kk_co_say⟩, n_all := PySem.W.mg_none_of X G z_all, n_bool := PySem.W.mg_none_of X G z_bool, n_divmod := PySem.W.mg_none_of X G z_divmod, n_enumerate := PySem.W.mg_none_of X G z_enumerate, n_int := PySem.W.mg_none_of X G z_int, n_isinstance := PySem.W.mg_none_of X G z_isinstance, n_len := PySem.W.mg_none_of X G z_len, n_list := PySem.W.mg_none_of X G z_list, n_max := PySem.W.mg_none_of X G z_max, n_min := PySem.W.mg_none_of X G z_min, n_range := PySem.W.mg_none_of X G z_range, n_set := PySem.W.mg_none_of X G z_set, n_sorted := PySem.W.mg_none_of X G z_sorted, n_str := PySem.W.mg_none_of X G z_str, n_tuple := PySem.W.mg_none_of X G z_tuple, n_zip := PySem.W.mg_none_of X G z_zip, E_nothing := er_nothing, E_all := ⟨er_all, er_each⟩, x_PlantError := xx_PlantError, X_PlantError := ⟨PySem.W.mg_of X G xa_PlantError, xe_PlantError, xk_PlantError, xs_PlantError, xt_PlantError⟩, x_NoPlant := xx_NoPlant, X_NoPlant := ⟨PySem.W.mg_of X G xa_NoPlant, xe_NoPlant, xk_NoPlant, xs_NoPlant, xt_NoPlant⟩, x_NoStation := xx_NoStation, X_NoStation := ⟨PySem.W.mg_of X G xa_NoStation, xe_NoStation, xk_NoStation, xs_NoStation, xt_NoStation⟩, x_NoStock := xx_NoStock, X_NoStock := ⟨PySem.W.mg_of X G xa_NoStock, xe_NoStock, xk_NoStock, xs_NoStock, xt_NoStock⟩, x_NoDays := xx_NoDays, X_NoDays := ⟨PySem.W.mg_of X G xa_NoDays, xe_NoDays, xk_NoDays, xs_NoDays, xt_NoDays⟩, x_NotOrdered := xx_NotOrdered, X_NotOrdered := ⟨PySem.W.mg_of X G xa_NotOrdered, xe_NotOrdered, xk_NotOrdered, xs_NotOrdered, xt_NotOrdered⟩, x_Full := xx_Full, X_Full := ⟨PySem.W.mg_of X G xa_Full, xe_Full, xk_Full, xs_Full, xt_Full⟩, x_Nothing := xx_Nothing, X_Nothing := ⟨PySem.W.mg_of X G xa_Nothing, xe_Nothing, xk_Nothing, xs_Nothing, xt_Nothing⟩, x_NoText := xx_NoText, X_NoText := ⟨PySem.W.mg_of X G xa_NoText, xe_NoText, xk_NoText, xs_NoText, xt_NoText⟩, x_NoRow := xx_NoRow, X_NoRow := ⟨PySem.W.mg_of X G xa_NoRow, xe_NoRow, xk_NoRow, xs_NoRow, xt_NoRow⟩, q_oldest_giver_words_by_age := q32_40 }, rfl, rfl, rfl, rfl, rfl, rfl⟩
  have TD : TxD w T := ⟨⟨_, _, eD_ALONE ▸ (⟨lD_ALONE, kD_ALONE, wD_ALONE⟩ : L2.KDict K w pD_ALONE _ _)⟩, ⟨_, _, eD_WITH_NUMBER ▸ (⟨lD_WITH_NUMBER, kD_WITH_NUMBER, wD_WITH_NUMBER⟩ : L2.KDict K w pD_WITH_NUMBER _ _)⟩⟩
  refine ⟨[(cc32, PP32), (cc40, PP40)], (List.forall_mem_cons.mpr ⟨t32, (List.forall_mem_cons.mpr ⟨t40, fun _ h => nomatch h⟩)⟩), (List.forall_mem_cons.mpr ⟨z32, (List.forall_mem_cons.mpr ⟨z40, fun _ h => nomatch h⟩)⟩), (List.forall_mem_cons.mpr ⟨PySem.W.codeHd_of_K X h32, (List.forall_mem_cons.mpr ⟨PySem.W.codeHd_of_K X h40, fun _ h => nomatch h⟩)⟩), fun base H kb gb sb tb th hS en => ?_⟩
  have B32 : TabB base mg T.c_oldest_giver T.P_oldest_giver := by rw [eC32, eP32]; exact tb (cc32, PP32) (by simp)
  have H32 : H T.P_oldest_giver = some (.tbl #[]) := by rw [eP32]; exact th (cc32, PP32) (by simp)
  have B40 : TabB base mg T.c_words_by_age T.P_words_by_age := by rw [eC40, eP40]; exact tb (cc40, PP40) (by simp)
  have H40 : H T.P_words_by_age = some (.tbl #[]) := by rw [eP40]; exact th (cc40, PP40) (by simp)
  have tabs : Tabs T.tabW H := by
    intro p hp
    simp only [Tx.tabW, List.mem_cons, List.not_mem_nil, or_false] at hp
    rcases hp with rfl | rfl
    · exact .nil H32
    · exact .nil H40
  have room : Room 19 callerA := ⟨rfl, by decide, by decide⟩
  obtain ⟨t, ht, hq⟩ := law_body (P := l.prog) (w := w) (base := base) (f := fa) (cdv := cd104) (st := st) T B32 B40 TD hl hS sb tabs (room.deeper _)
  exact at_body (us := [.ref a]) (vs := [.ref a]) l104 c104 scLaw room en (.of_eq rfl) (.cons rfl .nil) rfl ⟨t, ht.nox, hq⟩
end PT
open PySem PySem.W PyProof.Rows
set_option maxHeartbeats 0 in
theorem PySem.Challenge.cw_pulltree_k56_console_operations_holds : PySem.Challenge.rw_pulltree_k56_console_operations.Holds := by
  w_on; o_law; k_head; (case hw => w_witness2)
  k_fill
  refine PT.walk_GTS (l := PySem.Challenge.rw_pulltree_k56_console_operations) (n := 63) (by decide +kernel) rfl (by decide) rfl (fun w h Y => ⟨PySem.W.km_in_of Y, PySem.W.km_tabs_of Y⟩) ?F
  case F =>
    intro w mg fa a st ns kin gl hmg hl ht
    refine' PT.all_mk kin gl hmg hl ?a15 ?l15 ?c15 ?k15 ?a16 ?l16 ?c16 ?k16 ?a17 ?l17 ?c17 ?k17 ?a18 ?l18 ?c18 ?k18 ?a19 ?l19 ?c19 ?k19 ?a20 ?l20 ?c20 ?k20 ?a21 ?l21 ?c21 ?k21 ?a22 ?l22 ?c22 ?k22 ?a23 ?l23 ?c23 ?k23 ?a24 ?l24 ?c24 ?k24 ?a26 ?l26 ?c26 ?k26 ?a29 ?l29 ?c29 ?k29 ?a30 ?l30 ?c30 ?k30 ?a31 ?l31 ?c31 ?k31 ?u31 ?a32 ?l32 ?c32 ?k32 ?a34 ?l34 ?c34 ?k34 ?a35 ?l35 ?c35 ?k35 ?a36 ?l36 ?c36 ?k36 ?a37 ?l37 ?c37 ?k37 ?a39 ?l39 ?c39 ?k39 ?a40 ?l40 ?c40 ?k40 ?a41 ?l41 ?c41 ?k41 ?a42 ?l42 ?c42 ?k42 ?a43 ?l43 ?c43 ?k43 ?a44 ?l44 ?c44 ?k44 ?a45 ?l45 ?c45 ?k45 ?a47 ?l47 ?c47 ?k47 ?a49 ?l49 ?c49 ?k49 ?a50 ?l50 ?c50 ?k50 ?a51 ?l51 ?c51 ?k51 ?a52 ?l52 ?c52 ?k52 ?a54 ?l54 ?c54 ?k54 ?a55 ?l55 ?c55 ?k55 ?a56 ?l56 ?c56 ?k56 ?a60 ?l60 ?c60 ?k60 ?a61 ?l61 ?c61 ?k61 ?a64 ?l64 ?c64 ?k64 ?a65 ?l65 ?c65 ?k65 ?a66 ?l66 ?c66 ?k66 ?a70 ?l70 ?c70 ?k70 ?a71 ?l71 ?c71 ?k71 ?a72 ?l72 ?c72 ?k72 ?a73 ?l73 ?c73 ?k73 ?a74 ?l74 ?c74 ?k74 ?a75 ?l75 ?c75 ?k75 ?a76 ?l76 ?c76 ?k76 ?a77 ?l77 ?c77 ?k77 ?a78 ?l78 ?c78 ?k78 ?a79 ?l79 ?c79 ?k79 ?a80 ?l80 ?c80 ?k80 ?a81 ?l81 ?c81 ?k81 ?a82 ?l82 ?c82 ?k82 ?a86 ?l86 ?c86 ?k86 ?a87 ?l87 ?c87 ?k87 ?a88 ?l88 ?c88 ?k88 ?a90 ?l90 ?c90 ?k90 ?a91 ?l91 ?c91 ?k91 ?a92 ?l92 ?c92 ?k92 ?a93 ?l93 ?c93 ?k93 ?a94 ?l94 ?c94 ?k94 ?a95 ?l95 ?c95 ?k95 ?a96 ?l96 ?c96 ?k96 ?a97 ?l97 ?c97 ?k97 ?a98 ?l98 ?c98 ?k98 ?a99 ?l99 ?c99 ?k99 ?a100 ?l100 ?c100 ?k100 ?a101 ?l101 ?c101 ?k101 ?a102 ?l102 ?c102 ?k102 ?a103 ?l103 ?c103 ?k103 ?a104 ?l104 ?c104 ?k104 ?aM_MOST_STATIONS ?aM_FARTHEST_DAY ?aM_MOST_DAYS ?aM_MOST_DIGITS_texts ?aM_MOST_DIGITS_console ?aS_DONE ?aD_ALONE ?lD_ALONE ?kD_ALONE ?wD_ALONE ?yD_ALONE_day ?yD_ALONE_remove ?yD_ALONE_undo ?yD_ALONE_stock ?yD_ALONE_wait ?yD_ALONE_cycle ?aD_WITH_NUMBER ?lD_WITH_NUMBER ?kD_WITH_NUMBER ?wD_WITH_NUMBER ?yD_WITH_NUMBER_sell ?yD_WITH_NUMBER_days ?yD_WITH_NUMBER_add ?yD_WITH_NUMBER_word ?yD_WITH_NUMBER_sold ?yD_WITH_NUMBER_maker ?xa_PlantError ?xe_PlantError ?xk_PlantError ?xs_PlantError ?xt_PlantError ?xa_NoPlant ?xe_NoPlant ?xk_NoPlant ?xs_NoPlant ?xt_NoPlant ?xa_NoStation ?xe_NoStation ?xk_NoStation ?xs_NoStation ?xt_NoStation ?xa_NoStock ?xe_NoStock ?xk_NoStock ?xs_NoStock ?xt_NoStock ?xa_NoDays ?xe_NoDays ?xk_NoDays ?xs_NoDays ?xt_NoDays ?xa_NotOrdered ?xe_NotOrdered ?xk_NotOrdered ?xs_NotOrdered ?xt_NotOrdered ?xa_Full ?xe_Full ?xk_Full ?xs_Full ?xt_Full ?xa_Nothing ?xe_Nothing ?xk_Nothing ?xs_Nothing ?xt_Nothing ?xa_NoText ?xe_NoText ?xk_NoText ?xs_NoText ?xt_NoText ?xa_NoRow ?xe_NoRow ?xk_NoRow ?xs_NoRow ?xt_NoRow ?er_all ?er_each ?er_nothing ?aC_LivePlant ?pg_LivePlant ?hd_LivePlant ?po_LivePlant ?sa_LivePlant ?mk_LivePlant ?kc_LivePlant ?ic1_LivePlant ?ic2_LivePlant ?ic3_LivePlant ?ic4_LivePlant ?ic5_LivePlant ?ic6_LivePlant ?na_customers ?na_boxes ?na_past ?aC_Console ?pg_Console ?hd_Console ?po_Console ?sa_Console ?mk_Console ?kc_Console ?ic1_Console ?ic2_Console ?ic3_Console ?ic4_Console ?ic5_Console ?ic6_Console ?na_live ?a_lv_init ?i_lv_init ?l_lv_init ?c_lv_init ?kk_lv_init ?kd_lv_init ?a_lv_eq ?i_lv_eq ?l_lv_eq ?c_lv_eq ?kk_lv_eq ?a_lv_len ?i_lv_len ?l_lv_len ?c_lv_len ?kk_lv_len ?a_lv_day ?i_lv_day ?l_lv_day ?c_lv_day ?kk_lv_day ?a_lv_days ?i_lv_days ?l_lv_days ?c_lv_days ?kk_lv_days ?a_lv_sell ?i_lv_sell ?l_lv_sell ?c_lv_sell ?kk_lv_sell ?a_lv_add ?i_lv_add ?l_lv_add ?c_lv_add ?kk_lv_add ?a_lv_remove ?i_lv_remove ?l_lv_remove ?c_lv_remove ?kk_lv_remove ?a_lv_undo ?i_lv_undo ?l_lv_undo ?c_lv_undo ?kk_lv_undo ?a_lv_plant ?i_lv_plant ?l_lv_plant ?c_lv_plant ?kk_lv_plant ?a_lv_stock ?i_lv_stock ?l_lv_stock ?c_lv_stock ?kk_lv_stock ?a_lv_pull ?i_lv_pull ?l_lv_pull ?c_lv_pull ?kk_lv_pull ?a_lv_change ?i_lv_change ?l_lv_change ?c_lv_change ?kk_lv_change ?a_co_init ?i_co_init ?l_co_init ?c_co_init ?kk_co_init ?a_co_say ?i_co_say ?l_co_say ?c_co_say ?kk_co_say ?z_all ?z_bool ?z_divmod ?z_enumerate ?z_int ?z_isinstance ?z_len ?z_list ?z_max ?z_min ?z_range ?z_set ?z_sorted ?z_str ?z_tuple ?z_zip ?t32 ?h32 ?z32 ?t40 ?h40 ?z40 ?q32_40
    (case a15 => k_is); (case l15 => k_is); (case c15 => k_is); (case k15 => k_is); (case a16 => k_is); (case l16 => k_is); (case c16 => k_is); (case k16 => k_is); (case a17 => k_is); (case l17 => k_is); (case c17 => k_is); (case k17 => k_is); (case a18 => k_is); (case l18 => k_is); (case c18 => k_is); (case k18 => k_is); (case a19 => k_is); (case l19 => k_is); (case c19 => k_is); (case k19 => k_is); (case a20 => k_is); (case l20 => k_is); (case c20 => k_is); (case k20 => k_is); (case a21 => k_is); (case l21 => k_is); (case c21 => k_is); (case k21 => k_is); (case a22 => k_is); (case l22 => k_is); (case c22 => k_is); (case k22 => k_is); (case a23 => k_is); (case l23 => k_is); (case c23 => k_is); (case k23 => k_is); (case a24 => k_is); (case l24 => k_is); (case c24 => k_is); (case k24 => k_is); (case a26 => k_is); (case l26 => k_is); (case c26 => k_is); (case k26 => k_is); (case a29 => k_is); (case l29 => k_is); (case c29 => k_is); (case k29 => k_is); (case a30 => k_is); (case l30 => k_is); (case c30 => k_is); (case k30 => k_is); (case a31 => k_is); (case l31 => k_is); (case c31 => k_is); (case k31 => k_is); (case u31 => k_is); (case a32 => k_is); (case l32 => k_is); (case c32 => k_is); (case k32 => k_is); (case a34 => k_is); (case l34 => k_is); (case c34 => k_is); (case k34 => k_is); (case a35 => k_is); (case l35 => k_is); (case c35 => k_is); (case k35 => k_is); (case a36 => k_is); (case l36 => k_is); (case c36 => k_is); (case k36 => k_is); (case a37 => k_is); (case l37 => k_is); (case c37 => k_is); (case k37 => k_is); (case a39 => k_is); (case l39 => k_is); (case c39 => k_is); (case k39 => k_is); (case a40 => k_is); (case l40 => k_is); (case c40 => k_is); (case k40 => k_is); (case a41 => k_is); (case l41 => k_is); (case c41 => k_is); (case k41 => k_is); (case a42 => k_is); (case l42 => k_is); (case c42 => k_is); (case k42 => k_is); (case a43 => k_is); (case l43 => k_is); (case c43 => k_is); (case k43 => k_is); (case a44 => k_is); (case l44 => k_is); (case c44 => k_is); (case k44 => k_is); (case a45 => k_is); (case l45 => k_is); (case c45 => k_is); (case k45 => k_is); (case a47 => k_is); (case l47 => k_is); (case c47 => k_is); (case k47 => k_is); (case a49 => k_is); (case l49 => k_is); (case c49 => k_is); (case k49 => k_is); (case a50 => k_is); (case l50 => k_is); (case c50 => k_is); (case k50 => k_is); (case a51 => k_is); (case l51 => k_is); (case c51 => k_is); (case k51 => k_is); (case a52 => k_is); (case l52 => k_is); (case c52 => k_is); (case k52 => k_is); (case a54 => k_is); (case l54 => k_is); (case c54 => k_is); (case k54 => k_is); (case a55 => k_is); (case l55 => k_is); (case c55 => k_is); (case k55 => k_is); (case a56 => k_is); (case l56 => k_is); (case c56 => k_is); (case k56 => k_is); (case a60 => k_is); (case l60 => k_is); (case c60 => k_is); (case k60 => k_is); (case a61 => k_is); (case l61 => k_is); (case c61 => k_is); (case k61 => k_is); (case a64 => k_is); (case l64 => k_is); (case c64 => k_is); (case k64 => k_is); (case a65 => k_is); (case l65 => k_is); (case c65 => k_is); (case k65 => k_is); (case a66 => k_is); (case l66 => k_is); (case c66 => k_is); (case k66 => k_is); (case a70 => k_is); (case l70 => k_is); (case c70 => k_is); (case k70 => k_is); (case a71 => k_is); (case l71 => k_is); (case c71 => k_is); (case k71 => k_is); (case a72 => k_is); (case l72 => k_is); (case c72 => k_is); (case k72 => k_is); (case a73 => k_is); (case l73 => k_is); (case c73 => k_is); (case k73 => k_is); (case a74 => k_is); (case l74 => k_is); (case c74 => k_is); (case k74 => k_is); (case a75 => k_is); (case l75 => k_is); (case c75 => k_is); (case k75 => k_is); (case a76 => k_is); (case l76 => k_is); (case c76 => k_is); (case k76 => k_is); (case a77 => k_is); (case l77 => k_is); (case c77 => k_is); (case k77 => k_is); (case a78 => k_is); (case l78 => k_is); (case c78 => k_is); (case k78 => k_is); (case a79 => k_is); (case l79 => k_is); (case c79 => k_is); (case k79 => k_is); (case a80 => k_is); (case l80 => k_is); (case c80 => k_is); (case k80 => k_is); (case a81 => k_is); (case l81 => k_is); (case c81 => k_is); (case k81 => k_is); (case a82 => k_is); (case l82 => k_is); (case c82 => k_is); (case k82 => k_is); (case a86 => k_is); (case l86 => k_is); (case c86 => k_is); (case k86 => k_is); (case a87 => k_is); (case l87 => k_is); (case c87 => k_is); (case k87 => k_is); (case a88 => k_is); (case l88 => k_is); (case c88 => k_is); (case k88 => k_is); (case a90 => k_is); (case l90 => k_is); (case c90 => k_is); (case k90 => k_is); (case a91 => k_is); (case l91 => k_is); (case c91 => k_is); (case k91 => k_is); (case a92 => k_is); (case l92 => k_is); (case c92 => k_is); (case k92 => k_is); (case a93 => k_is); (case l93 => k_is); (case c93 => k_is); (case k93 => k_is); (case a94 => k_is); (case l94 => k_is); (case c94 => k_is); (case k94 => k_is); (case a95 => k_is); (case l95 => k_is); (case c95 => k_is); (case k95 => k_is); (case a96 => k_is); (case l96 => k_is); (case c96 => k_is); (case k96 => k_is); (case a97 => k_is); (case l97 => k_is); (case c97 => k_is); (case k97 => k_is); (case a98 => k_is); (case l98 => k_is); (case c98 => k_is); (case k98 => k_is); (case a99 => k_is); (case l99 => k_is); (case c99 => k_is); (case k99 => k_is); (case a100 => k_is); (case l100 => k_is); (case c100 => k_is); (case k100 => k_is); (case a101 => k_is); (case l101 => k_is); (case c101 => k_is); (case k101 => k_is); (case a102 => k_is); (case l102 => k_is); (case c102 => k_is); (case k102 => k_is); (case a103 => k_is); (case l103 => k_is); (case c103 => k_is); (case k103 => k_is); (case a104 => k_is); (case l104 => k_is); (case c104 => k_is); (case k104 => k_is); (case aM_MOST_STATIONS => k_is); (case aM_FARTHEST_DAY => k_is); (case aM_MOST_DAYS => k_is); (case aM_MOST_DIGITS_texts => k_is); (case aM_MOST_DIGITS_console => k_is); (case aS_DONE => k_is); (case aD_ALONE => k_is); (case lD_ALONE => k_is); (case kD_ALONE => exact ⟨⟨_, _, rfl, rfl⟩, ⟨_, _, rfl, rfl⟩, ⟨_, _, rfl, rfl⟩, ⟨_, _, rfl, rfl⟩, ⟨_, _, rfl, rfl⟩, ⟨_, _, rfl, rfl⟩, trivial⟩); (case wD_ALONE => rfl); (case yD_ALONE_day => k_is); (case yD_ALONE_remove => k_is); (case yD_ALONE_undo => k_is); (case yD_ALONE_stock => k_is); (case yD_ALONE_wait => k_is); (case yD_ALONE_cycle => k_is); (case aD_WITH_NUMBER => k_is); (case lD_WITH_NUMBER => k_is); (case kD_WITH_NUMBER => exact ⟨⟨_, _, rfl, rfl⟩, ⟨_, _, rfl, rfl⟩, ⟨_, _, rfl, rfl⟩, ⟨_, _, rfl, rfl⟩, ⟨_, _, rfl, rfl⟩, ⟨_, _, rfl, rfl⟩, trivial⟩); (case wD_WITH_NUMBER => rfl); (case yD_WITH_NUMBER_sell => k_is); (case yD_WITH_NUMBER_days => k_is); (case yD_WITH_NUMBER_add => k_is); (case yD_WITH_NUMBER_word => k_is); (case yD_WITH_NUMBER_sold => k_is); (case yD_WITH_NUMBER_maker => k_is); (case xa_PlantError => k_is); (case xe_PlantError => kernel_rfl); (case xk_PlantError => k_is); (case xs_PlantError => k_is); (case xt_PlantError => k_is); (case xa_NoPlant => k_is); (case xe_NoPlant => kernel_rfl); (case xk_NoPlant => k_is); (case xs_NoPlant => k_is); (case xt_NoPlant => k_is); (case xa_NoStation => k_is); (case xe_NoStation => kernel_rfl); (case xk_NoStation => k_is); (case xs_NoStation => k_is); (case xt_NoStation => k_is); (case xa_NoStock => k_is); (case xe_NoStock => kernel_rfl); (case xk_NoStock => k_is); (case xs_NoStock => k_is); (case xt_NoStock => k_is); (case xa_NoDays => k_is); (case xe_NoDays => kernel_rfl); (case xk_NoDays => k_is); (case xs_NoDays => k_is); (case xt_NoDays => k_is); (case xa_NotOrdered => k_is); (case xe_NotOrdered => kernel_rfl); (case xk_NotOrdered => k_is); (case xs_NotOrdered => k_is); (case xt_NotOrdered => k_is); (case xa_Full => k_is); (case xe_Full => kernel_rfl); (case xk_Full => k_is); (case xs_Full => k_is); (case xt_Full => k_is); (case xa_Nothing => k_is); (case xe_Nothing => kernel_rfl); (case xk_Nothing => k_is); (case xs_Nothing => k_is); (case xt_Nothing => k_is); (case xa_NoText => k_is); (case xe_NoText => kernel_rfl); (case xk_NoText => k_is); (case xs_NoText => k_is); (case xt_NoText => k_is); (case xa_NoRow => k_is); (case xe_NoRow => kernel_rfl); (case xk_NoRow => k_is); (case xs_NoRow => k_is); (case xt_NoRow => k_is); (case er_all => kernel_rfl); (case er_each => kernel_rfl); (case er_nothing => kernel_rfl); (case aC_LivePlant => k_is); (case pg_LivePlant => k_is); (case hd_LivePlant => k_is); (case po_LivePlant => k_is); (case sa_LivePlant => k_is); (case mk_LivePlant => k_is); (case kc_LivePlant => k_is); (case ic1_LivePlant => k_is); (case ic2_LivePlant => k_is); (case ic3_LivePlant => k_is); (case ic4_LivePlant => k_is); (case ic5_LivePlant => kernel_rfl); (case ic6_LivePlant => kernel_rfl); (case na_customers => k_is); (case na_boxes => k_is); (case na_past => k_is); (case aC_Console => k_is); (case pg_Console => k_is); (case hd_Console => k_is); (case po_Console => k_is); (case sa_Console => k_is); (case mk_Console => k_is); (case kc_Console => k_is); (case ic1_Console => k_is); (case ic2_Console => k_is); (case ic3_Console => k_is); (case ic4_Console => k_is); (case ic5_Console => kernel_rfl); (case ic6_Console => kernel_rfl); (case na_live => k_is); (case a_lv_init => k_is); (case i_lv_init => k_is); (case l_lv_init => k_is); (case c_lv_init => k_is); (case kk_lv_init => k_is); (case kd_lv_init => k_is); (case a_lv_eq => k_is); (case i_lv_eq => k_is); (case l_lv_eq => k_is); (case c_lv_eq => k_is); (case kk_lv_eq => k_is); (case a_lv_len => k_is); (case i_lv_len => k_is); (case l_lv_len => k_is); (case c_lv_len => k_is); (case kk_lv_len => k_is); (case a_lv_day => k_is); (case i_lv_day => k_is); (case l_lv_day => k_is); (case c_lv_day => k_is); (case kk_lv_day => k_is); (case a_lv_days => k_is); (case i_lv_days => k_is); (case l_lv_days => k_is); (case c_lv_days => k_is); (case kk_lv_days => k_is); (case a_lv_sell => k_is); (case i_lv_sell => k_is); (case l_lv_sell => k_is); (case c_lv_sell => k_is); (case kk_lv_sell => k_is); (case a_lv_add => k_is); (case i_lv_add => k_is); (case l_lv_add => k_is); (case c_lv_add => k_is); (case kk_lv_add => k_is); (case a_lv_remove => k_is); (case i_lv_remove => k_is); (case l_lv_remove => k_is); (case c_lv_remove => k_is); (case kk_lv_remove => k_is); (case a_lv_undo => k_is); (case i_lv_undo => k_is); (case l_lv_undo => k_is); (case c_lv_undo => k_is); (case kk_lv_undo => k_is); (case a_lv_plant => k_is); (case i_lv_plant => k_is); (case l_lv_plant => k_is); (case c_lv_plant => k_is); (case kk_lv_plant => k_is); (case a_lv_stock => k_is); (case i_lv_stock => k_is); (case l_lv_stock => k_is); (case c_lv_stock => k_is); (case kk_lv_stock => k_is); (case a_lv_pull => k_is); (case i_lv_pull => k_is); (case l_lv_pull => k_is); (case c_lv_pull => k_is); (case kk_lv_pull => k_is); (case a_lv_change => k_is); (case i_lv_change => k_is); (case l_lv_change => k_is); (case c_lv_change => k_is); (case kk_lv_change => k_is); (case a_co_init => k_is); (case i_co_init => k_is); (case l_co_init => k_is); (case c_co_init => k_is); (case kk_co_init => k_is); (case a_co_say => k_is); (case i_co_say => k_is); (case l_co_say => k_is); (case c_co_say => k_is); (case kk_co_say => k_is); (case z_all => k_is); (case z_bool => k_is); (case z_divmod => k_is); (case z_enumerate => k_is); (case z_int => k_is); (case z_isinstance => k_is); (case z_len => k_is); (case z_list => k_is); (case z_max => k_is); (case z_min => k_is); (case z_range => k_is); (case z_set => k_is); (case z_sorted => k_is); (case z_str => k_is); (case z_tuple => k_is); (case z_zip => k_is); (case t32 => exact ht _ (List.mem_cons_of_mem _ List.mem_cons_self)); (case h32 => kernel_rfl); (case z32 => kernel_rfl); (case t40 => exact ht _ List.mem_cons_self); (case h40 => kernel_rfl); (case z40 => kernel_rfl); (case q32_40 => decide)


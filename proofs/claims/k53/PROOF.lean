import PyProof.Rows.All
import Wide.All
import OpenK.AllK
import Wide.FinOn
import HandS.ForMost
import HandS.IsInst
import HandS.TupAny
import HandS.TupMul
import HandS.Conv
import HandS.Style
import HandS.Flow
import HandS.Walk
import KE.GoesEnum
import KE.KRevSl
import HandS.RaiseMore
import HandS.SetFor
import HandS.Strs
import HandS.Nested
import HandS.ExcValue
import KE.SortKeyHeap
import KE.SortData
import HandS.EndTab
import KE.KNestM
import HandS.Defaults
import HandS.ForExc
import KE.DataMinMax
import KE.DatumOrd
import HandS.SortRule
import HandS.HotCalls
import HandS.ExcIs
import HandS.ExcCtx
import KE.KExcIs
import HandS.MakeKwOnly
import HandS.OwnEq
import HandS.NamedTupGet
import HandS.ExcOwn
import HandS.FStr
import HandS.Text
import HandS.StrMore
import KE.GoesRaise
import HandS.ReplaceLit
import PyProof.StrLawsReplace
import HandS.Zip
import PyProof.StrOps2
import HandS.Codes
import HandS.Deep
import HandS.Wide
import HandS.Evl
import KE.DataMinKey
import PySem.Challenge.RW_pulltree_k53_texts_of_no_plant
set_option Elab.async false
set_option linter.all false
set_option maxRecDepth 100000
set_option maxHeartbeats 4000000
/-! rules that the layer lacks: enumerate over a tuple, a list read and stored at one place, a tuple the other way round, repr of data -/
namespace PT
open PySem PySem.Spec PyProof.Rows L2

/-! ### enumerate(v) with one argument, v anything that begins -/
/-- the tuple at a, each item in a new pair with its place -/
def ItE (K : PySem.W.Frag) (a : Addr) : It :=
  ⟨fun i H => ∃ (xs : List V) (x : V), SqT K H a xs ∧ xs[i]? = some x,
   fun i H v H' => ∃ T x, v = .ref T ∧ H T = none ∧ H' = upd H T (.tup [.int (i : Nat), x]) ∧ ∀ xs, SqT K H a xs → xs[i]? = some x,
   fun i H => ∃ xs : List V, SqT K H a xs ∧ xs.length ≤ i⟩
def iE (K : PySem.W.Frag) (ta : TA) : TI := fun σ H R => ta σ H fun vs H1 => ∃ a xs, vs = [.ref a] ∧ SqT K H1 a xs ∧ R (ItE K a) H1
/-! ### a list's item read for o[i] op= v -/
end PT

set_option maxHeartbeats 4000000
/-! repr of data that the law shows: scalars, rows of ints, tuples of such items and of one odd thing -/
namespace PT
open PySem PySem.Spec PyProof.Rows L2

/-! ### t[::-1] of a tuple -/
section
variable {prog : Program} {w : World} {A : Around} {E : Value → Shared → Prop} {st : Shared}
end
section
variable {X : Cx}
def tRevT (K : PySem.W.Frag) (te : TE) : TE := fun σ H Q => te σ H fun x H1 => ∃ a xs, x = .ref a ∧ SqT K H1 a xs ∧ ∀ p, H1 p = none → Q (.ref p) (upd H1 p (.tup xs.reverse))
end
end PT

set_option maxHeartbeats 4000000
/-! repr of data that stands in the heap -/
namespace PT
open PySem PySem.Spec PyProof.Rows L2

/-! ### data in the heap -/
inductive Si (H : Hp) : V → PyData → Prop
  | non : Si H .non .none
  | bl (b : Bool) : Si H (.bl b) (.bool b)
  | int (i : Int) : Si H (.int i) (.int i)
  | str (x : Str) : Si H (.str x) (.str x)
  | dic {a : Addr} : H a = some (.dK []) → Si H (.ref a) (.dict [])
inductive Rp (K : PySem.W.Frag) (H : Hp) : V → PyData → Prop
  | dp {v : V} {d : PyData} : Dp K H v d → Rp K H v d
  | dic {a : Addr} : H a = some (.dK []) → Rp K H (.ref a) (.dict [])
  | tup {a : Addr} {xs : List V} {ds : List PyData} : SqT K H a xs → Paired (Si H) xs ds → Rp K H (.ref a) (.tuple ds)

theorem seqT {K : PySem.W.Frag} {H H' : Hp} {a : Addr} {xs : List V} (e : Same H H') (h : SqT K H a xs) : SqT K H' a xs := by
  rcases h with (h | ⟨o, h⟩) | h
  · exact .inl (.inl (e _ _ h))
  · exact .inl (.inr ⟨o, e _ _ h⟩)
  · exact .inr h
mutual
theorem dp_same {K : PySem.W.Frag} {H H' : Hp} (e : Same H H') : ∀ (d : PyData) (v : V), Dp K H v d → Dp K H' v d
  | .none, _, h => by cases h; exact .non
  | .bool b, _, h => by cases h; exact .bl b
  | .int i, _, h => by cases h; exact .int i
  | .str x, _, h => by cases h; exact .str x
  | .list ds, _, h => by
    cases h with
    | lst a b => exact .lst (e.seq a) (dps_same e ds _ b)
  | .tuple ds, _, h => by
    cases h with
    | tup a b => exact .tup (seqT e a) (dps_same e ds _ b)
  | .dict _, _, h => by cases h
theorem dps_same {K : PySem.W.Frag} {H H' : Hp} (e : Same H H') : ∀ (ds : List PyData) (vs : List V), DpAll K H vs ds → DpAll K H' vs ds
  | [], _, h => by cases h; exact .nil
  | d :: ds, _, h => by
    cases h with
    | cons a b => exact .cons (dp_same e d _ a) (dps_same e ds _ b)
end
mutual
theorem dp_nd {K : PySem.W.Frag} {H : Hp} : ∀ (d : PyData) (v : V), Dp K H v d → d.hasDict = false
  | .none, _, _ => rfl
  | .bool _, _, _ => rfl
  | .int _, _, _ => rfl
  | .str _, _, _ => rfl
  | .list ds, _, h => by
    cases h with
    | lst a b => simp only [PyData.hasDict]; exact dps_nd ds _ b
  | .tuple ds, _, h => by
    cases h with
    | tup a b => simp only [PyData.hasDict]; exact dps_nd ds _ b
  | .dict _, _, h => by cases h
theorem dps_nd {K : PySem.W.Frag} {H : Hp} : ∀ (ds : List PyData) (vs : List V), DpAll K H vs ds → PyData.hasDictAll ds = false
  | [], _, _ => rfl
  | d :: ds, _, h => by
    cases h with
    | cons a b => simp only [PyData.hasDictAll, dp_nd d _ a, dps_nd ds _ b, Bool.or_self]
end
theorem dp_ints {K : PySem.W.Frag} {H : Hp} : ∀ ns : List Int, DpAll K H (ns.map V.int) (ns.map PyData.int)
  | [] => .nil
  | n :: ns => .cons (.int n) (dp_ints ns)

section
variable {X : Cx} {pins : List (Addr × Obj)} {σ : List (Option V)} {H : Hp} {st : Shared}
theorem dic_reads {a : Addr} (I : Inv X pins σ H st) (q : H a = some (.dK [])) : Reads st.heap (.ref a) (.dict []) ([a] ++ []) ∧ sysModules ≠ a := by
  obtain ⟨_, hs, vs, rel, dd⟩ := dk_of I.hok q
  obtain ⟨o, es, ep, e1, e2, e3, e4⟩ := dd
  cases rel
  have hes : es.toList = [] := by
    have z := e4.2.1.length
    exact List.eq_nil_of_length_eq_zero z
  refine ⟨.dict e1 e2.1 e3 ?_ ?_, fun z => ?_⟩
  · rw [hes]; exact .nil
  · rw [hes]; exact .nil
  · rw [← z] at hs
    simp at hs
end

/-! ### what is short enough to be shown -/
structure Nice (W k : Nat) (d : PyData) : Prop where
  sh : d.showable = true
  dp : d.depth ≤ k
  lv : d.leavesShort 60 = true
  wt : d.weight ≤ W
theorem Nice.shown {W k : Nat} {d : PyData} (n : Nice W k d) (hW : W ≤ 270000 := by decide) : d.shown.length ≤ sizeLine := by
  have h1 := PyData.shown_le 60 (by decide) d n.lv
  have h2 := n.wt
  have h3 := sizeLine_eq
  have h4 : (60 + 2) * d.weight ≤ (60 + 2) * W := Nat.mul_le_mul_left _ h2
  have h5 : (60 + 2) * W ≤ (60 + 2) * 270000 := Nat.mul_le_mul_left _ hW
  omega
theorem Nice.mono {W W' k k' : Nat} {d : PyData} (n : Nice W k d) (hW : W ≤ W' := by decide) (hk : k ≤ k' := by decide) : Nice W' k' d := ⟨n.sh, Nat.le_trans n.dp hk, n.lv, Nat.le_trans n.wt hW⟩
theorem nice_int {i : Int} (h : i.natAbs < 10 ^ 50) : Nice 170 0 (.int i) := by
  have hl : i.natAbs.log2 < 169 := by
    by_cases z : i.natAbs = 0
    · rw [z]; decide
    · exact (Nat.log2_lt z).mpr (Nat.lt_trans h (by decide))
  refine ⟨by simp only [PyData.showable, decide_eq_true_eq]; omega, Nat.le_refl _, ?_, ?_⟩
  · simp only [PyData.leavesShort, decide_eq_true_eq]
    have z := int_text_length_le10 (k := 50) (by decide) h
    have z2 : (PyData.shown (.int i)).length = (toString i).length := by
      show (Str.ofString (toString i)).length = _
      exact PySem.ofString_length _
    omega
  · simp only [PyData.weight]
    split <;> omega
/-! ### repr(v) -/
section
variable {X : Cx}
end
end PT

set_option maxHeartbeats 4000000
/-! the law's own call, where it is known that nothing is being shown: its body may use repr of data -/
namespace PT
open PySem PySem.Spec PyProof.Rows L2

section
variable {CX : CXT} {P : Program} {w : World} {K : PySem.W.Frag} {mg : Str → Option Value} {base : Heap}
/-- a def's call at one Around, from the reading of its body there -/
theorem at_body {k : Nat} {f : Addr} {name qual : Str} {params : Arguments} {body : List Stmt} {scope : Scope} {dV kV doc pm cdv ct oc : Value} {an od : Option Addr} {osl : Array (Option Value)} {N ps : List Str} {A : Around} {outer : List Env} {st : Shared} {H : Hp} {args : Args} {us : List Value} {vs : List V} {Q : VK} {E : XK}
    (lk : K.lookup f = some ⟨oc, od, .func (PySem.W.fnOf name qual params body scope dV kV doc pm an cdv ct), osl⟩) (cd : PySem.W.codeIn K cdv qual = true) (S : FnScope N ps scope) (room : Room (k + 1) A) (e0 : Env0 P w K mg base A outer st H)
    (bd : BindsTo st (PySem.W.fnOf name qual params body scope dV kV doc pm an cdv ct) args (ps.zip us)) (rv : Vals vs us) (ln : vs.length = ps.length)
    (rd : ∃ t, PSs (cxOf CX P w K mg base N qual scope f cdv A outer st H E) body t ∧ t { nx := fun _ H' => Q .non H', rt := Q } (start N vs) H) :
    codeAny (model P w) A (.call (.ref f) args) (CR CX outer P w H st Q E) st := by
  have kin : K.In st.heap := e0.mod.kin.keeps fun b o z => (e0.bs b o z).1
  have nol : st.heap.NoLimit := e0.mod.nolimit.keeps fun b o z => (e0.bs b o z).1
  have kinds : ∀ y ∈ ps.zip us, scope.names.lookup y.1 = some .local ∨ (scope.names.lookup y.1 = some .cell ∧ ((cellsFrom (st.heap.objs.size + 1) scope.names []).lookup y.1).isSome = true) := by
    rintro ⟨n, v⟩ hy
    exact (S.par n (List.of_mem_zip hy).1).imp id fun z => ⟨z, PySem.W.cellsFrom_some _ _ _ (.inl z)⟩
  refine codeAny_call_function room.depth (kin _ _ lk) rfl S.co S.gen rfl (PySem.W.codeRec_of kin cd) (bd _ _ _ _ (wpAny_newFunctionEnv_cells S.kind kinds fun env ee s1 x => ?_))
  subst ee
  refine ⟨nol.keeps x.toInCall.keep, codeAny_func ?_⟩
  obtain ⟨t, ht, hq⟩ := rd
  have I : Inv (cxOf CX P w K mg base N qual scope f cdv A outer st H E) [] (start N vs) H s1 := inv_start S room.hd e0 ln rv x
  refine wpAny_mono (ht.run [] s1 (start N vs) H _ I hq) (fun fl s2 z => ?_) fun _ _ z => z
  cases fl with
  | ret u =>
    obtain ⟨v, σ2, H2, J, rr, q⟩ := z
    exact ⟨v, H2, J.os, J.bare, J.base, J.hok, rr, q⟩
  | next =>
    obtain ⟨σ2, H2, J, q⟩ := z
    exact ⟨V.non, H2, J.os, J.bare, J.base, J.hok, rfl, q⟩
  | brk =>
    obtain ⟨_, _, _, q⟩ := z
    cases q
  | cont =>
    obtain ⟨_, _, _, q⟩ := z
    cases q
end

end PT

/-! plants as lists of ints: customers, paths, suppliers, sizes -/
namespace PT

structure Plant (pl : List Int) : Prop where
  len : pl.length ≤ 39
  ok : ∀ (i : Nat) (x : Int), pl[i]? = some x → 0 ≤ x ∧ x ≤ i
/-- the customer of a station that is not 0 -/
def cu (pl : List Int) (k : Nat) : Nat := min (pl.getD (k - 1) 0).toNat (k - 1)
theorem cu_lt (pl : List Int) {k : Nat} (h : 0 < k) : cu pl k < k := by
  unfold cu
  omega
theorem Plant.at {pl : List Int} (p : Plant pl) {i : Nat} (hi : i < pl.length) : pl[i]? = some ((cu pl (i + 1) : Nat) : Int) := by
  have e : pl[i]? = some pl[i] := List.getElem?_eq_getElem hi
  obtain ⟨h0, h1⟩ := p.ok i _ e
  rw [e]
  unfold cu
  rw [Nat.add_sub_cancel, List.getD_eq_getElem?_getD, e, Option.getD_some]
  congr 1
  omega
/-- the way to station 0 -/
def path (pl : List Int) (k : Nat) : List Nat := if h : 0 < k then k :: path pl (cu pl k) else [k]
termination_by k
decreasing_by exact cu_lt pl h
theorem path_zero (pl : List Int) : path pl 0 = [0] := by
  rw [path]
  rfl
theorem path_pos (pl : List Int) {k : Nat} (h : 0 < k) : path pl k = k :: path pl (cu pl k) := by
  rw [path, dif_pos h]
theorem path_head (pl : List Int) (k : Nat) : (path pl k)[0]? = some k := by
  by_cases h : 0 < k
  · rw [path_pos pl h]; rfl
  · have : k = 0 := by omega
    subst this
    rw [path_zero]; rfl
theorem path_le (pl : List Int) : ∀ (k m : Nat), m ∈ path pl k → m ≤ k := by
  intro k
  induction k using Nat.strongRecOn with
  | ind k ih =>
    intro m hm
    by_cases h : 0 < k
    · rw [path_pos pl h] at hm
      rcases List.mem_cons.mp hm with e | e
      · omega
      · have := ih _ (cu_lt pl h) m e
        have := cu_lt pl h
        omega
    · have e : k = 0 := by omega
      subst e
      rw [path_zero] at hm
      simp at hm
      omega
/-- the first station of the way that is at most m -/
def anc (pl : List Int) (m k : Nat) : Nat := if h : m < k then anc pl m (cu pl k) else k
termination_by k
decreasing_by exact cu_lt pl (by omega)
/-- how many stations come to j when all above m are passed on -/
def cnt (pl : List Int) (m j : Nat) : Nat := (List.range (pl.length + 1)).countP fun k => decide (anc pl m k = j)
theorem countP_or {α : Type} {p q r : α → Bool} (h : ∀ x, r x = (p x || q x)) (d : ∀ x, p x = true → q x = false) : ∀ l : List α, l.countP r = l.countP p + l.countP q
  | [] => rfl
  | x :: l => by
    rw [List.countP_cons, List.countP_cons, List.countP_cons, countP_or h d l, h x]
    cases ep : p x with
    | true =>
      rw [d x ep]
      simp
      omega
    | false =>
      cases q x <;> simp <;> omega
theorem countP_none {α : Type} {p : α → Bool} (h : ∀ x, p x = false) : ∀ l : List α, l.countP p = 0
  | [] => rfl
  | x :: l => by rw [List.countP_cons, countP_none h l, h x]; rfl
theorem countP_one (j : Nat) : ∀ n, (List.range n).countP (fun k => decide (k = j)) = if j < n then 1 else 0
  | 0 => rfl
  | n + 1 => by
    rw [List.range_succ, List.countP_append, countP_one j n]
    simp only [List.countP_cons, List.countP_nil]
    by_cases e : n = j
    · subst e
      simp
    · by_cases h : j < n
      · have h2 : j < n + 1 := by omega
        simp [e, h, h2]
      · have h2 : ¬ j < n + 1 := by omega
        simp [e, h, h2]
/-- the size of a station -/
def sz (pl : List Int) (j : Nat) : Nat := (List.range (pl.length + 1)).countP fun k => decide (j ∈ path pl k)
/-- the list of sizes when the stations above m are passed on -/
def szs (pl : List Int) (m : Nat) : List Int := (List.range (pl.length + 1)).map fun j => if j ≤ m then ((cnt pl m j : Nat) : Int) else ((sz pl j : Nat) : Int)
/-- the suppliers of j among the first i stations that have a customer -/
def sup (pl : List Int) (i j : Nat) : List Int := ((List.range i).filter fun k => decide (pl.getD k 0 = (j : Int))).map fun k => ((k : Nat) : Int) + 1
/-- the makers -/
def mks (pl : List Int) (i : Nat) : List Int := ((List.range i).filter fun (j : Nat) => decide ((j : Int) ∉ pl)).map fun (j : Nat) => (j : Int)
end PT

/-! a day of a plant, as a function on lists -/
namespace PT

theorem sup_gt {pl : List Int} (hP : Plant pl) {j : Nat} {n : Int} (h : n ∈ sup pl pl.length j) : ∃ k : Nat, n = (k : Int) ∧ j < k ∧ k ≤ pl.length := by
  unfold sup at h
  obtain ⟨k, hk, rfl⟩ := List.mem_map.mp h
  obtain ⟨h1, h2⟩ := List.mem_filter.mp hk
  have hk' := List.mem_range.mp h1
  have e : pl[k]? = some pl[k] := List.getElem?_eq_getElem hk'
  obtain ⟨a, b⟩ := hP.ok k _ e
  have c := of_decide_eq_true h2
  rw [List.getD_eq_getElem?_getD, e, Option.getD_some] at c
  exact ⟨k + 1, by omega, by omega, by omega⟩
/-- the number of the box at a station -/
def bx (ss : List Int) (k : Int) : Int := ss.getD k.toNat 0
/-- the first of the stations with the oldest box -/
def pickB (ss : List Int) (b : Int) (l : List Int) : Int := l.foldl (fun b o => if bx ss o < bx ss b then o else b) b
theorem pickB_mem (ss : List Int) : ∀ (l : List Int) (b : Int), pickB ss b l ∈ b :: l
  | [], b => List.mem_cons_self
  | o :: l, b => by
    have ih := pickB_mem ss l (if bx ss o < bx ss b then o else b)
    show pickB ss (if bx ss o < bx ss b then o else b) l ∈ b :: o :: l
    rcases List.mem_cons.mp ih with e | e
    · rw [e]
      by_cases c : bx ss o < bx ss b
      · rw [if_pos c]; simp
      · rw [if_neg c]; simp
    · exact List.mem_cons_of_mem _ (List.mem_cons_of_mem _ e)
theorem pickB_le (ss : List Int) : ∀ (l : List Int) (b : Int), ∀ x ∈ b :: l, bx ss (pickB ss b l) ≤ bx ss x
  | [], b, x, h => by
    rw [List.mem_singleton.mp h]
    exact Int.le_refl _
  | o :: l, b, x, h => by
    have ih := pickB_le ss l (if bx ss o < bx ss b then o else b)
    show bx ss (pickB ss (if bx ss o < bx ss b then o else b) l) ≤ bx ss x
    have h0 := ih _ List.mem_cons_self
    rcases List.mem_cons.mp h with e | e
    · subst e
      by_cases c : bx ss o < bx ss x
      · rw [if_pos c] at h0 ⊢
        omega
      · rw [if_neg c] at h0 ⊢
        exact h0
    · rcases List.mem_cons.mp e with e | e
      · subst e
        by_cases c : bx ss x < bx ss b
        · rw [if_pos c] at h0 ⊢
          exact h0
        · rw [if_neg c] at h0 ⊢
          omega
      · exact ih x (List.mem_cons_of_mem _ e)
/-- the supplier that gives to j; 0 for a maker -/
def bst (pl ss : List Int) (j : Nat) : Nat := match sup pl pl.length j with
  | [] => 0
  | h :: r => (pickB ss h (h :: r)).toNat
theorem bst_nil {pl ss : List Int} {j : Nat} (h : sup pl pl.length j = []) : bst pl ss j = 0 := by
  unfold bst
  rw [h]
theorem bst_cons {pl ss : List Int} {j : Nat} {h : Int} {r : List Int} (hP : Plant pl) (e : sup pl pl.length j = h :: r) : pickB ss h (h :: r) = ((bst pl ss j : Nat) : Int) ∧ pickB ss h (h :: r) ∈ sup pl pl.length j ∧ j < bst pl ss j ∧ bst pl ss j ≤ pl.length := by
  have hm : pickB ss h (h :: r) ∈ sup pl pl.length j := by
    rw [e]
    rcases List.mem_cons.mp (pickB_mem ss (h :: r) h) with z | z
    · rw [z]
      exact List.mem_cons_self
    · exact z
  obtain ⟨k, ek, h1, h2⟩ := sup_gt hP hm
  have eb : bst pl ss j = k := by
    unfold bst
    rw [e]
    show (pickB ss h (h :: r)).toNat = k
    omega
  rw [eb]
  exact ⟨ek, hm, h1, h2⟩
/-- the greatest number -/
def mxv : List Int → Int
  | [] => 0
  | x :: r => r.foldl max x
theorem fold_max : ∀ (r : List Int) (x : Int), r.foldl max x ∈ x :: r ∧ ∀ y ∈ x :: r, y ≤ r.foldl max x
  | [], x => ⟨List.mem_cons_self, fun y h => by rw [List.mem_singleton.mp h]; exact Int.le_refl _⟩
  | z :: r, x => by
    obtain ⟨h1, h2⟩ := fold_max r (max x z)
    rw [List.foldl_cons]
    refine ⟨?_, fun y h => ?_⟩
    · rcases List.mem_cons.mp h1 with e | e
      · rw [e]
        by_cases c : x ≤ z
        · rw [Int.max_eq_right c]; simp
        · rw [Int.max_eq_left (by omega)]; simp
      · exact List.mem_cons_of_mem _ (List.mem_cons_of_mem _ e)
    · have h0 := h2 _ List.mem_cons_self
      rcases List.mem_cons.mp h with e | e
      · subst e
        omega
      · rcases List.mem_cons.mp e with e | e
        · subst e
          omega
        · exact h2 y (List.mem_cons_of_mem _ e)
theorem mxv_mem {l : List Int} (h : l ≠ []) : mxv l ∈ l ∧ ∀ y ∈ l, y ≤ mxv l := by
  cases l with
  | nil => exact absurd rfl h
  | cons x r => exact fold_max r x
theorem mxv_of {l : List Int} {m : Int} (h : m ∈ l) (u : ∀ y ∈ l, y ≤ m) : m = mxv l := by
  have hn : l ≠ [] := fun e => by
    rw [e] at h
    cases h
  obtain ⟨a, b⟩ := mxv_mem hn
  have := u _ a
  have := b _ h
  omega
/-- the day from a row, where the chain has come to c -/
def go (pl ss row : List Int) (pre : List Nat) (c : Nat) : List Nat × List Int :=
  if h : c < bst pl ss c ∧ bst pl ss c ≤ pl.length then go pl ss (row.set c (bx ss (bst pl ss c))) (pre ++ [c]) (bst pl ss c) else (pre ++ [c], row.set c (mxv ss + 1))
termination_by pl.length - c
decreasing_by omega
theorem go_on {pl ss row : List Int} {pre : List Nat} {c : Nat} (h : c < bst pl ss c ∧ bst pl ss c ≤ pl.length) : go pl ss row pre c = go pl ss (row.set c (bx ss (bst pl ss c))) (pre ++ [c]) (bst pl ss c) := by
  rw [go, dif_pos h]
theorem go_end {pl ss row : List Int} {pre : List Nat} {c : Nat} (h : ¬ (c < bst pl ss c ∧ bst pl ss c ≤ pl.length)) : go pl ss row pre c = (pre ++ [c], row.set c (mxv ss + 1)) := by
  rw [go, dif_neg h]
/-- a day that begins at j: the chain, the row behind it -/
def day (pl ss : List Int) (j : Nat) : List Nat × List Int := go pl ss ss [] j
theorem perm_set {α : Type} : ∀ {l : List α} {i : Nat} {a : α} (x : α), l[i]? = some a → (a :: l.set i x).Perm (x :: l)
  | [], _, _, _, h => by simp at h
  | y :: r, 0, a, x, h => by
    have e : y = a := Option.some.inj h
    subst e
    exact List.Perm.swap x y r
  | y :: r, i + 1, a, x, h => by
    have ih := perm_set (l := r) (i := i) (a := a) x (by simpa using h)
    show (a :: y :: r.set i x).Perm (x :: y :: r)
    exact ((List.Perm.swap y a (r.set i x)).trans (ih.cons y)).trans (List.Perm.swap x y r)
/-- what a row has to do with the stock while the chain stands at c -/
structure Row (pl ss row : List Int) (s0 : Int) (c : Nat) : Prop where
  len : row.length = ss.length
  top : ∀ k, c ≤ k → row[k]? = ss[k]?
  pm : (s0 :: row).Perm (bx ss c :: ss)
theorem bx_at {ss : List Int} {k : Nat} (h : k < ss.length) : ss[k]? = some (bx ss k) := by
  unfold bx
  rw [Int.toNat_natCast, List.getD_eq_getElem?_getD, List.getElem?_eq_getElem h, Option.getD_some]
theorem Row.start {pl ss : List Int} {c : Nat} (h : c < ss.length) : Row pl ss ss (bx ss c) c := ⟨rfl, fun _ _ => rfl, .refl _⟩
theorem Row.next {pl ss row : List Int} {s0 : Int} {c d : Nat} (h : Row pl ss row s0 c) (hc : c < ss.length) (hd : c < d) : Row pl ss (row.set c (bx ss d)) s0 d := by
  have ec : row[c]? = some (bx ss c) := by
    rw [h.top c (Nat.le_refl _)]
    exact bx_at hc
  refine ⟨by rw [List.length_set]; exact h.len, fun k hk => ?_, ?_⟩
  · rw [List.getElem?_set_ne (by omega)]
    exact h.top k (by omega)
  · have p1 := perm_set (bx ss d) ec
    have p2 : (bx ss c :: s0 :: row.set c (bx ss d)).Perm (bx ss c :: bx ss d :: ss) :=
      (List.Perm.swap s0 (bx ss c) _).trans ((p1.cons s0).trans ((List.Perm.swap (bx ss d) s0 row).trans ((h.pm.cons (bx ss d)).trans (List.Perm.swap (bx ss c) (bx ss d) ss))))
    exact p2.cons_inv
theorem go_ok {pl ss : List Int} (hs : ss.length = pl.length + 1) : ∀ (n : Nat) (row : List Int) (pre : List Nat) (c : Nat) (s0 : Int), pl.length - c = n → c ≤ pl.length → Row pl ss row s0 c →
    (go pl ss row pre c).2.length = ss.length ∧ (s0 :: (go pl ss row pre c).2).Perm ((mxv ss + 1) :: ss) ∧ (∀ x ∈ (go pl ss row pre c).1, x ∈ pre ∨ x ≤ pl.length) ∧ (go pl ss row pre c).1.length ≤ pre.length + (pl.length + 1 - c) ∧ ∃ r, (go pl ss row pre c).1 = pre ++ c :: r := by
  intro n
  induction n using Nat.strongRecOn with
  | ind n ih =>
    intro row pre c s0 hn hc hR
    have hc' : c < ss.length := by omega
    by_cases h : c < bst pl ss c ∧ bst pl ss c ≤ pl.length
    · rw [go_on h]
      obtain ⟨a1, a2, a3, a4, r, a5⟩ := ih (pl.length - bst pl ss c) (by omega) (row.set c (bx ss (bst pl ss c))) (pre ++ [c]) (bst pl ss c) s0 rfl h.2 (hR.next hc' h.1)
      refine ⟨a1, a2, fun x hx => ?_, ?_, bst pl ss c :: r, by rw [a5, List.append_assoc]; rfl⟩
      · rcases a3 x hx with z | z
        · rcases List.mem_append.mp z with z | z
          · exact .inl z
          · exact .inr (by rw [List.mem_singleton.mp z]; exact hc)
        · exact .inr z
      · rw [List.length_append] at a4
        have z : ([c] : List Nat).length = 1 := rfl
        omega
    · rw [go_end h]
      have ec : row[c]? = some (bx ss c) := by
        rw [hR.top c (Nat.le_refl _)]
        exact bx_at hc'
      refine ⟨by rw [List.length_set]; exact hR.len, ?_, fun x hx => ?_, ?_, [], rfl⟩
      · have p1 := perm_set (mxv ss + 1) ec
        have p2 : (bx ss c :: s0 :: row.set c (mxv ss + 1)).Perm (bx ss c :: (mxv ss + 1) :: ss) :=
          (List.Perm.swap s0 (bx ss c) _).trans ((p1.cons s0).trans ((List.Perm.swap (mxv ss + 1) s0 row).trans ((hR.pm.cons (mxv ss + 1)).trans (List.Perm.swap (bx ss c) (mxv ss + 1) ss))))
        exact p2.cons_inv
      · rcases List.mem_append.mp hx with z | z
        · exact .inl z
        · exact .inr (by rw [List.mem_singleton.mp z]; exact hc)
      · rw [List.length_append]
        have z : ([c] : List Nat).length = 1 := rfl
        omega
/-- a day keeps a stock a stock -/
theorem day_ok {pl ss : List Int} (hs : ss.length = pl.length + 1) (hn : ss.Nodup) {j : Nat} (hj : j ≤ pl.length) :
    (day pl ss j).2.length = pl.length + 1 ∧ (day pl ss j).2.Nodup ∧ (∀ x ∈ (day pl ss j).2, x ∈ ss ∨ x = mxv ss + 1) ∧ (∀ x ∈ (day pl ss j).1, x ≤ pl.length) ∧ (day pl ss j).1.length ≤ pl.length + 1 := by
  obtain ⟨a1, a2, a3, a4, _⟩ := go_ok hs _ ss [] j (bx ss j) rfl hj (Row.start (by omega))
  have hne : ss ≠ [] := fun e => by
    rw [e] at hs
    simp at hs
  obtain ⟨m1, m2⟩ := mxv_mem hne
  have nd : ((mxv ss + 1) :: ss).Nodup := List.nodup_cons.mpr ⟨fun h => by have := m2 _ h; omega, hn⟩
  have nd2 := a2.nodup_iff.mpr nd
  refine ⟨by unfold day; rw [a1]; exact hs, (List.nodup_cons.mp nd2).2, fun x hx => ?_, fun x hx => ?_, ?_⟩
  · have z := a2.mem_iff.mp (List.mem_cons_of_mem _ hx)
    rcases List.mem_cons.mp z with e | e
    · exact .inr e
    · exact .inl e
  · rcases a3 x hx with z | z
    · cases z
    · exact z
  · unfold day
    have z : ([] : List Nat).length = 0 := rfl
    omega
end PT

/-! stocks that are ordered: a day keeps them, and each stock becomes one -/
namespace PT

theorem sup_cu {pl : List Int} (hP : Plant pl) {j k : Nat} : ((k : Nat) : Int) ∈ sup pl pl.length j ↔ 0 < k ∧ k ≤ pl.length ∧ cu pl k = j := by
  unfold sup
  rw [List.mem_map]
  constructor
  · rintro ⟨i, hi, e⟩
    obtain ⟨h1, h2⟩ := List.mem_filter.mp hi
    have hi' := List.mem_range.mp h1
    have ek : k = i + 1 := by omega
    subst ek
    have e2 := hP.at hi'
    have c := of_decide_eq_true h2
    rw [List.getD_eq_getElem?_getD, e2, Option.getD_some] at c
    exact ⟨by omega, by omega, by omega⟩
  · rintro ⟨h1, h2, h3⟩
    refine ⟨k - 1, List.mem_filter.mpr ⟨List.mem_range.mpr (by omega), decide_eq_true ?_⟩, by omega⟩
    have e2 := hP.at (i := k - 1) (by omega)
    rw [show k - 1 + 1 = k by omega] at e2
    rw [List.getD_eq_getElem?_getD, e2, Option.getD_some, h3]
/-- does a station give to j? -/
def gives (pl ss : List Int) (j : Nat) : Prop := j < bst pl ss j ∧ bst pl ss j ≤ pl.length
instance (pl ss : List Int) (j : Nat) : Decidable (gives pl ss j) := inferInstanceAs (Decidable (_ ∧ _))
theorem gives_of {pl ss : List Int} (hP : Plant pl) {k : Nat} (h0 : 0 < k) (h1 : k ≤ pl.length) : gives pl ss (cu pl k) ∧ bx ss (bst pl ss (cu pl k)) ≤ bx ss k := by
  have hm := (sup_cu hP).mpr ⟨h0, h1, rfl⟩
  cases e : sup pl pl.length (cu pl k) with
  | nil => rw [e] at hm; cases hm
  | cons h r =>
    obtain ⟨b1, b2, b3, b4⟩ := bst_cons (ss := ss) hP e
    rw [e] at hm
    have z := pickB_le ss (h :: r) h k (List.mem_cons_of_mem _ hm)
    rw [b1] at z
    exact ⟨⟨b3, b4⟩, z⟩
theorem gives_cu {pl ss : List Int} (hP : Plant pl) {j : Nat} (h : gives pl ss j) : cu pl (bst pl ss j) = j := by
  cases e : sup pl pl.length j with
  | nil =>
    have z := bst_nil (ss := ss) e
    unfold gives at h
    omega
  | cons a r =>
    obtain ⟨b1, b2, b3, b4⟩ := bst_cons (ss := ss) hP e
    rw [b1] at b2
    exact ((sup_cu hP).mp b2).2.2
/-- the chain from c on -/
def chn (pl ss : List Int) (c : Nat) : List Nat := if h : c < bst pl ss c ∧ bst pl ss c ≤ pl.length then c :: chn pl ss (bst pl ss c) else [c]
termination_by pl.length - c
decreasing_by omega
theorem chn_on {pl ss : List Int} {c : Nat} (h : gives pl ss c) : chn pl ss c = c :: chn pl ss (bst pl ss c) := by
  rw [chn, dif_pos (show c < bst pl ss c ∧ bst pl ss c ≤ pl.length from h)]
theorem chn_end {pl ss : List Int} {c : Nat} (h : ¬ gives pl ss c) : chn pl ss c = [c] := by
  rw [chn, dif_neg (show ¬ (c < bst pl ss c ∧ bst pl ss c ≤ pl.length) from h)]
theorem chn_self {pl ss : List Int} (c : Nat) : c ∈ chn pl ss c := by
  by_cases h : gives pl ss c
  · rw [chn_on h]; exact List.mem_cons_self
  · rw [chn_end h]; exact List.mem_cons_self
theorem chn_le {pl ss : List Int} : ∀ (n c : Nat), pl.length - c = n → c ≤ pl.length → ∀ k ∈ chn pl ss c, c ≤ k ∧ k ≤ pl.length := by
  intro n
  induction n using Nat.strongRecOn with
  | ind n ih =>
    intro c hn hc k hk
    by_cases h : gives pl ss c
    · rw [chn_on h] at hk
      unfold gives at h
      rcases List.mem_cons.mp hk with z | z
      · omega
      · have := ih (pl.length - bst pl ss c) (by omega) (bst pl ss c) rfl h.2 k z
        omega
    · rw [chn_end h] at hk
      have := List.mem_singleton.mp hk
      omega
theorem chn_up {pl ss : List Int} : ∀ (n c : Nat), pl.length - c = n → ∀ k ∈ chn pl ss c, k = c ∨ ∃ p ∈ chn pl ss c, gives pl ss p ∧ bst pl ss p = k := by
  intro n
  induction n using Nat.strongRecOn with
  | ind n ih =>
    intro c hn k hk
    by_cases h : gives pl ss c
    · rw [chn_on h] at hk ⊢
      rcases List.mem_cons.mp hk with z | z
      · exact .inl z
      · have h' := h
        unfold gives at h'
        rcases ih (pl.length - bst pl ss c) (by omega) (bst pl ss c) rfl k z with y | ⟨p, y, w⟩
        · exact .inr ⟨c, List.mem_cons_self, h, y.symm⟩
        · exact .inr ⟨p, List.mem_cons_of_mem _ y, w⟩
    · rw [chn_end h] at hk
      exact .inl (List.mem_singleton.mp hk)
/-- what comes to a station of the chain -/
def nxt (pl ss : List Int) (j : Nat) : Int := if gives pl ss j then bx ss (bst pl ss j) else mxv ss + 1
theorem go_at {pl ss : List Int} : ∀ (n : Nat) (row : List Int) (pre : List Nat) (c : Nat), pl.length - c = n → c ≤ pl.length → row.length = pl.length + 1 → ∀ j, j ≤ pl.length → (go pl ss row pre c).2[j]? = if j ∈ chn pl ss c then some (nxt pl ss j) else row[j]? := by
  intro n
  induction n using Nat.strongRecOn with
  | ind n ih =>
    intro row pre c hn hc hr j hj
    by_cases h : gives pl ss c
    · have h' := h
      unfold gives at h'
      rw [go_on h', ih (pl.length - bst pl ss c) (by omega) _ _ _ rfl h'.2 (by rw [List.length_set]; exact hr) j hj, chn_on h]
      by_cases hm : j ∈ chn pl ss (bst pl ss c)
      · rw [if_pos hm, if_pos (List.mem_cons_of_mem _ hm)]
      · rw [if_neg hm]
        by_cases e : j = c
        · subst e
          rw [if_pos List.mem_cons_self, List.getElem?_set_self (by omega)]
          unfold nxt
          rw [if_pos h]
        · rw [if_neg (fun z => (List.mem_cons.mp z).elim e hm), List.getElem?_set_ne (fun z => e z.symm)]
    · rw [go_end h, chn_end h]
      by_cases e : j = c
      · subst e
        rw [if_pos List.mem_cons_self, List.getElem?_set_self (by omega)]
        unfold nxt
        rw [if_neg h]
      · rw [if_neg (fun z => e (List.mem_singleton.mp z)), List.getElem?_set_ne (fun z => e z.symm)]
theorem bx_some {ss : List Int} {k : Nat} {v : Int} (h : ss[k]? = some v) : bx ss k = v := by
  unfold bx
  rw [Int.toNat_natCast, List.getD_eq_getElem?_getD, h, Option.getD_some]
theorem day_at {pl ss : List Int} (hs : ss.length = pl.length + 1) {j : Nat} (hj : j ≤ pl.length) : bx (day pl ss 0).2 j = if j ∈ chn pl ss 0 then nxt pl ss j else bx ss j := by
  have z := go_at (pl := pl) (ss := ss) _ ss [] 0 rfl (Nat.zero_le _) hs j hj
  by_cases h : j ∈ chn pl ss 0
  · rw [if_pos h] at z ⊢
    exact bx_some z
  · rw [if_neg h] at z ⊢
    rw [bx_at (ss := ss) (k := j) (by omega)] at z
    exact bx_some z
theorem bx_inj {ss : List Int} (hn : ss.Nodup) {i j : Nat} (hi : i < ss.length) (hj : j < ss.length) (h : bx ss i = bx ss j) : i = j := by
  have ei := bx_at hi
  have ej := bx_at hj
  rw [← h] at ej
  exact (List.getElem?_inj hi hn).mp (ei.trans ej.symm)
theorem bx_mem {ss : List Int} {k : Nat} (h : k < ss.length) : bx ss k ∈ ss := List.mem_of_getElem? (bx_at h)
theorem mxv_lt {ss : List Int} {k : Nat} (h : k < ss.length) : bx ss k < mxv ss + 1 := by
  have hne : ss ≠ [] := fun e => by
    rw [e] at h
    cases h
  have := (mxv_mem hne).2 _ (bx_mem h)
  omega
/-- boxes of a kind are older than those that wait below -/
def Waits (N : Int → Prop) (pl ss : List Int) : Prop := ∀ k : Nat, 0 < k → k ≤ pl.length → N (bx ss (cu pl k)) → bx ss (cu pl k) < bx ss k
/-- each station's box is older than those of its suppliers -/
def Ord (pl ss : List Int) : Prop := ∀ k : Nat, 0 < k → k ≤ pl.length → bx ss (cu pl k) < bx ss k
/-! ### within n - 1 days -/
/-- the stock after n days -/
def dyn (pl ss : List Int) : Nat → List Int
  | 0 => ss
  | n + 1 => (day pl (dyn pl ss n) 0).2
theorem dyn_len {pl ss : List Int} (hs : ss.length = pl.length + 1) (hn : ss.Nodup) : ∀ n, (dyn pl ss n).length = pl.length + 1 ∧ (dyn pl ss n).Nodup
  | 0 => ⟨hs, hn⟩
  | n + 1 => by
    obtain ⟨a, b⟩ := dyn_len hs hn n
    obtain ⟨a2, b2, _⟩ := day_ok a b (Nat.zero_le _) (j := 0)
    exact ⟨a2, b2⟩
theorem bx0 (ss : List Int) : bx ss ((0 : Nat) : Int) = bx ss 0 := rfl
theorem day_perm {pl ss : List Int} (hs : ss.length = pl.length + 1) : (bx ss 0 :: (day pl ss 0).2).Perm ((mxv ss + 1) :: ss) :=
  (go_ok hs _ ss [] 0 (bx ss ((0 : Nat) : Int)) rfl (Nat.zero_le _) (Row.start (pl := pl) (ss := ss) (c := 0) (by omega))).2.1
theorem day_mxv {pl ss : List Int} (hs : ss.length = pl.length + 1) : mxv (day pl ss 0).2 = mxv ss + 1 := by
  have hne : ss ≠ [] := fun e => by
    rw [e] at hs
    simp at hs
  obtain ⟨m1, m2⟩ := mxv_mem hne
  have p := day_perm hs
  have h0 := m2 _ (bx_mem (ss := ss) (k := 0) (by omega))
  rw [bx0] at h0
  refine (mxv_of ?_ fun y hy => ?_).symm
  · have z := p.mem_iff.mpr List.mem_cons_self
    rcases List.mem_cons.mp z with e | e
    · exact absurd e (by omega)
    · exact e
  · have z := p.mem_iff.mp (List.mem_cons_of_mem _ hy)
    rcases List.mem_cons.mp z with e | e
    · omega
    · have := m2 _ e
      omega
def olds (t : Int) (ss : List Int) : Nat := ss.countP fun x => decide (x ≤ t)
/-- the boxes sold on the first days -/
def sold (pl ss : List Int) (n : Nat) : List Int := (List.range n).map fun i => bx (dyn pl ss i) 0
theorem sold_step (pl ss : List Int) (n : Nat) : sold pl ss (n + 1) = sold pl ss n ++ [bx (dyn pl ss n) 0] := by
  unfold sold
  rw [List.range_succ, List.map_append]
  rfl
end PT

set_option maxHeartbeats 4000000
/-! kinds of values, plants in the heap: of no law's own text -/
namespace PT
open PySem PySem.Spec PyProof.Rows L2

/-! ### kinds of values -/
inductive Kd (H : Hp) : V → String → Prop
  | non : Kd H .non "NoneType"
  | bl (b : Bool) : Kd H (.bl b) "bool"
  | int (i : Int) : Kd H (.int i) "int"
  | str (x : Str) : Kd H (.str x) "str"
  | lst {a : Addr} {xs : List V} : H a = some (.lst xs) → Kd H (.ref a) "list"
  | tup {a : Addr} {xs : List V} : H a = some (.tup xs) → Kd H (.ref a) "tuple"
  | dic {a : Addr} {kvs : List (Key × V)} : H a = some (.dK kvs) → Kd H (.ref a) "dict"
theorem Kd.same {H H' : Hp} (e : Same H H') {v : V} {n : String} (h : Kd H v n) : Kd H' v n := by
  cases h with
  | non => exact .non
  | bl b => exact .bl b
  | int i => exact .int i
  | str x => exact .str x
  | lst q => exact .lst (e _ _ q)
  | tup q => exact .tup (e _ _ q)
  | dic q => exact .dic (e _ _ q)
theorem Kd.tyx {K : PySem.W.Frag} {H : Hp} {v : V} {n : String} (h : Kd H v n) : TyX K H v (.type n) := by
  cases h with
  | non => exact .base .non
  | bl b => exact .base (.bl b)
  | int i => exact .base (.int i)
  | str x => exact .base (.str x)
  | lst q => exact .base (.lst q)
  | tup q => exact .base (.tup q)
  | dic q => exact .base (.dK q)
def isI : V → Bool
  | .int _ => true
  | _ => false
def isB : V → Bool
  | .bl _ => true
  | _ => false
theorem kd_int {K : PySem.W.Frag} {H : Hp} {v : V} {n : String} (h : Kd H v n) : PySem.W.kitOne K (.type n) (.type "int") = some (isI v || isB v) := by
  cases h with
  | bl b => exact kit_ty (show kitB "bool" "int" = some true by decide +kernel)
  | int i => exact kit_ty (show kitB "int" "int" = some true by decide +kernel)
  | non => exact kit_ty (show kitB "NoneType" "int" = some false by decide +kernel)
  | str x => exact kit_ty (show kitB "str" "int" = some false by decide +kernel)
  | lst _ => exact kit_ty (show kitB "list" "int" = some false by decide +kernel)
  | tup _ => exact kit_ty (show kitB "tuple" "int" = some false by decide +kernel)
  | dic _ => exact kit_ty (show kitB "dict" "int" = some false by decide +kernel)
theorem kd_bool {K : PySem.W.Frag} {H : Hp} {v : V} {n : String} (h : Kd H v n) : PySem.W.kitOne K (.type n) (.type "bool") = some (isB v) := by
  cases h with
  | bl b => exact kit_ty (show kitB "bool" "bool" = some true by decide +kernel)
  | int i => exact kit_ty (show kitB "int" "bool" = some false by decide +kernel)
  | non => exact kit_ty (show kitB "NoneType" "bool" = some false by decide +kernel)
  | str x => exact kit_ty (show kitB "str" "bool" = some false by decide +kernel)
  | lst _ => exact kit_ty (show kitB "list" "bool" = some false by decide +kernel)
  | tup _ => exact kit_ty (show kitB "tuple" "bool" = some false by decide +kernel)
  | dic _ => exact kit_ty (show kitB "dict" "bool" = some false by decide +kernel)
theorem kd_tuple {K : PySem.W.Frag} {H : Hp} {v : V} {n : String} (h : Kd H v n) : PySem.W.kitOne K (.type n) (.type "tuple") = some (n == "tuple") := by
  cases h with
  | bl b => exact kit_ty (show kitB "bool" "tuple" = some false by decide +kernel)
  | int i => exact kit_ty (show kitB "int" "tuple" = some false by decide +kernel)
  | non => exact kit_ty (show kitB "NoneType" "tuple" = some false by decide +kernel)
  | str x => exact kit_ty (show kitB "str" "tuple" = some false by decide +kernel)
  | lst _ => exact kit_ty (show kitB "list" "tuple" = some false by decide +kernel)
  | tup _ => exact kit_ty (show kitB "tuple" "tuple" = some true by decide +kernel)
  | dic _ => exact kit_ty (show kitB "dict" "tuple" = some false by decide +kernel)
/-- an int between two bounds -/
def okV (lo hi : Int) : V → Bool
  | .int j => decide (lo ≤ j) && decide (j ≤ hi)
  | _ => false
/-- the tuple of a plant -/
def okVs (xs : List V) : List Bool := (List.range xs.length).map fun i => okV 0 (i : Nat) (xs.getD i .non)
def fitsV (xs : List V) : Bool := decide (xs.length < 40) && (okVs xs).all id

inductive FitsIs (H : Hp) : V → Bool → Prop
  | no {v : V} {n : String} : Kd H v n → n ≠ "tuple" → FitsIs H v false
  | tup {a : Addr} {xs : List V} : H a = some (.tup xs) → xs.length ≤ 300 → (∀ x ∈ xs, ∃ m, Kd H x m) → FitsIs H (.ref a) (fitsV xs)
theorem same_new {H : Hp} {p : Addr} {o : HO} (h : H p = none) : Same H (upd H p o) := fun b u z => by
  rw [upd_ne (ne_of_none z h)]
  exact z
theorem okVs_len (xs : List V) : (okVs xs).length = xs.length := by
  unfold okVs
  rw [List.length_map, List.length_range]
theorem okVs_at {xs : List V} {i : Nat} {x : V} (h : xs[i]? = some x) : (okVs xs)[i]? = some (okV 0 (i : Nat) x) := by
  have hi : i < xs.length := (List.getElem?_eq_some_iff.mp h).1
  unfold okVs
  rw [List.getElem?_map, List.getElem?_range hi, Option.map_some, List.getD_eq_getElem?_getD, h]
  rfl
theorem take_next {α : Type} {l : List α} {i : Nat} {x : α} (h : l[i]? = some x) : l.take (i + 1) = l.take i ++ [x] := by
  rw [List.take_add_one, h]
  rfl
/-- a comprehension's item without a test -/
theorem tyes_if {σ : List (Option V)} {H : Hp} {A B : Hp → Prop} (h : A H) : tYes σ H (fun b H3 => if b = true then A H3 else B H3) := by
  show (if true = true then A H else B H)
  rw [if_pos (rfl : true = true)]
  exact h
theorem small300 {n : Nat} (h : n ≤ 300) : n < sizeLine := small1000 (by omega)
/-! ### a plant that stands in the heap -/
structure PlantAt (H : Hp) (p : Addr) (pl : List Int) : Prop where
  at_ : H p = some (.tup (pl.map V.int))
  ok : Plant pl
theorem PlantAt.same {H H' : Hp} {p : Addr} {pl : List Int} (e : Same H H') (h : PlantAt H p pl) : PlantAt H' p pl := ⟨e _ _ h.at_, h.ok⟩
theorem PlantAt.seq {K : PySem.W.Frag} {H : Hp} {p : Addr} {pl : List Int} (h : PlantAt H p pl) : SqT K H p (pl.map V.int) := .inl (.inl h.at_)
theorem Plant.fits {pl : List Int} (h : Plant pl) : fitsV (pl.map V.int) = true := by
  unfold fitsV
  have hl := h.len
  rw [List.length_map, decide_eq_true (by omega), Bool.true_and, List.all_eq_true]
  intro b hb
  obtain ⟨i, hi, rfl⟩ := List.mem_map.mp hb
  have hi2 := List.mem_range.mp hi
  rw [List.length_map] at hi2
  have e : pl[i]? = some pl[i] := List.getElem?_eq_getElem hi2
  obtain ⟨h0, h1⟩ := h.ok i _ e
  rw [List.getD_eq_getElem?_getD, List.getElem?_map, e]
  show (decide (0 ≤ pl[i]) && decide (pl[i] ≤ (i : Int))) = true
  rw [decide_eq_true h0, decide_eq_true h1]
  rfl
theorem PlantAt.fits {H : Hp} {p : Addr} {pl : List Int} (h : PlantAt H p pl) : FitsIs H (.ref p) true := by
  have z := FitsIs.tup (H := H) h.at_ (by rw [List.length_map]; have := h.ok.len; omega) fun x hx => by
    obtain ⟨n, _, rfl⟩ := List.mem_map.mp hx
    exact ⟨_, .int n⟩
  rw [h.ok.fits] at z
  exact z
theorem upd_at {H : Hp} {a b : Addr} {o u : HO} (h : H b = some u) (n : H a = none) : upd H a o b = some u := by
  rw [upd_ne (ne_of_none h n)]
  exact h

/-- all but b is as it was -/
def Bar (b : Addr) (H H' : Hp) : Prop := ∀ c o, c ≠ b → H c = some o → H' c = some o
theorem Bar.refl (b : Addr) (H : Hp) : Bar b H H := fun _ _ _ h => h
theorem Bar.trans {b : Addr} {H H1 H2 : Hp} (u : Bar b H H1) (v : Bar b H1 H2) : Bar b H H2 := fun c o n h => v c o n (u c o n h)
theorem Same.bar {b : Addr} {H H' : Hp} (e : Same H H') : Bar b H H' := fun c o _ h => e c o h
theorem bar_upd {b : Addr} {H : Hp} {o : HO} : Bar b H (upd H b o) := fun c u n h => by
  rw [upd_ne n]
  exact h
/-- a heap is forgotten but for what is said of it -/
theorem heap_cut {P R : Hp → Prop} {G : Hp} (h : P G) (k : ∀ G', P G' → R G') : R G := k G h
/-! ### stocks, rows in another order, items of short lists -/
theorem perm_pick {α : Type} : ∀ {l : List α} {i : Nat} {x : α}, l[i]? = some x → (x :: l.eraseIdx i).Perm l
  | [], _, _, h => by simp at h
  | y :: r, 0, x, h => by
    have e : y = x := Option.some.inj h
    rw [e]
    exact .refl _
  | y :: r, i + 1, x, h => by
    have ih := perm_pick (l := r) (i := i) (x := x) (by simpa using h)
    exact (List.Perm.swap y x (r.eraseIdx i)).trans (ih.cons y)
structure StockOk (pl ss : List Int) : Prop where
  len : ss.length = pl.length + 1
  nd : ss.Nodup
  sm : ∀ n ∈ ss, -(10 ^ 36) ≤ n ∧ n ≤ 10 ^ 36
theorem three_at {u0 u1 u2 : V} {r : Int} (h0 : 0 ≤ r) (h3 : r < 3) : ∃ v, atI [u0, u1, u2] r = some v ∧ (v = u0 ∨ v = u1 ∨ v = u2) := by
  have c : r = 0 ∨ r = 1 ∨ r = 2 := by omega
  rcases c with rfl | rfl | rfl
  · exact ⟨u0, rfl, .inl rfl⟩
  · exact ⟨u1, rfl, .inr (.inl rfl)⟩
  · exact ⟨u2, rfl, .inr (.inr rfl)⟩
theorem Plant.snoc {pl : List Int} (hP : Plant pl) {u : Int} (hl : pl.length < 39) (u0 : 0 ≤ u) (u1 : u ≤ pl.length) : Plant (pl ++ [u]) := by
  refine ⟨by rw [List.length_append]; show pl.length + 1 ≤ 39; omega, fun k x e => ?_⟩
  by_cases hk : k < pl.length
  · rw [List.getElem?_append_left hk] at e
    exact hP.ok k x e
  · have hk2 : k = pl.length := by
      have z := (List.getElem?_eq_some_iff.mp e).1
      rw [List.length_append] at z
      have z2 : k < pl.length + 1 := z
      omega
    subst hk2
    rw [List.getElem?_append_right (Nat.le_refl _), Nat.sub_self] at e
    cases e
    exact ⟨u0, u1⟩
theorem five_at {u0 u1 u2 u3 u4 : V} {r : Int} (h0 : 0 ≤ r) (h5 : r < 5) : ∃ v, atI [u0, u1, u2, u3, u4] r = some v ∧ (v = u0 ∨ v = u1 ∨ v = u2 ∨ v = u3 ∨ v = u4) := by
  have c : r = 0 ∨ r = 1 ∨ r = 2 ∨ r = 3 ∨ r = 4 := by omega
  rcases c with rfl | rfl | rfl | rfl | rfl
  · exact ⟨u0, rfl, .inl rfl⟩
  · exact ⟨u1, rfl, .inr (.inl rfl)⟩
  · exact ⟨u2, rfl, .inr (.inr (.inl rfl))⟩
  · exact ⟨u3, rfl, .inr (.inr (.inr (.inl rfl)))⟩
  · exact ⟨u4, rfl, .inr (.inr (.inr (.inr rfl)))⟩
/-- a new list of new lists, the suppliers so far -/
structure ListsAt (H H' : Hp) (l : Addr) (as : List Addr) (pl : List Int) (i : Nat) : Prop where
  sm : Same H H'
  nl : H l = none
  hl : H' l = some (.lst (as.map V.ref))
  len : as.length = pl.length + 1
  new : ∀ a ∈ as, H a = none
  out : l ∉ as
  nd : as.Nodup
  at_ : ∀ (j : Nat) (a : Addr), as[j]? = some a → H' a = some (.lst ((sup pl i j).map V.int))
end PT

set_option maxHeartbeats 4000000
/-! rules that round 3's code asks for: is True of ints and bools, set(t), count of bools, enumerate from a start -/
namespace PT
open PySem PySem.Spec PyProof.Rows L2

section
variable {X : Cx}
/-! ### x is True, x an int or a bool -/
def isTV (b : Bool) : V → Bool
  | .bl a => decide (a = b)
  | _ => false
def rIsK : V → V → Hp → (V → Hp → Prop) → Prop := fun x y H Q => ∃ b, y = .bl b ∧ ((∃ a, x = .bl a) ∨ ∃ i, x = .int i) ∧ Q (.bl (isTV b x)) H
theorem op_isK : OpR X (compareOp .Is) rIsK := by
  intro pins st σ H x y v u Q I rx ry h
  obtain ⟨b, rfl, hx, q⟩ := h
  cases (show u = Value.bool b from ry)
  rcases hx with ⟨a, rfl⟩ | ⟨i, rfl⟩
  · cases (show v = Value.bool a from rx)
    by_cases c : a = b
    · subst c
      exact wpAny_is_self rfl ⟨.bl true, H, I, rfl, by simpa [isTV] using q⟩
    · exact wpAny_is_other rfl (fun z => c (Value.bool.inj z)) ⟨.bl false, H, I, rfl, by simpa [isTV, c] using q⟩
  · obtain ⟨t, rfl⟩ := rx
    exact wpAny_is_other rfl (fun z => nomatch z) ⟨.bl false, H, I, rfl, q⟩
/-! ### set(t), t a tuple of ints -/
def rSetT (K : PySem.W.Frag) (w : World) : List V → Hp → (V → Hp → Prop) → Prop := fun vs H Q => ∃ (l : Addr) (ns : List Int), vs = [.ref l] ∧ SqT K H l (ns.map V.int) ∧ ns.length ≤ 1000 ∧
  ∀ p n, H p = none → Q (.ref p) (upd H p (SetO w p (fun j => decide (j ∈ ns)) n))
/-! ### xs.count(True), xs of bools -/
def rCntB (K : PySem.W.Frag) : V → List V → Hp → (V → Hp → Prop) → Prop := fun x xs H Q => ∃ (p : Addr) (bs : List Bool) (b : Bool), x = .ref p ∧ xs = [.bl b] ∧ SqL K H p (bs.map V.bl) ∧ Q (.int ((bs.count b : Nat) : Int)) H
end

/-! ### len(set(t)), t a tuple of different ints -/
section
variable {X : Cx}
theorem setR_len {w : World} {h : Heap} {a : Addr} {ns : List Int} {c : Nat} (R : SetR w h a (fun j => decide (j ∈ ns)) c) (nd : ns.Nodup) : c = ns.length := by
  obtain ⟨o, es, ep, t, ho, hx, hd, g, nk, hm, hb, hf, hn, _⟩ := R
  have p : (es.toList.map keyOf).Perm ns := (List.perm_ext_iff_of_nodup nk nd).mpr fun k => by
    rw [← hm k]
    exact decide_eq_true_iff
  have e := p.length_eq
  rw [List.length_map, Array.length_toList] at e
  omega
def tLenSetT (K : PySem.W.Frag) (ta : TE) : TE := fun σ H Q => ta σ H fun x H1 => ∃ (l : Addr) (ns : List Int), x = .ref l ∧ SqT K H1 l (ns.map V.int) ∧ ns.Nodup ∧ ns.length ≤ 1000 ∧ Q (.int (ns.length : Nat)) H1
theorem pe_lenSetT {a : Expr} {ta : TE} {p p2 q pos : Pos} (hg : Gl X "len") (hm : X.mg "len" = none) (hg2 : Gl X "set") (hm2 : X.mg "set" = none) (ha : PE X a ta) (hc : X.calm = true := by rfl)
    (na : starEach [a] X.env = (false, eval a X.env) :: starEach [] X.env := by rfl) : PE X (.Call (.Name "len" p) [.Call (.Name "set" p2) [a] [] q] [] pos) (tLenSetT X.K ta) := by
  constructor
  intro pins st σ H Q I h
  refine Call_ (ld_blt I hg hm boot_len (PyProof.Rows.callWith_builtin1 (PyProof.Rows.args_cons ?_ rfl) rfl rfl))
  refine Call_ (ld_blt I hg2 hm2 boot_set (PyProof.Rows.callWith_type1 (PyProof.Rows.args_cons (thn (ha.run pins st σ H _ I h) fun v s1 ⟨x, H1, I1, r1, q1⟩ => PyProof.Rows.args_nil ?_) na) na rfl))
  obtain ⟨l, ns, rfl, hq, nd, hl, q1⟩ := q1
  cases r1
  obtain ⟨its, r, pl, hz⟩ := I1.tuple hq
  have hi : IntsAre its.toArray.toList ns := by simpa using ints_of_vals r
  refine call_set_tupI ns (I1.ok.hd hc) pl hi (by unfold scanBound; omega) fun h' tk c R hcn hk => PyProof.Rows.args_nil ?_
  have ec := setR_len R nd
  obtain ⟨o, es, ep, t, ho, hx, hd, _, _, _, hb, hf, hn, _⟩ := R
  exact call_len_set ho hx hd hf (by omega) ⟨.int (ns.length : Nat), H1, (I1.kept hk).tok _, ⟨_, by rw [hn, ec]⟩, q1⟩
end
/-! ### enumerate(t, k): a tuple's items with their places, counted from k -/
def ItF (K : PySem.W.Frag) (a : Addr) (k : Int) : It :=
  ⟨fun i H => ∃ (xs : List V) (x : V), SqT K H a xs ∧ xs[i]? = some x,
   fun i H v H' => ∃ T x, v = .ref T ∧ H T = none ∧ H' = upd H T (.tup [.int (k + (i : Nat)), x]) ∧ ∀ xs, SqT K H a xs → xs[i]? = some x,
   fun i H => ∃ xs : List V, SqT K H a xs ∧ xs.length ≤ i⟩
def iF (K : PySem.W.Frag) (ta : TA) : TI := fun σ H R => ta σ H fun vs H1 => ∃ a k xs, vs = [.ref a, .int k] ∧ SqT K H1 a xs ∧ -(2 ^ 63) ≤ k ∧ k < 2 ^ 63 ∧ R (ItF K a k) H1
/-! ### t + u, t[a:b], told by what comes out -/
section
variable {X : Cx}
theorem sl_tupG : SlR X (fun x lo hi H Q => ∃ a xs, x = .ref a ∧ H a = some (.tup xs) ∧ ∀ c H', Same H H' → H' c = some (.tup (cutV xs lo hi)) → Q (.ref c) H') := by
  intro pins st σ H x v vl vu lo hi sl Q I rx hs pl pu h
  obtain ⟨a, xs, rfl, ea, q⟩ := h
  refine sl_tupA pins st σ H _ v vl vu lo hi sl Q I rx hs pl pu ⟨a, xs, rfl, .inl (.inl ea), fun e => ?_, fun _ p np => q p _ (same_new np) upd_same⟩
  refine q a H (Same.refl H) ?_
  unfold cutV
  rw [e.1, e.2, List.drop_zero, Nat.sub_zero, List.take_length]
  exact ea
end
/-! ### math of the plants functions -/
/-- who stands at or below j, of the stations up to j + i -/
def und (pl : List Int) (j i : Nat) : List Bool := (List.range (j + 1 + i)).map fun k => decide (j ∈ path pl k)
/-! ### xs[i], xs a list or a tuple -/
theorem ix_lt {X : Cx} : IxR X (fun x y H Q => rIxL X.K x y H Q ∨ rIxT X.K x y H Q) := ix_list.or ix_tup
end PT

set_option maxHeartbeats 4000000
/-! sorted(range(n), key=lambda k: xs[k]): the lambda made, called, the list it sorts -/
namespace PT
open PySem PySem.Spec PyProof.Rows L2 LamX NdefX

section
variable {X : Cx} {pins : List (Addr × Obj)} {σ : List (Option V)} {H : Hp} {s : Shared}
/-- the words of a lambda, as those of a def that was made -/
abbrev lamF (qual : Str) (scope : Scope) (cl : List (Str × Addr)) (c' : Addr) : NF := ⟨"<lambda>", qual, ⟨[], [], none, [], [], none, []⟩, [], scope, cl, c'⟩
end

/-! ### sorted(range(n), key=f) -/
/-- the stations, by their numbers -/
def byAge (n : Nat) (k : Nat → Int) : List Nat := (List.range n).mergeSort fun a b => decide (k a ≤ k b)
section
variable {prog : Program} {w : World} {A : Around} {E : Value → Shared → Prop} {s : Shared}
end
theorem ObjOk.there {P : Program} {w : World} {H : Hp} {h : Heap} {a : Addr} {o : HO} (x : ObjOk P w H h a o) : ∃ u, h.get? a = some u := by
  cases o with
  | lst xs => obtain ⟨_, _, _, _, e⟩ := x; exact ⟨_, e⟩
  | tup xs => obtain ⟨_, _, _, ob, e, _⟩ := x; exact ⟨_, e⟩
  | dK kvs => obtain ⟨_, _, _, _, ob, _, _, e, _⟩ := x; exact ⟨_, e⟩
  | dT kvs => obtain ⟨_, _, _, _, ob, _, _, e, _⟩ := x; exact ⟨_, e⟩
  | set S n => obtain ⟨ob, _, _, _, e, _⟩ := x; exact ⟨_, e⟩
  | ins C dx fs => obtain ⟨_, _, _, e, _⟩ := x; exact ⟨_, e⟩
  | own y => exact x
  | xd fs => obtain ⟨_, ⟨_, _, _, e, _⟩, _⟩ := x; exact ⟨_, e⟩
  | rng lo hi => obtain ⟨_, _, _, e⟩ := x; exact ⟨_, e⟩
  | frz ob u => exact ⟨_, x.1⟩
  | tbl ps => exact ⟨_, x⟩
  | met f y => exact ⟨_, x⟩
  | ext φ => exact x.2.1
/-! ### the expression -/
theorem ExtN.seq {K : PySem.W.Frag} {H H' : Hp} (e : ExtN H H') {a : Addr} {xs : List V} (h : SqL K H a xs ∨ SqT K H a xs) : SqL K H' a xs ∨ SqT K H' a xs := by
  rcases h with ((h | ⟨o, h⟩) | h) | ((h | ⟨o, h⟩) | h)
  · exact .inl (.inl (.inl (e _ _ h fun ps z => by cases z)))
  · exact .inl (.inl (.inr ⟨o, e _ _ h fun ps z => by cases z⟩))
  · exact .inl (.inr h)
  · exact .inr (.inl (.inl (e _ _ h fun ps z => by cases z)))
  · exact .inr (.inl (.inr ⟨o, e _ _ h fun ps z => by cases z⟩))
  · exact .inr (.inr h)
def tSortedLam (K : PySem.W.Frag) (T : List (Addr × Str)) (j : Nat) (ta : TA) : TE := fun σ H Q => ta σ H fun vs H1 => ∃ (p a : Addr) (n : Nat) (ns : List Int), vs = [.ref p] ∧ H1 p = some (.rng 0 (n : Int)) ∧ n ≤ 1000 ∧ σ[j]? = some (some (.ref a)) ∧ (SqL K H1 a (ns.map V.int) ∨ SqT K H1 a (ns.map V.int)) ∧ ns.length = n ∧ Tabs T H1 ∧
  ∀ (H2 : Hp) (D : Addr), ExtN H1 H2 → Tabs T H2 → H2 D = none → Q (.ref D) (upd H2 D (.lst ((byAge n fun i => ns.getD i 0).map fun i : Nat => V.int (i : Int))))
/-! ### tables, where lists are written -/
theorem same_extN {H H' : Hp} (e : Same H H') : ExtN H H' := fun b o h _ => e b o h
theorem extN_lst {H H' : Hp} (e : ExtN H H') {a : Addr} {xs : List V} (h : H a = some (.lst xs)) : H' a = some (.lst xs) := e _ _ h fun _ z => by cases z
theorem extN_tup {H H' : Hp} (e : ExtN H H') {a : Addr} {xs : List V} (h : H a = some (.tup xs)) : H' a = some (.tup xs) := e _ _ h fun _ z => by cases z
end PT

set_option maxHeartbeats 4000000
/-! defs that are called where nothing is being shown: they may use repr of data -/
namespace PT
open PySem PySem.Spec PyProof.Rows L2
/-- what such a def promises: as FnOk says, but only where the guards are known to be empty -/
structure FnG (Pg : Program) (wo : World) (K : PySem.W.Frag) (mg : Str → Option Value) (bs : Heap) (lv : Nat) (at_ : Addr) (fn : FuncData) (ps : List Str) (sp : Sp) : Prop where
  len : ∀ vs H Q E, sp vs H Q E → vs.length = ps.length
  run : ∀ (A : Around) (out : List Env) (st : Shared) (H : Hp) (given : Args) (us : List Value) (vs : List V) (Q : VK) (E : XK),
    A.guards = some [] → Room lv A → Env0 Pg wo K mg bs A out st H → BindsTo st fn given (ps.zip us) → Vals vs us → sp vs H Q E →
      codeAny (model Pg wo) A (.call (.ref at_) given) (CR CX0 out Pg wo H st Q E) st
section
variable {Pg : Program} {wo : World} {K : PySem.W.Frag} {mg : Str → Option Value} {bs : Heap} {at_ : Addr} {fn : FuncData} {ps : List Str} {sp : Sp}
end
section
variable {X : Cx} {lv : Nat} {at_ : Addr} {fn : FuncData} {ps : List Str} {sp : Sp} {more : List V} {ds : List Value}
end
end PT

set_option maxHeartbeats 4000000
/-! the law's own call where defs of the program make lambdas: their tables of code objects stand empty, and are tracked -/
namespace PT
open PySem PySem.Spec PyProof.Rows L2 LamX

/-- a def whose code object is known by its place -/
structure FunC (K : PySem.W.Frag) (x qual : Str) (st : Stmt) (f : Addr) (fd : FuncData) (c : Addr) : Prop where
  ex : ∃ (oc : Value) (od : Option Addr) (kV doc pm : Value) (an : Option Addr) (ct : Value) (osl : Array (Option Value)),
    fd = PySem.W.fnOf x qual (defArgs st) (defBody st) (defScope st) .none kV doc pm an (.ref c) ct ∧ K.lookup f = some ⟨oc, od, .func fd, osl⟩ ∧ PySem.W.codeIn K (.ref c) qual = true
  kp : PySem.W.keepIn K (.ref f) = true
section
variable {P : Program} {w : World} {K : PySem.W.Frag} {mg : Str → Option Value} {base : Heap}
theorem FunC.fun {x qual : Str} {st : Stmt} {f c : Addr} {fd : FuncData} (F : FunC K x qual st f fd c) : Fun K x qual st f fd :=
  ⟨let ⟨oc, od, kV, doc, pm, an, ct, osl, h⟩ := F.ex; ⟨oc, od, kV, doc, pm, an, .ref c, ct, osl, h⟩, F.kp⟩
theorem FunC.ok {x qual : Str} {st : Stmt} {f c : Addr} {fd : FuncData} {N ps : List Str} {k : Nat} {sp : Sp} (F : FunC K x qual st f fd c) (S : FnScope N ps (defScope st)) (len : ∀ vs H Q E, sp vs H Q E → vs.length = ps.length)
    (rd : ∀ (A : Around) (outer : List Env) (s : Shared) (H : Hp) (vs : List V) (Q : VK) (E : XK), Room k (A.deeper (envOfC qual (defScope st) s.heap.objs.size f (.ref c))) → sp vs H Q E →
      ∃ t, PSs (cxOf CX0 P w K mg base N qual (defScope st) f (.ref c) A outer s H E).nox (defBody st) t ∧ t { nx := fun _ H' => Q .non H', rt := Q } (start N vs) H) : FnOk P w K mg base CX0 (k + 1) f fd ps sp := by
  obtain ⟨oc, od, kV, doc, pm, an, ct, osl, e, lk, cd⟩ := F.ex
  subst e
  refine fn_of lk cd S len fun A outer s H vs Q E room hs => ?_
  obtain ⟨t, h, q⟩ := rd A outer s H vs Q E room hs
  exact ⟨t, h.nox, q⟩
theorem funC_mk {x qual : Str} {st : Stmt} {f c : Addr} {oc : Value} {od an : Option Addr} {osl : Array (Option Value)} {kV doc pm ct : Value} (l : K.lookup f = some ⟨oc, od, .func (PySem.W.fnOf x qual (defArgs st) (defBody st) (defScope st) .none kV doc pm an (.ref c) ct), osl⟩)
    (d : PySem.W.codeIn K (.ref c) qual = true) (k : PySem.W.keepIn K (.ref f) = true) : FunC K x qual st f (PySem.W.fnOf x qual (defArgs st) (defBody st) (defScope st) .none kV doc pm an (.ref c) ct) c := ⟨⟨oc, od, kV, doc, pm, an, ct, osl, rfl, l, d⟩, k⟩
end
/-- nothing is tracked but the script and these tables, all empty -/
def OnlyT (cs : List (Addr × Addr)) (H : Hp) : Prop := ∀ b, H b = none ∨ b ∈ cs.map (·.2) ∨ ∃ o xs, H b = some (.frz o (.lst xs))
end PT

set_option maxHeartbeats 4000000
/-! a def whose last parameter has the default 0 -/
namespace PT
open PySem PySem.Spec PyProof.Rows L2
section
variable {P : Program} {w : World} {K : PySem.W.Frag} {mg : Str → Option Value} {base : Heap} {x qual : Str} {params : Arguments} {body : List Stmt} {scope : Scope} {dvs : List V} {f : Addr} {fd : FuncData}
theorem dfl0 {T : Addr} {c : Value} {d : Option Addr} {sl : Array (Option Value)} {tk : Tok} {n : Nat} (l : K.lookup T = some ⟨c, d, .seq #[.int 0 tk] n, sl⟩) : DflV K (.ref T) [.int 0] :=
  .inr ⟨by simp, T, _, [.int 0 tk], n, rfl, l, rfl, .cons ⟨tk, rfl⟩ .nil⟩
theorem funD_mk {oc : Value} {od an : Option Addr} {osl : Array (Option Value)} {dV kV doc pm cdv ct : Value} (l : K.lookup f = some ⟨oc, od, .func (PySem.W.fnOf x qual params body scope dV kV doc pm an cdv ct), osl⟩)
    (c : PySem.W.codeIn K cdv qual = true) (k : PySem.W.keepIn K (.ref f) = true) (d : DflV K dV dvs) : FunD K x qual params body scope dvs [] f (PySem.W.fnOf x qual params body scope dV kV doc pm an cdv ct) :=
  ⟨⟨oc, od, dV, kV, doc, pm, an, cdv, ct, osl, rfl, l, c, d, .inl rfl⟩, k⟩
end
end PT

/-! classes of errors that a program has written -/
namespace PT
open PySem PySem.Spec PyProof.Rows L2
/-- a class of errors that the program has written, without an __init__ of its own -/
structure ExcC (K : PySem.W.Frag) (mg : Str → Option Value) (x : Str) (C : Addr) : Prop where
  g : mg x = some (.ref C)
  e : PySem.W.excIn K C [.type "ValueError", .type "Exception", .type "BaseException", .type "object"] "ValueError.__new__" = true
  k : PySem.W.keepIn K (.ref C) = true
  s : PySem.W.subIn K (.ref C) (.type "BaseException") = some true
  t : PySem.W.typeIn K (.ref C) = some (.type "type")
end PT

set_option maxHeartbeats 4000000
/-! [plant, stock] and lists of small ints, shown -/
namespace PT
open PySem PySem.Spec PyProof.Rows L2
theorem StockOk.small {pl ss : List Int} (h : StockOk pl ss) : ∀ n ∈ ss, n.natAbs < 10 ^ 50 := fun n hn => by
  have := h.sm n hn
  omega
/-- [plant, stock] as data -/
def pairD (pl ss : List Int) : PyData := .list [.tuple (pl.map PyData.int), .tuple (ss.map PyData.int)]
end PT

set_option maxHeartbeats 4000000
/-! max of a tuple of ints -/
namespace PT
open PySem PySem.Spec PyProof.Rows L2
theorem depth_ints : ∀ ns : List Int, PyData.depthAll (ns.map PyData.int) = 0
  | [] => rfl
  | n :: ns => by
    rw [List.map_cons]
    simp only [PyData.depthAll, PyData.depth, depth_ints ns]
    rfl
theorem lay_ints : ∀ ns : List Int, PyData.canLayAll0 (ns.map PyData.int) = true
  | [] => by simp [PyData.canLayAll0]
  | n :: ns => by simp [PyData.canLayAll0, PyData.canLay0, lay_ints ns]
theorem shaped_ints (ns : List Int) : SeqAt.shaped (.list (ns.map PyData.int)) = true := by
  unfold SeqAt.shaped
  simp only [PyData.canLay0, PyData.depth, depth_ints, lay_ints, Bool.true_and]
  decide
section
variable {X : Cx}
end
def natV (c : List Nat) : List V := c.map fun k : Nat => V.int (k : Int)
end PT

set_option maxHeartbeats 4000000
/-! lists of pairs of ints: data, the least pair -/
namespace PT
open PySem PySem.Spec PyProof.Rows L2
def pD (p : Int × Int) : PyData := .tuple [.int p.1, .int p.2]
/-- a list of pairs of ints -/
structure PairsAt (H : Hp) (l : Addr) (as : List Addr) (ps : List (Int × Int)) : Prop where
  hl : H l = some (.lst (as.map V.ref))
  len : as.length = ps.length
  at_ : ∀ (i : Nat) (a : Addr) (p : Int × Int), as[i]? = some a → ps[i]? = some p → H a = some (.tup [.int p.1, .int p.2])
theorem PairsAt.same {H H' : Hp} {l : Addr} {as : List Addr} {ps : List (Int × Int)} (h : PairsAt H l as ps) (e : Same H H') : PairsAt H' l as ps := ⟨e _ _ h.hl, h.len, fun i a p x y => e _ _ (h.at_ i a p x y)⟩
theorem dpAll_pairs {K : PySem.W.Frag} {H : Hp} : ∀ (as : List Addr) (ps : List (Int × Int)), as.length = ps.length → (∀ (i : Nat) (a : Addr) (p : Int × Int), as[i]? = some a → ps[i]? = some p → H a = some (.tup [.int p.1, .int p.2])) → DpAll K H (as.map V.ref) (ps.map pD)
  | [], [], _, _ => .nil
  | [], _ :: _, h, _ => by simp at h
  | _ :: _, [], h, _ => by simp at h
  | a :: as, p :: ps, h, q => .cons (.tup (.inl (.inl (q 0 a p rfl rfl))) (dp_ints [p.1, p.2])) (dpAll_pairs as ps (by simpa using h) fun i b r e1 e2 => q (i + 1) b r (by simpa using e1) (by simpa using e2))
theorem PairsAt.dp {K : PySem.W.Frag} {H : Hp} {l : Addr} {as : List Addr} {ps : List (Int × Int)} (h : PairsAt H l as ps) : Dp K H (.ref l) (.list (ps.map pD)) := .lst (.inl (.inl h.hl)) (dpAll_pairs as ps h.len h.at_)
section
variable {X : Cx}
end
/-! ### the least pair is that of the oldest box -/
/-- the suppliers with their boxes -/
def supP (pl ss : List Int) (i v : Nat) : List (Int × Int) := (sup pl i v).map fun k => (bx ss k, k)
theorem PairsAt.snoc {G : Hp} {D t : Addr} {as : List Addr} {ps : List (Int × Int)} {p : Int × Int} (h : PairsAt G D as ps) (n : G t = none) :
    PairsAt (upd (upd G t (.tup [.int p.1, .int p.2])) D (.lst (as.map V.ref ++ [.ref t]))) D (as ++ [t]) (ps ++ [p]) := by
  have tD : t ≠ D := fun z => by
    rw [z, h.hl] at n
    cases n
  refine ⟨by rw [upd_same, List.map_append]; rfl, by rw [List.length_append, List.length_append, h.len]; rfl, fun i a r ea er => ?_⟩
  by_cases hi : i < as.length
  · rw [List.getElem?_append_left hi] at ea
    rw [List.getElem?_append_left (by rw [← h.len]; exact hi)] at er
    have z := h.at_ i a r ea er
    rw [upd_ne (ne_of z h.hl (by intro w; cases w)), upd_ne (ne_of_none z n)]
    exact z
  · have hl := h.len
    have hi2 : i = as.length := by
      have z := (List.getElem?_eq_some_iff.mp ea).1
      rw [List.length_append] at z
      have z2 : i < as.length + 1 := z
      omega
    subst hi2
    rw [List.getElem?_append_right (Nat.le_refl _), Nat.sub_self] at ea
    rw [hl, List.getElem?_append_right (Nat.le_refl _), Nat.sub_self] at er
    cases ea
    cases er
    rw [upd_ne tD, upd_same]
end PT

/-! the words of an ordered stock: what a day does to them -/
namespace PT

/-- the supplier of v at or above s; none where s is not below v -/
def br (pl : List Int) (v s : Nat) : Option Nat := if h : 0 < s then (if cu pl s = v then some s else br pl v (cu pl s)) else none
termination_by s
decreasing_by exact cu_lt pl h
/-- all stations, from the oldest box on -/
structure IsOrd (ss : List Int) (L : List Nat) : Prop where
  mem : ∀ k, k ∈ L ↔ k < ss.length
  inc : L.Pairwise fun a b : Nat => bx ss a < bx ss b
/-- the word of v -/
def wd (pl : List Int) (L : List Nat) (v : Nat) : List Nat := L.filterMap (br pl v)
/-! ### the chain -/
/-- the last station of the chain from c on -/
def lst (pl ss : List Int) (c : Nat) : Nat := if h : c < bst pl ss c ∧ bst pl ss c ≤ pl.length then lst pl ss (bst pl ss c) else c
termination_by pl.length - c
decreasing_by omega
theorem chn_cu {pl ss : List Int} (hP : Plant pl) {s : Nat} (hs : s ∈ chn pl ss 0) (h0 : 0 < s) : cu pl s ∈ chn pl ss 0 ∧ gives pl ss (cu pl s) ∧ bst pl ss (cu pl s) = s := by
  rcases chn_up _ 0 rfl s hs with z | ⟨p, hp, gp, ep⟩
  · omega
  · have e2 := gives_cu hP gp
    rw [ep] at e2
    rw [e2]
    exact ⟨hp, gp, ep⟩
/-! ### a day -/
/-- where the box of s stands behind the day -/
def mv (pl ss : List Int) (s : Nat) : Nat := if s ∈ chn pl ss 0 then cu pl s else s
/-- the order behind the day -/
def dayL (pl ss : List Int) (L : List Nat) : List Nat := L.tail.map (mv pl ss) ++ [lst pl ss 0]
/-! ### the greatest station whose box is older than its customer's -/
def ldis (pl ss : List Int) : Nat → Nat
  | 0 => 0
  | m + 1 => if bx ss ((m + 1 : Nat) : Int) < bx ss ((cu pl (m + 1) : Nat) : Int) then m + 1 else ldis pl ss m
/-! ### a box's way up, letter by letter -/
/-- what v has got of the box at h when its way up has come to s -/
def upto (pl : List Int) (h s v : Nat) : List Nat := match br pl v h with
  | some t => if s < t then [t] else []
  | none => []
def natI (ws : List Nat) : List Int := ws.map fun k : Nat => (k : Int)
end PT

set_option maxHeartbeats 4000000
/-! letters found by the ways up; stations sorted by their boxes -/
namespace PT
open PySem PySem.Spec PyProof.Rows L2
/-- the pairs of box and station, the stations below i -/
def allP (ss : List Int) (i : Nat) : List (Int × Int) := (List.range i).map fun k : Nat => (bx ss k, (k : Int))
theorem allP_len (ss : List Int) (i : Nat) : (allP ss i).length = i := by
  unfold allP
  rw [List.length_map, List.length_range]
theorem allP_at (ss : List Int) {i k : Nat} (h : k < i) : (allP ss i)[k]? = some (bx ss k, (k : Int)) := by
  unfold allP
  rw [List.getElem?_map, List.getElem?_range h]
  rfl
def pairOf (G : Hp) : V → Int × Int
  | .ref t => match G t with
    | some (.tup [.int a, .int b]) => (a, b)
    | _ => (0, 0)
  | _ => (0, 0)
theorem pairOf_at {G : Hp} {t : Addr} {a b : Int} (h : G t = some (.tup [.int a, .int b])) : pairOf G (.ref t) = (a, b) := by
  simp only [pairOf, h]
theorem PairsAt.mem {G : Hp} {ss : List Int} {as : List Addr} {D : Addr} {n : Nat} (h : PairsAt G D as (allP ss n)) {y : V} (hy : y ∈ as.map V.ref) : ∃ t o, y = .ref t ∧ o < n ∧ G t = some (.tup [.int (bx ss (o : Nat)), .int (o : Nat)]) := by
  obtain ⟨a, ha, rfl⟩ := List.mem_map.mp hy
  obtain ⟨i, hi⟩ := List.mem_iff_getElem?.mp ha
  have hl := h.len
  rw [allP_len] at hl
  have hin := (List.getElem?_eq_some_iff.mp hi).1
  have ho : i < n := by omega
  exact ⟨a, i, rfl, ho, h.at_ i a _ hi (allP_at ss ho)⟩
theorem PairsAt.map {G : Hp} {ss : List Int} {as : List Addr} {D : Addr} {n : Nat} (h : PairsAt G D as (allP ss n)) : (as.map V.ref).map (fun y => (pairOf G y).2.toNat) = List.range n := by
  have hl := h.len
  rw [allP_len] at hl
  apply List.ext_getElem?
  intro i
  rw [List.getElem?_map, List.getElem?_map]
  by_cases hi : i < n
  · have ea : as[i]? = some (as[i]'(by omega)) := List.getElem?_eq_getElem _
    rw [ea, List.getElem?_range hi]
    show some ((pairOf G (.ref _)).2.toNat) = _
    rw [pairOf_at (h.at_ i _ _ ea (allP_at ss hi))]
    rfl
  · rw [List.getElem?_eq_none (by omega), List.getElem?_eq_none (by rw [List.length_range]; omega)]
    rfl
end PT

set_option maxHeartbeats 4000000
/-! rows of letters that stand in the heap, some of them made a moment ago -/
namespace PT
open PySem PySem.Spec PyProof.Rows L2 LamX NdefX
/-- nothing but a table of code objects can have been there -/
def NewN (H : Hp) (a : Addr) : Prop := ∀ o, H a = some o → ∃ ps, o = .tbl ps
theorem NewN.back {H H' : Hp} {a : Addr} (n : NewN H' a) (x : ExtN H H') : NewN H a := fun o e => by
  cases o with
  | tbl ps => exact ⟨ps, rfl⟩
  | _ => exact n _ (x _ _ e fun ps z => by cases z)
theorem NewN.lst {H : Hp} {a c : Addr} {xs : List V} (n : NewN H a) (e : H c = some (.lst xs)) : a ≠ c := fun z => by
  obtain ⟨ps, q⟩ := n _ (z ▸ e)
  cases q
theorem NewN.tup {H : Hp} {a c : Addr} {xs : List V} (n : NewN H a) (e : H c = some (.tup xs)) : a ≠ c := fun z => by
  obtain ⟨ps, q⟩ := n _ (z ▸ e)
  cases q
/-- nothing has changed but the source and the tables of code objects -/
def BarN (b : Addr) (H H' : Hp) : Prop := ∀ c o, c ≠ b → H c = some o → (∀ ps, o ≠ .tbl ps) → H' c = some o
theorem BarN.refl (b : Addr) (H : Hp) : BarN b H H := fun _ _ _ h _ => h
theorem BarN.trans {b : Addr} {H H1 H2 : Hp} (u : BarN b H H1) (v : BarN b H1 H2) : BarN b H H2 := fun c o n h z => v c o n (u c o n h z) z
theorem BarN.lst {b : Addr} {H H1 : Hp} (u : BarN b H H1) {a : Addr} {xs : List V} (n : a ≠ b) (h : H a = some (.lst xs)) : H1 a = some (.lst xs) := u _ _ n h fun _ z => by cases z
theorem BarN.tup {b : Addr} {H H1 : Hp} (u : BarN b H H1) {a : Addr} {xs : List V} (n : a ≠ b) (h : H a = some (.tup xs)) : H1 a = some (.tup xs) := u _ _ n h fun _ z => by cases z
structure RowsN (G : Hp) (l : Addr) (as : List Addr) (n : Nat) (f : Nat → List Nat) : Prop where
  hl : G l = some (.lst (as.map V.ref))
  len : as.length = n
  out : l ∉ as
  nd : as.Nodup
  at_ : ∀ (j : Nat) (a : Addr), as[j]? = some a → G a = some (.lst ((natI (f j)).map V.int))
theorem RowsN.ext {G G' : Hp} {l : Addr} {as : List Addr} {n : Nat} {f : Nat → List Nat} (R : RowsN G l as n f) (e : ExtN G G') : RowsN G' l as n f :=
  ⟨extN_lst e R.hl, R.len, R.out, R.nd, fun j a h => extN_lst e (R.at_ j a h)⟩
theorem RowsN.same {G G' : Hp} {l : Addr} {as : List Addr} {n : Nat} {f : Nat → List Nat} (R : RowsN G l as n f) (e : Same G G') : RowsN G' l as n f := R.ext (same_extN e)
theorem RowsN.congr {G : Hp} {l : Addr} {as : List Addr} {n : Nat} {f g : Nat → List Nat} (R : RowsN G l as n f) (e : ∀ k, k < n → f k = g k) : RowsN G l as n g :=
  ⟨R.hl, R.len, R.out, R.nd, fun j a h => by
    have := (List.getElem?_eq_some_iff.mp h).1
    rw [← e j (by rw [← R.len]; exact this)]
    exact R.at_ j a h⟩
theorem RowsN.mem {G : Hp} {l : Addr} {as : List Addr} {n : Nat} {f : Nat → List Nat} (R : RowsN G l as n f) {a : Addr} (h : a ∈ as) : ∃ xs, G a = some (.lst xs) := by
  obtain ⟨i, hi⟩ := List.mem_iff_getElem?.mp h
  exact ⟨_, R.at_ i a hi⟩
theorem RowsN.get {G : Hp} {l : Addr} {as : List Addr} {n : Nat} {f : Nat → List Nat} (R : RowsN G l as n f) {i : Nat} (h : i < n) : ∃ a, as[i]? = some a ∧ G a = some (.lst ((natI (f i)).map V.int)) :=
  ⟨_, List.getElem?_eq_getElem (by rw [R.len]; exact h), R.at_ i _ (List.getElem?_eq_getElem (by rw [R.len]; exact h))⟩
/-- a row is written anew -/
theorem RowsN.put {G : Hp} {l : Addr} {as : List Addr} {n c : Nat} {f : Nat → List Nat} {a : Addr} (R : RowsN G l as n f) (e : as[c]? = some a) (w : List Nat) :
    RowsN (upd G a (.lst ((natI w).map V.int))) l as n fun k => if k = c then w else f k := by
  have hin := List.mem_of_getElem? e
  refine ⟨?_, R.len, R.out, R.nd, fun k b hb => ?_⟩
  · rw [upd_ne (show l ≠ a from fun z => R.out (z ▸ hin))]
    exact R.hl
  · by_cases h : k = c
    · subst h
      have eb : a = b := Option.some.inj (e.symm.trans hb)
      rw [if_pos rfl, ← eb, upd_same]
    · have ne : b ≠ a := fun z => h (by
        obtain ⟨hk, ek⟩ := List.getElem?_eq_some_iff.mp hb
        obtain ⟨hc, ec⟩ := List.getElem?_eq_some_iff.mp e
        exact (List.getElem_inj R.nd).mp (ek.trans (z.trans ec.symm)))
      rw [if_neg h, upd_ne ne]
      exact R.at_ k b hb
theorem RowsN.other {G : Hp} {l a : Addr} {as : List Addr} {n : Nat} {f : Nat → List Nat} {o : HO} (R : RowsN G l as n f) (h1 : a ∉ as) (h2 : a ≠ l) : RowsN (upd G a o) l as n f :=
  ⟨by rw [upd_ne (Ne.symm h2)]; exact R.hl, R.len, R.out, R.nd, fun j b hb => by
    rw [upd_ne (show b ≠ a from fun z => h1 (z ▸ List.mem_of_getElem? hb))]
    exact R.at_ j b hb⟩
theorem RowsN.start {H : Hp} {D : Addr} {f : Nat → List Nat} : RowsN (upd H D (.lst [])) D [] 0 f := ⟨upd_same, rfl, by simp, List.nodup_nil, fun j a e => by cases e⟩
/-- one more row, a new one, at the end -/
theorem RowsN.snoc {G G' : Hp} {D a : Addr} {as : List Addr} {i : Nat} {f : Nat → List Nat} (R : RowsN G D as i f) (x : ExtN G G') (n : NewN G a) (e : G' a = some (.lst ((natI (f i)).map V.int))) :
    RowsN (upd G' D (.lst (as.map V.ref ++ [.ref a]))) D (as ++ [a]) (i + 1) f := by
  have aD : a ≠ D := n.lst R.hl
  have R2 := R.ext x
  refine ⟨by rw [upd_same, List.map_append]; rfl, by rw [List.length_append, R.len]; rfl, fun h => ?_, ?_, fun j b hb => ?_⟩
  · rcases List.mem_append.mp h with z | z
    · exact R.out z
    · exact aD (List.mem_singleton.mp z).symm
  · refine List.nodup_append.mpr ⟨R.nd, by simp, fun b hb c hc => ?_⟩
    rw [List.mem_singleton.mp hc]
    obtain ⟨xs, z⟩ := R.mem hb
    exact Ne.symm (n.lst z)
  · by_cases hj : j < as.length
    · rw [List.getElem?_append_left hj] at hb
      rw [upd_ne (show b ≠ D from fun z => R.out (z ▸ List.mem_of_getElem? hb))]
      exact R2.at_ j b hb
    · have hj2 : j = as.length := by
        have z := (List.getElem?_eq_some_iff.mp hb).1
        rw [List.length_append] at z
        have z2 : j < as.length + 1 := z
        omega
      subst hj2
      rw [List.getElem?_append_right (Nat.le_refl _), Nat.sub_self] at hb
      cases hb
      rw [upd_ne aD, R.len]
      exact e
/-! ### such rows as data -/
def rowD (r : List Nat) : PyData := .list ((natI r).map PyData.int)
def rowsD (n : Nat) (f : Nat → List Nat) : PyData := .list ((List.range n).map fun k => rowD (f k))
theorem dpAll_rows {K : PySem.W.Frag} {G : Hp} : ∀ (as : List Addr) (g : Nat → List Nat), (∀ (j : Nat) (a : Addr), as[j]? = some a → G a = some (.lst ((natI (g j)).map V.int))) → DpAll K G (as.map V.ref) ((List.range as.length).map fun k => rowD (g k))
  | [], _, _ => .nil
  | a :: as, g, h => by
    rw [List.length_cons, List.range_succ_eq_map, List.map_cons, List.map_cons, List.map_map]
    refine .cons (.lst (.inl (.inl (h 0 a rfl))) (dp_ints _)) ?_
    exact dpAll_rows as (fun k => g (k + 1)) fun j b e => h (j + 1) b (by simpa using e)
theorem RowsN.dp {K : PySem.W.Frag} {G : Hp} {l : Addr} {as : List Addr} {n : Nat} {f : Nat → List Nat} (R : RowsN G l as n f) : Dp K G (.ref l) (rowsD n f) := by
  have z := dpAll_rows (K := K) as f R.at_
  rw [R.len] at z
  exact .lst (.inl (.inl R.hl)) z
end PT

set_option maxHeartbeats 4000000
/-! t.index(n) of a tuple of ints -/
namespace PT
open PySem PySem.Spec PyProof.Rows L2
end PT

set_option maxHeartbeats 4000000
/-! tuples that are known to have no dict of their own: methods of them -/
namespace PT
open PySem PySem.Spec PyProof.Rows L2
/-- a tuple that is known to the object -/
def TupF (H : Hp) (a : Addr) (xs : List V) : Prop := ∃ o : Obj, H a = some (.frz o (.tup xs)) ∧ o.cls = .type "tuple" ∧ o.dict = none
theorem TupF.same {H H' : Hp} (e : Same H H') {a : Addr} {xs : List V} (h : TupF H a xs) : TupF H' a xs := let ⟨o, q, r⟩ := h; ⟨o, e _ _ q, r⟩
theorem TupF.seq {K : PySem.W.Frag} {H : Hp} {a : Addr} {xs : List V} (h : TupF H a xs) : SqT K H a xs := let ⟨o, q, _⟩ := h; .inl (.inr ⟨o, q⟩)
theorem TupF.kept {H H' : Hp} {a : Addr} {xs : List V} (h : TupF H a xs) (e : ∀ o, H a = some o → H' a = some o) : TupF H' a xs := let ⟨o, q, r⟩ := h; ⟨o, e _ q, r⟩
theorem TupF.tyx {K : PySem.W.Frag} {H : Hp} {a : Addr} {xs : List V} (h : TupF H a xs) : TyX K H (.ref a) (.type "tuple") := let ⟨_, q, _⟩ := h; .fTuple q
section
variable {X : Cx}
/-- what a method call of such a tuple asks: the tuple, then the method's own rule -/
def tBMF (r : V → List V → Hp → VK → Prop) (to : TE) (t : TA) : TE := fun σ H Q =>
  to σ H fun x H1 => (∃ a ys, x = .ref a ∧ TupF H1 a ys) ∧ t σ H1 fun vs H2 => r x vs H2 Q
end
end PT

set_option maxHeartbeats 4000000
/-! a stock that stands in the heap: a tuple, known to its object or not -/
namespace PT
open PySem PySem.Spec PyProof.Rows L2 LamX NdefX
def StkAt (H : Hp) (q : Addr) (ss : List Int) : Prop := H q = some (.tup (ss.map V.int)) ∨ ∃ o : Obj, H q = some (.frz o (.tup (ss.map V.int)))
theorem StkAt.seq {K : PySem.W.Frag} {H : Hp} {q : Addr} {ss : List Int} (h : StkAt H q ss) : SqT K H q (ss.map V.int) := by
  rcases h with h | ⟨o, h⟩
  · exact .inl (.inl h)
  · exact .inl (.inr ⟨o, h⟩)
theorem StkAt.tyx {K : PySem.W.Frag} {H : Hp} {q : Addr} {ss : List Int} (h : StkAt H q ss) : TyX K H (.ref q) (.type "tuple") := by
  rcases h with h | ⟨o, h⟩
  · exact .base (.tup h)
  · exact .fTuple h
theorem StkAt.same {H H' : Hp} {q : Addr} {ss : List Int} (e : Same H H') (h : StkAt H q ss) : StkAt H' q ss := by
  rcases h with h | ⟨o, h⟩
  · exact .inl (e _ _ h)
  · exact .inr ⟨o, e _ _ h⟩
theorem StkAt.ext {H H' : Hp} {q : Addr} {ss : List Int} (e : ExtN H H') (h : StkAt H q ss) : StkAt H' q ss := by
  rcases h with h | ⟨o, h⟩
  · exact .inl (e _ _ h fun ps z => by cases z)
  · exact .inr ⟨o, e _ _ h fun ps z => by cases z⟩
theorem StkAt.bar {H H' : Hp} {b q : Addr} {ss : List Int} (e : BarN b H H') (n : q ≠ b) (h : StkAt H q ss) : StkAt H' q ss := by
  rcases h with h | ⟨o, h⟩
  · exact .inl (e _ _ n h fun ps z => by cases z)
  · exact .inr ⟨o, e _ _ n h fun ps z => by cases z⟩
theorem StkAt.ne {H : Hp} {b q : Addr} {ss : List Int} {xs : List V} (h : StkAt H q ss) (e : H b = some (.lst xs)) : q ≠ b := by
  rcases h with h | ⟨o, h⟩
  · exact ne_of h e (by intro z; cases z)
  · exact ne_of h e (by intro z; cases z)
theorem TupF.stk {H : Hp} {q : Addr} {ss : List Int} (h : TupF H q (ss.map V.int)) : StkAt H q ss := let ⟨o, e, _⟩ := h; .inr ⟨o, e⟩
theorem kit_tupT {K : PySem.W.Frag} : PySem.W.kitOne K (.type "tuple") (.type "tuple") = some true := kit_ty (show kitB "tuple" "tuple" = some true by decide +kernel)
end PT

set_option maxHeartbeats 4000000
/-! data of any depth in the heap, empty dicts among them -/
namespace PT
open PySem PySem.Spec PyProof.Rows L2 LamX NdefX
mutual
/-- v stands for d -/
inductive DD (H : Hp) : V → PyData → Prop
  | non : DD H .non .none
  | bl (b : Bool) : DD H (.bl b) (.bool b)
  | int (i : Int) : DD H (.int i) (.int i)
  | str (x : Str) : DD H (.str x) (.str x)
  | dic {a : Addr} : H a = some (.dK []) → DD H (.ref a) (.dict [])
  | lst {a : Addr} {xs : List V} {ds : List PyData} : H a = some (.lst xs) → DDs H xs ds → DD H (.ref a) (.list ds)
  | tup {a : Addr} {xs : List V} {ds : List PyData} : H a = some (.tup xs) → DDs H xs ds → DD H (.ref a) (.tuple ds)
  | frz {a : Addr} {o : Obj} {xs : List V} {ds : List PyData} : H a = some (.frz o (.tup xs)) → DDs H xs ds → DD H (.ref a) (.tuple ds)
inductive DDs (H : Hp) : List V → List PyData → Prop
  | nil : DDs H [] []
  | cons {v : V} {d : PyData} {vs : List V} {ds : List PyData} : DD H v d → DDs H vs ds → DDs H (v :: vs) (d :: ds)
end
mutual
theorem DD.ext {H H' : Hp} (e : ExtN H H') : ∀ (d : PyData) (v : V), DD H v d → DD H' v d
  | .none, _, h => by cases h; exact .non
  | .bool b, _, h => by cases h; exact .bl b
  | .int i, _, h => by cases h; exact .int i
  | .str x, _, h => by cases h; exact .str x
  | .list ds, _, h => by
    cases h with
    | lst a b => exact .lst (extN_lst e a) (DDs.ext e ds _ b)
  | .tuple ds, _, h => by
    cases h with
    | tup a b => exact .tup (e _ _ a fun _ z => by cases z) (DDs.ext e ds _ b)
    | frz a b => exact .frz (e _ _ a fun _ z => by cases z) (DDs.ext e ds _ b)
  | .dict _, _, h => by
    cases h with
    | dic a => exact .dic (e _ _ a fun _ z => by cases z)
theorem DDs.ext {H H' : Hp} (e : ExtN H H') : ∀ (ds : List PyData) (vs : List V), DDs H vs ds → DDs H' vs ds
  | [], _, h => by cases h; exact .nil
  | d :: ds, _, h => by
    cases h with
    | cons a b => exact .cons (DD.ext e d _ a) (DDs.ext e ds _ b)
end
theorem DDs.len {H : Hp} : ∀ {xs : List V} {ds : List PyData}, DDs H xs ds → xs.length = ds.length
  | _, _, .nil => rfl
  | _, _, .cons _ b => by rw [List.length_cons, List.length_cons, b.len]
theorem DDs.take {H : Hp} : ∀ {xs : List V} {ds : List PyData} (n : Nat), DDs H xs ds → DDs H (xs.take n) (ds.take n)
  | _, _, 0, _ => .nil
  | _, _, n + 1, .nil => .nil
  | _, _, n + 1, .cons a b => .cons a (b.take n)
theorem DDs.drop {H : Hp} : ∀ {xs : List V} {ds : List PyData} (n : Nat), DDs H xs ds → DDs H (xs.drop n) (ds.drop n)
  | _, _, 0, h => h
  | _, _, n + 1, .nil => .nil
  | _, _, n + 1, .cons a b => b.drop n
theorem DDs.ints {H : Hp} : ∀ ns : List Int, DDs H (ns.map V.int) (ns.map PyData.int)
  | [] => .nil
  | n :: r => .cons (.int n) (DDs.ints r)
theorem DDs.mem {H : Hp} : ∀ {xs : List V} {ds : List PyData}, DDs H xs ds → ∀ x ∈ xs, ∃ d ∈ ds, DD H x d
  | _, _, .cons a b, x, h => by
    rcases List.mem_cons.mp h with rfl | h
    · exact ⟨_, List.mem_cons_self, a⟩
    · obtain ⟨d, hd, z⟩ := b.mem x h
      exact ⟨d, List.mem_cons_of_mem _ hd, z⟩
/-- its kind, where it is no locked tuple -/
theorem DD.tyx {K : PySem.W.Frag} {H : Hp} {v : V} {d : PyData} (h : DD H v d) : ∃ t, TyX K H v (.type t) := by
  cases h with
  | non => exact ⟨_, Kd.tyx .non⟩
  | bl b => exact ⟨_, Kd.tyx (.bl b)⟩
  | int i => exact ⟨_, Kd.tyx (.int i)⟩
  | str x => exact ⟨_, Kd.tyx (.str x)⟩
  | dic a => exact ⟨_, Kd.tyx (.dic a)⟩
  | lst a b => exact ⟨_, Kd.tyx (.lst a)⟩
  | tup a b => exact ⟨_, Kd.tyx (.tup a)⟩
  | frz a b => exact ⟨_, .fTuple a⟩
section
variable {X : Cx} {pins : List (Addr × Obj)} {σ : List (Option V)} {H : Hp} {st : Shared}
/-- the table of modules stands in the base: no tracked object is it -/
theorem not_sys (k : ∃ mm, X.base.Ns sysModules mm) (I : Inv X pins σ H st) {a : Addr} {o : HO} (h : H a = some o) : sysModules ≠ a := fun z => by
  obtain ⟨mm, u, es, ep, e, _⟩ := k
  have := (I.bs _ _ e).2
  rw [z, h] at this
  cases this
mutual
theorem DD.reads (k : ∃ mm, X.base.Ns sysModules mm) (I : Inv X pins σ H st) : ∀ (d : PyData) (v : V) (u : Value), DD H v d → RelV v u → ∃ as, Reads st.heap u d as ∧ sysModules ∉ as
  | .none, _, _, h, r => by cases h; cases r; exact ⟨_, .none, by simp⟩
  | .bool b, _, _, h, r => by cases h; cases r; exact ⟨_, .bool b, by simp⟩
  | .int i, _, _, h, r => by cases h; obtain ⟨t, rfl⟩ := r; exact ⟨_, .int i t, by simp⟩
  | .str x, _, _, h, r => by cases h; obtain ⟨t, rfl⟩ := r; exact ⟨_, .str x t, by simp⟩
  | .list ds, _, _, h, r => by
    cases h with
    | lst a b =>
      cases r
      obtain ⟨_, its, n, rv, ho⟩ := (show ObjOk X.prog X.w H st.heap _ (.lst _) from I.hok _ _ a)
      obtain ⟨as, z, ne⟩ := DDs.reads k I ds _ _ b rv
      exact ⟨_, .list ho rfl rfl z, by simp [ne, not_sys k I a]⟩
  | .tuple ds, _, _, h, r => by
    cases h with
    | tup a b =>
      cases r
      obtain ⟨its, rv, ⟨o, ho, hc, n, hd⟩, _⟩ := I.tuple (.inl (.inl a))
      obtain ⟨as, z, ne⟩ := DDs.reads k I ds _ _ b rv
      exact ⟨_, .tuple ho hc hd z, ne⟩
    | frz a b =>
      cases r
      obtain ⟨its, rv, ⟨o, ho, hc, n, hd⟩, _⟩ := I.tuple (.inl (.inr ⟨_, a⟩))
      obtain ⟨as, z, ne⟩ := DDs.reads k I ds _ _ b rv
      exact ⟨_, .tuple ho hc hd z, ne⟩
  | .dict _, _, _, h, r => by
    cases h with
    | dic q =>
      cases r
      obtain ⟨z, ne⟩ := dic_reads I q
      exact ⟨_, z, by simp [ne]⟩
theorem DDs.reads (k : ∃ mm, X.base.Ns sysModules mm) (I : Inv X pins σ H st) : ∀ (ds : List PyData) (vs : List V) (us : List Value), DDs H vs ds → Vals vs us → ∃ as, ReadsAll st.heap us ds as ∧ sysModules ∉ as
  | [], _, _, h, r => by cases h; cases r; exact ⟨_, .nil, by simp⟩
  | d :: ds, _, _, h, r => by
    cases h with
    | cons a b =>
      cases r with
      | cons r t =>
        obtain ⟨as, h1, n1⟩ := DD.reads k I d _ _ a r
        obtain ⟨bs, h2, n2⟩ := DDs.reads k I ds _ _ b t
        exact ⟨_, .cons h1 h2, by simp [n1, n2]⟩
end
/-- repr(v) of such data -/
def rReprDD : List V → Hp → VK → Prop := fun xs H Q => ∃ v d W, xs = [v] ∧ DD H v d ∧ Nice W 50 d ∧ W ≤ 270000 ∧ Q (.str d.shown) H
end
end PT

set_option maxHeartbeats 4000000
/-! a list comprehension where an exception is handled -/
namespace PT
open PySem PySem.Spec PyProof.Rows L2 L2H HotX

/-- the block's context; what the def has pinned stays pinned -/
abbrev blkH (X : Cx) (s : Shared) (H : Hp) (scope : Scope) (ce : Env) (fp : List Addr) : Cx := { X.blk s H scope ce fp with pn := X.pn }
theorem hot_blk {X : Cx} {s : Shared} {H : Hp} {scope : Scope} {ce : Env} {fp : List Addr} (h : HotC X) : HotC (blkH X s H scope ce fp) := h

section
variable {X : Cx} {pins : List (Addr × Obj)} {σ : L2.St} {H : Hp} {s : Shared}
/-- what the block begins with -/
theorem blk_hot {scope : Scope} {own : List (Str × Nat)} {fp : List Addr} (I : Inv X pins σ H s) (ok : BlkOk X.N X.env.scope scope own) (nd : X.N.Nodup) (hf : ∀ b ∈ fp, FpOk X pins H b ∧ b < s.heap.objs.size) :
    Inv (blkH X s H scope (compEnvC scope (cellsFrom (s.heap.objs.size + 1) scope.names (cloFrom X.env.cells scope.names [])) s.heap.objs.size X.env) fp) [] (wipe σ (own.map Prod.snd)) H
      { s with heap := pushCells (s.heap.push { cls := .type "dict", data := .dict #[] }) scope.names } := by
  have B := block_start I ok nd hf
  have o := B.ok
  refine ⟨⟨o.mod, o.kind, o.glob, o.blt, o.above, o.inj, o.has, o.cab, o.hd, o.frames, o.stk, o.exf, o.bs, o.bsz, o.noex, o.exfs, o.funs, o.frf⟩, B.os, B.bare, B.base, B.loc, B.cell, B.free, B.freeC, ?_, B.hok, B.len⟩
  intro q hq
  have hq : q ∈ X.pn := by simpa using hq
  obtain ⟨g1, g2, g3, g4, g5⟩ := I.pin q (List.mem_append.mpr (.inl hq))
  refine ⟨pushCells_keeps _ _ _ _ (Heap.get?_push_of_some _ g1), g2, ?_, fun z => ?_, g5⟩
  · exact Nat.ne_of_lt (show q.1 < s.heap.objs.size from Heap.lt_size g1)
  · rcases List.mem_cons.mp (I.stkSub q.1 z) with e | e
    · exact g3 e
    · exact g4 e

/-- the core: the block over a walk that a handled exception does not disturb -/
theorem lc_hot {Q : VK} {elt tg iter : Expr} {ifs : List Expr} {scope : Scope} {own : List (Str × Nat)} {pos pos' : Pos} {wi : TI} {g : TG} {tt : TT} {te : TE} {use : Option (Value → Sem Unit)} {Qf : Value → Shared → Prop}
    (hot : HotC X) (nd : X.N.Nodup) (I : Inv X pins σ H s) (walk : PIH X tg iter wi) (ok : BlkOk X.N X.env.scope scope own)
    (pg : ∀ (s : Shared) (H : Hp) (C : Addr) (cl : List (Str × Addr)) (fp : List Addr), PG (blkH X s H scope (compEnvC scope cl C X.env) fp) tg g)
    (pt : ∀ (s : Shared) (H : Hp) (C : Addr) (cl : List (Str × Addr)) (fp : List Addr), PTs (blkH X s H scope (compEnvC scope cl C X.env) fp) ifs tt)
    (pe : ∀ (s : Shared) (H : Hp) (C : Addr) (cl : List (Str × Addr)) (fp : List Addr), PE (blkH X s H scope (compEnvC scope cl C X.env) fp) elt te)
    (fold : ∀ x, foldedSetIterable iter X.env x = pure x) (rd : tLc wi g tt te (own.map Prod.snd) σ H Q)
    (back : ∀ D C s' m H', Inv X pins σ H' s' → Q (.ref D) H' → s'.heap.Ns C m → FpOk X pins H' C → compPost (model X.prog X.w) X.A X.xe use Qf (.ref D) C (.ok .next) s') :
    wpAny (model X.prog X.w) X.A (comprehension (.ListComp elt [⟨tg, iter, ifs, 0⟩] scope pos) scope X.env pos' (newList []) false (eval iter X.env) use) Qf X.xe s := by
  have caught : ∀ y ∈ scope.names, y.2 = .free → ∃ c, X.env.cells.lookup y.1 = some c := fun y hy e => (ok.free y hy e).elim (fun k => I.ok.has _ (.inl k)) fun k => I.ok.has _ (.inr k)
  refine wpAny_comprehension_free (use := use) rfl fold (closure_ok caught) ok.kind (fun y hy e => by rw [ok.uniq y hy, e]) (thn (walk.run pins s σ H _ I rd) fun xv s1 h1 => thn h1 fun iv s2 h2 => ?_)
  obtain ⟨it, fp, tn, J, H2, rfl, I2, T, at2, fp2, rest⟩ := h2
  refine wpAny_newObj_type (newEnv_comp ?_) (Nat.zero_le sizeLine)
  -- the list that grows
  obtain ⟨D, eD⟩ : ∃ D, D = s2.heap.objs.size := ⟨_, rfl⟩
  rw [← eD]
  have freeD : H2 D = none := I2.hok.fresh (Nat.le_of_eq eD.symm)
  obtain ⟨W, ⟨m0, w0⟩, turn⟩ := rest D freeD
  obtain ⟨s3, e3⟩ : ∃ s3 : Shared, s3 = { s2 with heap := s2.heap.push { cls := .type "list", data := .seq ([] : List Value).toArray } } := ⟨_, rfl⟩
  have I3 : Inv X pins σ (upd H2 D (.lst [])) s3 := by
    subst e3
    refine I2.laid (t' := s2.toks) (fun b o e => Heap.get?_push_of_some _ e) (Nat.le_of_eq eD.symm) ⟨Nat.zero_le _, [], 0, .nil, ?_⟩
    subst eD
    exact Heap.get?_push_size _ rfl
  have h3 : s3.heap = s2.heap.push { cls := .type "list", data := .seq ([] : List Value).toArray } := congrArg Shared.heap e3
  have below : ∀ b ∈ fp, b < s2.heap.objs.size := fun b hb => (T.obj _ _ at2 b hb).elim fun o ho => Heap.lt_size ho.1
  have fp3 : ∀ b ∈ fp, FpOk X pins (upd H2 D (.lst [])) b ∧ b < s3.heap.objs.size := fun b hb =>
    ⟨⟨(upd_ne (by rw [eD]; exact Nat.ne_of_lt (below b hb))).trans (fp2 b hb).1, (fp2 b hb).2⟩, by rw [h3, Heap.size_push]; exact Nat.lt_succ_of_lt (below b hb)⟩
  have at3 : tn 0 s3.heap := T.keep _ _ _ at2 fun b _ o e => by rw [h3]; exact Heap.get?_push_of_some _ e
  have I4 := blk_hot I3 ok nd fp3
  have pg := pg s3 (upd H2 D (.lst [])) s3.heap.objs.size (cellsFrom (s3.heap.objs.size + 1) scope.names (cloFrom X.env.cells scope.names [])) fp
  have pt := pt s3 (upd H2 D (.lst [])) s3.heap.objs.size (cellsFrom (s3.heap.objs.size + 1) scope.names (cloFrom X.env.cells scope.names [])) fp
  have pe := pe s3 (upd H2 D (.lst [])) s3.heap.objs.size (cellsFrom (s3.heap.objs.size + 1) scope.names (cloFrom X.env.cells scope.names [])) fp
  subst e3
  show codeAny _ _ (.compStart _ 0 (.ref it) (.ref D) (compEnvC scope (cellsFrom (({ s2 with heap := s2.heap.push { cls := .type "list", data := .seq ([] : List Value).toArray } } : Shared).heap.objs.size + 1) scope.names (cloFrom X.env.cells scope.names []))
    ({ s2 with heap := s2.heap.push { cls := .type "list", data := .seq ([] : List Value).toArray } } : Shared).heap.objs.size X.env)) (compPost (model X.prog X.w) X.A X.xe use Qf (.ref D) ({ s2 with heap := s2.heap.push { cls := .type "list", data := .seq ([] : List Value).toArray } } : Shared).heap.objs.size)
    { s2 with heap := pushCells (({ s2 with heap := s2.heap.push { cls := .type "list", data := .seq ([] : List Value).toArray } } : Shared).heap.push { cls := .type "dict", data := .dict #[] }) scope.names }
  obtain ⟨s3, e3⟩ : ∃ s3 : Shared, s3 = { s2 with heap := s2.heap.push { cls := .type "list", data := .seq ([] : List Value).toArray } } := ⟨_, rfl⟩
  rw [← e3] at I3 I4 pg pt pe h3 fp3 at3 ⊢
  obtain ⟨C, eC⟩ : ∃ C, C = s3.heap.objs.size := ⟨_, rfl⟩
  rw [← eC] at I4 pg pt pe ⊢
  obtain ⟨ce, ee⟩ : ∃ ce, ce = compEnvC scope (cellsFrom (C + 1) scope.names (cloFrom X.env.cells scope.names [])) C X.env := ⟨_, rfl⟩
  have cL : ce.locals = C := by rw [ee]; rfl
  rw [← ee] at I4 pg pt pe ⊢
  obtain ⟨H3, eH⟩ : ∃ H3, H3 = upd H2 D (.lst []) := ⟨_, rfl⟩
  rw [← eH] at I3 I4 pg pt pe w0 fp3
  have nfp : ∀ b ∈ fp, H3 b = none := fun b hb => (fp3 b hb).1.1
  have es : ({ s2 with heap := pushCells (s3.heap.push { cls := .type "dict", data := .dict #[] }) scope.names } : Shared) = { s3 with heap := pushCells (s3.heap.push { cls := .type "dict", data := .dict #[] }) scope.names } := by rw [e3]
  rw [es]
  obtain ⟨s4, e4⟩ : ∃ s4 : Shared, s4 = { s3 with heap := pushCells (s3.heap.push { cls := .type "dict", data := .dict #[] }) scope.names } := ⟨_, rfl⟩
  rw [← e4] at I4 ⊢
  have at4 : tn 0 s4.heap := T.keep _ _ _ at3 fun b _ o e => by rw [e4]; exact pushCells_keeps _ _ _ _ (Heap.get?_push_of_some _ e)
  -- the walk's own objects, anywhere in the block
  have own4 : ∀ {H' : Hp}, (∀ b ∈ fp, H' b = none) → ∀ b ∈ fp, FpOk (blkH X s3 H3 scope ce fp) [] H' b := fun {H'} n b hb =>
    ⟨n b hb, (I4.ok.exf b hb).1, I4.ok.exfs b hb, .inl hb, fun x c e => (I4.ok.exf b hb).2 x c e, fun q hq => (fp3 b hb).1.2.2.2.2.2 q (List.mem_append.mpr (.inl (by simpa using hq)))⟩
  have loop : codeAny (model X.prog X.w) X.A (.compLoop (.ListComp elt [⟨tg, iter, ifs, 0⟩] scope pos) 0 (.ref it) (.ref D) ce) (compPost (model X.prog X.w) X.A X.xe use Qf (.ref D) C) s4 := by
    refine compLoop_any (fun n s' => ∃ i H', Inv (blkH X s3 H3 scope ce fp) [] (wipe σ (own.map Prod.snd)) H' s' ∧ tn i s'.heap ∧ (∀ b ∈ fp, H' b = none) ∧ W i n H') ?_ m0 ⟨0, H3, I4, at4, nfp, w0⟩
    rintro n s5 ⟨i, H5, I5, at5, n5, w5⟩
    rcases turn i n H5 w5 with ⟨stop, q⟩ | ⟨go, Nx, next, step⟩
    · refine thnF (T.done (blkH X s3 H3 scope ce fp) rfl rfl rfl (hot_blk hot) i [] s5 _ H5 _ I5 (own4 n5) at5 stop) fun r s6 ⟨hr, I6⟩ => ?_
      subst hr
      have I7 : Inv X pins σ H5 s6 := I3.call' (ch := fp) I6.os I6.base I6.hok I6.bare fun b hb =>
        let z := (fp3 b hb).1
        ⟨z.2.2.2.1, z.2.1, z.2.2.2.2.1, z.2.2.2.2.2⟩
      have nC : H5 C = none := by rw [← cL]; exact I6.free
      obtain ⟨m, ns, _⟩ := I6.loc
      have ns : s6.heap.Ns ce.locals m := ns
      rw [cL] at ns
      exact back D C s6 m H5 I7 q ns (I3.fpOk (Nat.le_of_eq eC.symm) nC)
    · refine thnF (T.item (blkH X s3 H3 scope ce fp) rfl rfl rfl (hot_blk hot) i [] s5 _ H5 _ I5 (own4 n5) at5 go) fun r s6 ⟨u, hr, h6⟩ => ?_
      subst hr
      refine thnF h6 fun _ s7 ⟨x, H7, I7, r7, y7, at7, n7⟩ => ?_
      refine thnF (pg.run _ s7 _ H7 x u _ (I7.pinned (own4 n7) (T.obj _ _ at7)) r7 (step x H7 y7)) fun _ s8 ⟨σ8, H8, I8, hw, q8⟩ => ?_
      refine thnF (pt.run _ s8 σ8 H8 _ I8 q8) fun b s9 ⟨H9, I9, q9⟩ => ?_
      have close : ∀ {s' : Shared} {H' : Hp}, Inv (blkH X s3 H3 scope ce fp) ([] ++ pinsAt fp s7.heap) σ8 H' s' → Nx H' → ∃ m, m < n ∧ ∃ i H', Inv (blkH X s3 H3 scope ce fp) [] (wipe σ (own.map Prod.snd)) H' s' ∧ tn i s'.heap ∧ (∀ b ∈ fp, H' b = none) ∧ W i m H' := by
        intro s' H' I' nx
        obtain ⟨m', less, w'⟩ := next H' nx
        have pinned : ∀ b ∈ fp, ∀ o, s7.heap.get? b = some o → s'.heap.get? b = some o ∧ H' b = none := fun b hb o e =>
          have z := I'.pin (b, o) (List.mem_append.mpr (.inr (List.mem_append.mpr (.inr (mem_pinsAt hb e)))))
          ⟨z.1, z.2.1⟩
        refine ⟨m', less, i + 1, H', (I'.unpinned (pins := [])).weak ?_ (fun j v e => ?_), T.keep _ _ _ at7 fun b hb o e => (pinned b hb o e).1, fun b hb => ?_, w'⟩
        · rw [← hw, wipe_length]
        · rw [← hw] at e
          exact (wipe_some e).1
        · obtain ⟨o, e, _⟩ := T.obj _ _ at7 b hb
          exact (pinned b hb o e).2
      cases b with
      | false =>
        rw [if_neg (by decide)]
        rw [if_neg (by decide)] at q9
        exact close I9 q9
      | true =>
        rw [if_pos rfl]
        rw [if_pos rfl] at q9
        refine thnF (pe.run _ s9 σ8 H9 _ I9 q9) fun z sA ⟨yv, HA, IA, rA, acc, eA, small, nx⟩ => ?_
        exact app_ok (X := blkH X s3 H3 scope ce fp) IA eA small rA fun sB IB => close IB nx
  exact codeAny_compStart_list loop (T.self X.A 0 _ _ _ at4 loop)
/-- x = [..] on one row, x a local -/
theorem ps_setLcH {i : Nat} {y : Str} {py : Pos} {elt tg iter : Expr} {ifs : List Expr} {scope : Scope} {own : List (Str × Nat)} {pos spos : Pos} {wi : TI} {g : TG} {tt : TT} {te : TE} (hot : HotC X) (nd : X.N.Nodup) (hy : X.N[i]? = some y) (loc : X.env.scope.names.lookup y = some .local)
    (sw : swapsWith (.ListComp elt [⟨tg, iter, ifs, 0⟩] scope pos) (some (.Name y py)) spos.line X.env = pure true) (walk : PIH X tg iter wi) (ok : BlkOk X.N X.env.scope scope own)
    (pg : ∀ (s : Shared) (H : Hp) (C : Addr) (cl : List (Str × Addr)) (fp : List Addr), PG (blkH X s H scope (compEnvC scope cl C X.env) fp) tg g)
    (pt : ∀ (s : Shared) (H : Hp) (C : Addr) (cl : List (Str × Addr)) (fp : List Addr), PTs (blkH X s H scope (compEnvC scope cl C X.env) fp) ifs tt)
    (pe : ∀ (s : Shared) (H : Hp) (C : Addr) (cl : List (Str × Addr)) (fp : List Addr), PE (blkH X s H scope (compEnvC scope cl C X.env) fp) elt te) (fold : ∀ x, foldedSetIterable iter X.env x = pure x := by intro _; rfl) :
    PS X (.Assign [.Name y py] (.ListComp elt [⟨tg, iter, ifs, 0⟩] scope pos) spos) (tAsg (tLc wi g tt te (own.map Prod.snd)) (gName i)) := by
  refine ⟨fun ps s σ H D I rd => ?_⟩
  rw [exec_Assign_Name_used _ _ _ _ sw]
  refine wpAny_bind (wpAny_standAt (wpAny_bind (wpAny_bind (thn (lc_hot (Qf := fun _ s' => SP X ps D .next s') (Q := fun x H1 => gName i x σ H1 D.nx) hot nd I walk ok pg pt pe fold rd fun L C s' m H' I' q ns ⟨f0, f1, f2, f3, f4, f5⟩ => ?_) fun _ s' hq => wpAny_pure (wpAny_pure hq)))))
  show wpAny _ _ (assign (.Name y py) X.env (.ref L)) _ _ _
  refine wpAny_assign_Name (store_ok2 (v := V.ref L) I' nd hy (.inl loc) rfl (fun s2 I2 ⟨a, sb, ha⟩ => ?_) (.inr loc))
  have apart : C ≠ a := by
    rcases ha with z | z
    · exact z ▸ f1
    · exact fun e => f4 y a z e.symm
  exact ⟨m, ns.sameBut sb apart, fun h3 sb3 => ⟨_, H', I2.turned (t' := s2.toks) (fun b o ne e => (sb3.2 b ne).trans e) f0 f1 f3 f4 f5, q⟩⟩
end
end PT

set_option maxHeartbeats 2000000
/-! len(set(t)), t a tuple of any ints -/
namespace PT
open PySem PySem.Spec PyProof.Rows L2
theorem perm_of_sub : ∀ {L ns : List Int}, L.Nodup → (∀ x ∈ L, x ∈ ns) → ns.length ≤ L.length → L.Perm ns
  | [], ns, _, _, h => by
    have e : ns = [] := List.eq_nil_of_length_eq_zero (Nat.le_zero.mp h)
    rw [e]
  | x :: L, ns, nd, s, h => by
    obtain ⟨n1, n2⟩ := List.nodup_cons.mp nd
    have hx := s x List.mem_cons_self
    have le := List.length_erase_of_mem hx
    have l0 := List.length_pos_of_mem hx
    have ih := perm_of_sub (L := L) (ns := ns.erase x) n2 (fun y hy => (List.mem_erase_of_ne (fun z : y = x => n1 (by rw [← z]; exact hy))).mpr (s y (List.mem_cons_of_mem _ hy))) (by
      rw [le]
      have z : (x :: L).length = L.length + 1 := rfl
      omega)
    exact (List.Perm.cons x ih).trans (List.perm_cons_erase hx).symm
section
variable {X : Cx}
theorem setR_any {w : World} {h : Heap} {a : Addr} {ns : List Int} {c : Nat} (R : SetR w h a (fun j => decide (j ∈ ns)) c) : c = ns.length ↔ ns.Nodup := by
  refine ⟨fun e => ?_, setR_len R⟩
  obtain ⟨o, es, ep, t, ho, hx, hd, g, nk, hm, hb, hf, hn, _⟩ := R
  have p : (es.toList.map keyOf).Perm ns := perm_of_sub nk (fun k hk => by
    have z := (hm k).mpr hk
    exact of_decide_eq_true z) (by
    have q : es.toList.length = es.size := Array.length_toList
    rw [List.length_map]
    omega)
  exact p.nodup_iff.mp nk
def tLenSetG (K : PySem.W.Frag) (ta : TE) : TE := fun σ H Q => ta σ H fun x H1 => ∃ (l : Addr) (ns : List Int), x = .ref l ∧ SqT K H1 l (ns.map V.int) ∧ ns.length ≤ 1000 ∧ ∀ c : Nat, (c = ns.length ↔ ns.Nodup) → Q (.int (c : Nat)) H1
theorem pe_lenSetG {a : Expr} {ta : TE} {p p2 q pos : Pos} (hg : Gl X "len") (hm : X.mg "len" = none) (hg2 : Gl X "set") (hm2 : X.mg "set" = none) (ha : PE X a ta) (hc : X.calm = true := by rfl)
    (na : starEach [a] X.env = (false, eval a X.env) :: starEach [] X.env := by rfl) : PE X (.Call (.Name "len" p) [.Call (.Name "set" p2) [a] [] q] [] pos) (tLenSetG X.K ta) := by
  constructor
  intro pins st σ H Q I h
  refine Call_ (ld_blt I hg hm boot_len (PyProof.Rows.callWith_builtin1 (PyProof.Rows.args_cons ?_ rfl) rfl rfl))
  refine Call_ (ld_blt I hg2 hm2 boot_set (PyProof.Rows.callWith_type1 (PyProof.Rows.args_cons (thn (ha.run pins st σ H _ I h) fun v s1 ⟨x, H1, I1, r1, q1⟩ => PyProof.Rows.args_nil ?_) na) na rfl))
  obtain ⟨l, ns, rfl, hq, hl, q1⟩ := q1
  cases r1
  obtain ⟨its, r, pl, hz⟩ := I1.tuple hq
  have hi : IntsAre its.toArray.toList ns := by simpa using ints_of_vals r
  refine call_set_tupI ns (I1.ok.hd hc) pl hi (by unfold scanBound; omega) fun h' tk c R hcn hk => PyProof.Rows.args_nil ?_
  have ec := setR_any R
  have hcl : c ≤ ns.length := hcn
  obtain ⟨o, es, ep, t, ho, hx, hd, _, _, _, hb, hf, hn, _⟩ := R
  exact call_len_set ho hx hd hf (by omega) ⟨.int (c : Nat), H1, (I1.kept hk).tok _, ⟨_, by rw [hn]⟩, q1 c ec⟩
end
end PT

set_option maxHeartbeats 4000000
/-! defs that raise (the context of what they raise is none); what a class of errors is -/
namespace PT
open PySem PySem.Spec PyProof.Rows L2 L2H HotX
section
variable {Pg : Program} {wo : World} {K : PySem.W.Frag} {mg : Str → Option Value} {bs : Heap} {at_ : Addr} {fn : FuncData} {ps : List Str} {sp sp' : Sp}
theorem Fun.okN {name qual : Str} {st : Stmt} {N : List Str} {lv : Nat} (F : Fun K name qual st at_ fn) (S : FnScope N ps (defScope st)) (ln : ∀ vs H Q E, sp vs H Q E → vs.length = ps.length)
    (rd : ∀ (cdv : Value) (A : Around) (out : List Env) (s : Shared) (H : Hp) (vs : List V) (Q : VK) (E : XK), Room lv (A.deeper (envOfC qual (defScope st) s.heap.objs.size at_ cdv)) → sp vs H Q E →
      ∃ t, PSs (cxOf (L2N.CX Pg wo) Pg wo K mg bs N qual (defScope st) at_ cdv A out s H E) (defBody st) t ∧ t ⟨fun _ H2 => Q .non H2, Q, fun _ _ => False, fun _ _ => False⟩ (start N vs) H) :
    FnOk Pg wo K mg bs (L2N.CX Pg wo) (lv + 1) at_ fn ps sp := by
  obtain ⟨_, _, _, _, _, _, cdv, _, _, e, lk, cd⟩ := F.ex
  subst e
  exact fn_of lk cd S ln fun A out s H vs Q E room hs => rd cdv A out s H vs Q E room hs
/-- what lets nothing out lets nothing else out -/
theorem FnOk.quiet {CX : CXT} {lv : Nat} (F : FnOk Pg wo K mg bs CX0 lv at_ fn ps sp) : FnOk Pg wo K mg bs CX lv at_ fn ps sp := by
  refine ⟨F.len, fun A out st H given us vs Q E room en bd rv h => codeAny_mono (F.run A out st H given us vs Q E room en bd rv h) ?_⟩
  rintro (er | fl) st2 z
  · exact z.elim
  · cases fl <;> exact z
theorem FnOk.up {CX : CXT} {lv lw : Nat} (F : FnOk Pg wo K mg bs CX lv at_ fn ps sp) (le : lv ≤ lw) : FnOk Pg wo K mg bs CX lw at_ fn ps sp :=
  ⟨F.len, fun A out st H given us vs Q E room => F.run A out st H given us vs Q E (room.mono le)⟩
theorem FnOk.or {CX : CXT} {lv : Nat} (F : FnOk Pg wo K mg bs CX lv at_ fn ps sp) (G : FnOk Pg wo K mg bs CX lv at_ fn ps sp') : FnOk Pg wo K mg bs CX lv at_ fn ps (fun vs H Q E => sp vs H Q E ∨ sp' vs H Q E) :=
  ⟨fun vs H Q E h => h.elim (F.len vs H Q E) (G.len vs H Q E), fun A out st H given us vs Q E room en bd rv h => h.elim (F.run A out st H given us vs Q E room en bd rv) (G.run A out st H given us vs Q E room en bd rv)⟩
end
/-! ### the classes -/
/-- the j-th class, among all: what isinstance says of it, and that except P takes it -/
def errB (K : PySem.W.Frag) (P : Addr) (Cs : List Addr) (j : Nat) : Bool :=
  let D := Cs.getD j 0
  (PySem.W.clsIn K D).isSome && (PySem.W.findIn K (.ref D) "__getattribute__" == some (some (.builtin "BaseException.__getattribute__"))) && (PySem.W.findIn K (.ref D) "__getattr__").isSome && (PySem.W.subIn K (.ref D) (.type "BaseException") == some true) &&
    (PySem.W.findIn K (.ref D) "__class__" == some (some (.builtin "object.__class__"))) && (PySem.W.mroIn K D (.type "object") == some true) && (PySem.W.kitOne K (.ref D) (.type "ValueError") == some true) && (PySem.W.exmOne K (.ref D) (.ref P) == some true) &&
    (PySem.W.kitOne K (.ref D) (.ref P) == some true) && (List.range Cs.length).all fun i => PySem.W.kitOne K (.ref D) (.ref (Cs.getD i 0)) == some (i == j)
/-- what holds of every class object -/
def allB (K : PySem.W.Frag) : Bool :=
  (PySem.W.specialIn K (.builtin "object.__class__") "__get__" == some (some (.builtin "getset_descriptor.__get__"))) && (PySem.W.takesIn K (.builtin "object.__class__") == some true)
/-- all of them -/
structure Errs (K : PySem.W.Frag) (P : Addr) (Cs : List Addr) : Prop where
  all : allB K = true
  each : (List.range Cs.length).all (errB K P Cs) = true
theorem Errs.at {K : PySem.W.Frag} {P : Addr} {Cs : List Addr} (h : Errs K P Cs) {j : Nat} (lt : j < Cs.length) : errB K P Cs j = true := by
  have z := List.all_eq_true.mp h.each j (List.mem_range.mpr lt)
  exact z
theorem Errs.caught {K : PySem.W.Frag} {P : Addr} {Cs : List Addr} (h : Errs K P Cs) {j : Nat} (lt : j < Cs.length) : PySem.W.exmOne K (.ref (Cs.getD j 0)) (.ref P) = some true := by
  have z := h.at lt
  unfold errB at z
  simp only [Bool.and_eq_true, beq_iff_eq] at z
  exact z.1.1.2
theorem Errs.value {K : PySem.W.Frag} {P : Addr} {Cs : List Addr} (h : Errs K P Cs) {j : Nat} (lt : j < Cs.length) : PySem.W.kitOne K (.ref (Cs.getD j 0)) (.type "ValueError") = some true := by
  have z := h.at lt
  unfold errB at z
  simp only [Bool.and_eq_true, beq_iff_eq] at z
  exact z.1.1.1.2
theorem Errs.is {K : PySem.W.Frag} {P : Addr} {Cs : List Addr} (h : Errs K P Cs) {j i : Nat} (lt : j < Cs.length) (li : i < Cs.length) : PySem.W.kitOne K (.ref (Cs.getD j 0)) (.ref (Cs.getD i 0)) = some (i == j) := by
  have z := h.at lt
  unfold errB at z
  simp only [Bool.and_eq_true, beq_iff_eq] at z
  have y := List.all_eq_true.mp z.2 i (List.mem_range.mpr li)
  exact beq_iff_eq.mp y
theorem Errs.kit {K : PySem.W.Frag} {P : Addr} {Cs : List Addr} (h : Errs K P Cs) {j : Nat} (lt : j < Cs.length) {x : Addr} {ox : Obj} {od : Option Obj} : PySem.W.KitX K (.ref x) (.ref (Cs.getD j 0)) (fun hp => PySem.W.InstAt hp x ox (Cs.getD j 0) od) := by
  have z := h.at lt
  unfold errB at z
  simp only [Bool.and_eq_true, beq_iff_eq] at z
  obtain ⟨⟨⟨⟨⟨⟨⟨⟨⟨z1, z2⟩, z3⟩, z4⟩, z5⟩, z6⟩, z7⟩, z8⟩, z9⟩, z10⟩ := z
  have y := h.all
  unfold allB at y
  simp only [Bool.and_eq_true, beq_iff_eq] at y
  obtain ⟨gt, eg⟩ := Option.isSome_iff_exists.mp z3
  exact PySem.W.kitx_exc z1 z2 eg z4 z5 y.1 y.2 z6

/-! ### isinstance of the error that is handled -/
section
variable {X : Cx} {P a : Addr} {Cs : List Addr} {oe : Obj} {j : Nat}
/-- what is known of it -/
structure Held (X : Cx) (a : Addr) (oe : Obj) (D : Addr) (d : Option Addr) : Prop where
  pin : (a, oe) ∈ X.pn
  cls : L2N.Zn (.ref D) d oe
  fld : ∃ vs, oe.data = .fields vs
theorem Held.inst {pins : List (Addr × Obj)} {σ : L2.St} {H : Hp} {s : Shared} {D : Addr} {d : Option Addr} (h : Held X a oe D d) (I : Inv X pins σ H s) (hd : ∀ dx, d = some dx → ∃ u, s.heap.get? dx = some u) : ∃ od, PySem.W.InstAt s.heap a oe D od := by
  obtain ⟨at1, _⟩ := I.pin (a, oe) (List.mem_append.mpr (.inl h.pin))
  obtain ⟨vs, ev⟩ := h.fld
  obtain ⟨c1, c2, _⟩ := h.cls
  obtain ⟨oc, od0, dt, sl⟩ := oe
  dsimp only at c1 c2 ev
  subst c1 c2 ev
  cases od0 with
  | none => exact ⟨none, at1, rfl, rfl, trivial⟩
  | some dx =>
    obtain ⟨u, eu⟩ := hd dx rfl
    exact ⟨some u, at1, rfl, rfl, eu⟩
/-- one class -/
def rIsH (K : PySem.W.Frag) (a D : Addr) (d : Option Addr) : List V → Hp → VK → Prop := fun xs H Q => (∀ dx, d = some dx → ∃ fs, H dx = some (.xd fs)) ∧ ∃ (c : V) (cv : Value) (b : Bool), xs = [.ref a, c] ∧ ClsV c cv ∧ PySem.W.kitOne K (.ref D) cv = some b ∧ Q (.bl b) H
/-- a tuple of them, that was just laid -/
def rIsHT (K : PySem.W.Frag) (a D : Addr) (d : Option Addr) : List V → Hp → VK → Prop := fun xs H Q => (∀ dx, d = some dx → ∃ fs, H dx = some (.xd fs)) ∧ ∃ (tp : Addr) (cs : List V) (us : List Value) (b : Bool), xs = [.ref a, .ref tp] ∧ H tp = some (.tup cs) ∧ Paired ClsV cs us ∧ PySem.W.kitAny K (.ref D) us = some b ∧ Q (.bl b) H
theorem own_there {pins : List (Addr × Obj)} {σ : L2.St} {H : Hp} {s : Shared} {d : Option Addr} (I : Inv X pins σ H s) (n : ∀ dx, d = some dx → ∃ fs, H dx = some (.xd fs)) : ∀ dx, d = some dx → ∃ u, s.heap.get? dx = some u := fun dx e => by
  obtain ⟨fs, hx⟩ := n dx e
  obtain ⟨mA, h1, _⟩ := (show ObjOk X.prog X.w H s.heap dx (.xd fs) from I.hok dx _ hx)
  obtain ⟨o, _, _, e2, _⟩ := h1
  exact ⟨o, e2⟩
theorem call_isH {d : Option Addr} (G : Errs X.K P Cs) (lt : j < Cs.length) (h : Held X a oe (Cs.getD j 0) d) : CallR X (.builtin "isinstance") (rIsH X.K a (Cs.getD j 0) d) := by
  intro pins s σ H xs us Q I rv hw
  obtain ⟨hd, c, cv, b, rfl, kc, e, q⟩ := hw
  obtain ⟨u1, u2, rfl, r1, r2⟩ := vals2 rv
  cases (show u1 = Value.ref a from r1)
  cases kc.eq r2
  obtain ⟨od, J⟩ := h.inst I (own_there I hd)
  exact PySem.W.kia_one (G.kit lt) I.kIn J e (fun z => nomatch z) fun tk => ⟨.bl b, H, I.tok tk, rfl, q⟩
end

/-! ### defs that are given the error that is handled -/
/-- what such a def promises: a its address, c its class, d its own dict -/
structure FnE (Pg : Program) (wo : World) (K : PySem.W.Frag) (mg : Str → Option Value) (bs : Heap) (lv : Nat) (at_ : Addr) (fn : FuncData) (ps : List Str) (sp : Addr → Value → Option Addr → Sp) : Prop where
  len : ∀ a c d vs H Q E, sp a c d vs H Q E → vs.length = ps.length
  run : ∀ (A : Around) (out : List Env) (st : Shared) (H : Hp) (given : Args) (us : List Value) (vs : List V) (Q : VK) (E : XK) (p : Addr × Obj) (c : Value) (d : Option Addr),
    RoomH lv A → Hot1 A p → PinOk out H st p → L2N.Zn c d p.2 → Env0 Pg wo K mg bs A out st H → BindsTo st fn given (ps.zip us) → Vals vs us → sp p.1 c d vs H Q E →
      codeAny (model Pg wo) A (.call (.ref at_) given) (CR CX0 out Pg wo H st Q E) st
section
variable {Pg : Program} {wo : World} {K : PySem.W.Frag} {mg : Str → Option Value} {bs : Heap} {at_ : Addr} {fn : FuncData} {ps : List Str}
/-- from the reading of its body -/
theorem Fun.okE {name qual : Str} {st : Stmt} {N : List Str} {lv : Nat} {sp : Addr → Value → Option Addr → Sp} (F : Fun K name qual st at_ fn) (S : FnScope N ps (defScope st)) (ln : ∀ a c d vs H Q E, sp a c d vs H Q E → vs.length = ps.length)
    (rd : ∀ (cdv : Value) (A : Around) (out : List Env) (s : Shared) (H : Hp) (vs : List V) (Q : VK) (E : XK) (a : Addr) (oe : Obj) (c : Value) (d : Option Addr), Hot1 A (a, oe) → L2N.Zn c d oe → RoomH lv (A.deeper (envOfC qual (defScope st) s.heap.objs.size at_ cdv)) → sp a c d vs H Q E →
      ∃ t, PSs (cxH CX0 Pg wo K mg bs N qual (defScope st) at_ cdv A out s H E (a, oe)) (defBody st) t ∧ t ⟨fun _ H2 => Q .non H2, Q, fun _ _ => False, fun _ _ => False⟩ (start N vs) H) :
    FnE Pg wo K mg bs (lv + 1) at_ fn ps sp := by
  obtain ⟨_, _, _, _, _, _, cdv, _, _, e, lk, cd⟩ := F.ex
  subst e
  refine ⟨ln, fun A out s H given us vs Q E p c d room hot pin zn en bd rv hs => ?_⟩
  obtain ⟨a, oe⟩ := p
  have kin : K.In s.heap := en.mod.kin.keeps fun b o z => (en.bs b o z).1
  have nol : s.heap.NoLimit := en.mod.nolimit.keeps fun b o z => (en.bs b o z).1
  have kinds : ∀ y ∈ ps.zip us, (defScope st).names.lookup y.1 = some .local ∨ ((defScope st).names.lookup y.1 = some .cell ∧ ((cellsFrom (s.heap.objs.size + 1) (defScope st).names []).lookup y.1).isSome = true) := by
    rintro ⟨n, v⟩ hy
    exact (S.par n (List.of_mem_zip hy).1).imp id fun z => ⟨z, PySem.W.cellsFrom_some _ _ _ (.inl z)⟩
  refine codeAny_call_function room.depth (kin _ _ lk) rfl S.co S.gen rfl (PySem.W.codeRec_of kin cd) (bd _ _ _ _ (wpAny_newFunctionEnv_cells S.kind kinds fun env ee s1 x => ?_))
  subst ee
  refine ⟨nol.keeps x.toInCall.keep, codeAny_func ?_⟩
  obtain ⟨t, ht, hq⟩ := rd cdv A out s H vs Q E a oe c d hot zn (room.deeper _) hs
  have I : Inv (cxH CX0 Pg wo K mg bs N qual (defScope st) at_ cdv A out s H E (a, oe)) [] (start N vs) H s1 := inv_startH S pin en (ln _ _ _ _ _ _ _ hs) rv x
  refine wpAny_mono (ht.run [] s1 (start N vs) H _ I hq) (fun fl s2 z => ?_) fun _ _ z => z
  cases fl with
  | ret u =>
    obtain ⟨v, σ2, H2, J, rr, q⟩ := z
    exact ⟨v, H2, J.os, J.bare, J.base, J.hok, rr, q⟩
  | next =>
    obtain ⟨σ2, H2, J, q⟩ := z
    exact ⟨V.non, H2, J.os, J.bare, J.base, J.hok, rfl, q⟩
  | brk =>
    obtain ⟨_, _, _, q⟩ := z
    cases q
  | cont =>
    obtain ⟨_, _, _, q⟩ := z
    cases q
end
section
variable {X : Cx} {lv : Nat} {at_ : Addr} {fn : FuncData} {ps : List Str} {sp : Addr → Value → Option Addr → Sp}
/-- f(e, ..) in the suite that handles e -/
def tCallE (sp : Addr → Value → Option Addr → Sp) (a : Addr) (c : Value) (d : Option Addr) (t : TA) : TE := fun σ H Q => t σ H fun vs H1 => sp a c d vs H1 Q E0
theorem pe_callE {a : Addr} {oe : Obj} {c : Value} {d : Option Addr} {name : Str} {p1 p2 : Pos} {a1 : Expr} {rest : List Expr} {t : TA} (F : FnE X.prog X.w X.K X.mg X.base lv at_ fn ps sp) (room : RoomH lv X.A) (hot : Hot1 X.A (a, oe)) (pin : (a, oe) ∈ X.pn) (zn : L2N.Zn c d oe)
    (gl : Gl X name) (is : X.mg name = some (.ref at_)) (kp : PySem.W.keepIn X.K (.ref at_) = true) (bd : Binds X.K fn ps []) (hargs : PA X (a1 :: rest) t)
    (c1 : (name == ("__debug__" : Str)) = false := by decide) (c2 : starEach (a1 :: rest) X.env = (false, eval a1 X.env) :: starEach rest X.env := by rfl)
    (c3 : (backTo p2 (starEach rest X.env)).any (·.1) = false := by rfl) : PE X (.Call (.Name name p1) (a1 :: rest) [] p2) (tCallE sp a c d t) := by
  constructor
  intro pins st σ H Q J h
  refine wpAny_Call_Name_kw (ld_glob J gl is (PySem.W.callWith_K (h₀ := X.base) J.ok.mod.kin kp (thn (hargs.run p2 pins st σ H _ J h) ?_) c2 c3) c1)
  rintro us st2 ⟨vs, H2, J2, rv, q⟩
  refine ⟨J2.kIn, ?_⟩
  have count : us.length = ps.length := rv.length.symm.trans (F.len _ _ _ _ _ _ _ q)
  have b := bd st2 us J2.kIn (by rw [List.append_nil]; exact count)
  rw [List.append_nil] at b
  obtain ⟨g1, g2, g3, g4, g5⟩ := J2.pin (a, oe) (List.mem_append.mpr (.inl pin))
  have pok : PinOk X.stack H2 st2 (a, oe) := ⟨g1, g2, fun z => (List.mem_cons.mp (J2.stkSub a z)).elim g3 g4, g5⟩
  refine wpAny_call (codeAny_mono (F.run X.A X.stack st2 H2 ⟨us, []⟩ us vs Q E0 (a, oe) c d room hot pok zn J2.env0 b rv q) ?_)
  rintro (er | fl) st3 z
  · exact z.elim
  · cases fl <;> first | exact J2.after z | exact z.elim
end
end PT

set_option maxHeartbeats 4000000
/-! an object with three fields: how it looks, a field as a target among several, binding of a keyword-only parameter -/
namespace PT
open PySem PySem.Spec PyProof.Rows L2
/-- what isinstance asks of a class -/
structure IsC (K : PySem.W.Frag) (C : Addr) : Prop where
  cl : Cls K C
  ha : PySem.W.findIn K (.ref C) "__class__" = some (some (.builtin "object.__class__"))
  hn : PySem.W.specialIn K (.builtin "object.__class__") "__get__" = some (some (.builtin "getset_descriptor.__get__"))
  htk : PySem.W.takesIn K (.builtin "object.__class__") = some true
  hm : PySem.W.mroIn K C (.type "object") = some true
  me : PySem.W.kitOne K (.ref C) (.ref C) = some true
/-- a field among several targets -/
def gFld (K : PySem.W.Frag) (to : TE) (f : Str) : TG := fun v σ H Q => to σ H fun x H1 => ∃ a C dx fs, x = .ref a ∧ H1 a = some (.ins C dx fs) ∧ Cls K C ∧ NoAttr K C f ∧ fs.length < 1000 ∧ Q σ (upd H1 a (.ins C dx (putF f v fs)))
theorem okK {P : Program} {w : World} {K : PySem.W.Frag} {mg : Str → Option Value} {base : Heap} {x qual : Str} {params : Arguments} {body : List Stmt} {scope : Scope} {dvs : List V} {kws : List (Str × V)} {f : Addr} {fd : FuncData} {N ps : List Str} {k : Nat} {sp : Sp} (F : FunD K x qual params body scope dvs kws f fd) (S : FnScope N ps scope) (len : ∀ vs H Q E, sp vs H Q E → vs.length = ps.length)
    (hbody : ∀ (cdv : Value) (A : Around) (outer : List Env) (s : Shared) (H : Hp) (vs : List V) (Q : VK) (E : XK), Room k (A.deeper (envOfC qual scope s.heap.objs.size f cdv)) → sp vs H Q E →
      ∃ t, PSs (cxOf CX0 P w K mg base N qual scope f cdv A outer s H E).nox body t ∧ t { nx := fun _ H' => Q .non H', rt := Q } (start N vs) H) : FnOk P w K mg base CX0 (k + 1) f fd ps sp :=
  F.ok S len fun cdv A outer s H vs Q E hr h => let ⟨t, p, q⟩ := hbody cdv A outer s H vs Q E hr h; ⟨t, p.nox, q⟩
/-! ### the three fields -/
theorem cb_ : ¬ (("customers" : Str) = "boxes") := by decide +kernel
theorem cp_ : ¬ (("customers" : Str) = "past") := by decide +kernel
theorem bp_ : ¬ (("boxes" : Str) = "past") := by decide +kernel
def lvF (p q r : Addr) : List (Str × V) := [("customers", .ref p), ("boxes", .ref q), ("past", .ref r)]
theorem lvF_made (p q r : Addr) : putF "past" (.ref r) (putF "boxes" (.ref q) (putF "customers" (.ref p) [])) = lvF p q r := by
  have e1 : putF "boxes" (.ref q) (putF "customers" (.ref p) []) = [(("customers" : Str), V.ref p), ("boxes", .ref q)] := by
    show (if ("customers" : Str) = "boxes" then [(("customers" : Str), V.ref q)] else (("customers" : Str), V.ref p) :: putF "boxes" (V.ref q) []) = _
    rw [if_neg cb_]
    rfl
  rw [e1]
  show (if ("customers" : Str) = "past" then _ else (("customers" : Str), V.ref p) :: (if ("boxes" : Str) = "past" then _ else (("boxes" : Str), V.ref q) :: [(("past" : Str), V.ref r)])) = _
  rw [if_neg cp_, if_neg bp_]
  rfl
/-! ### what stands beside a live plant is kept -/
/-- all tuples are kept -/
def KT (H H' : Hp) : Prop := ∀ c xs, H c = some (.tup xs) → H' c = some (.tup xs)
theorem KT.refl (H : Hp) : KT H H := fun _ _ h => h
theorem KT.trans {H H1 H2 : Hp} (a : KT H H1) (b : KT H1 H2) : KT H H2 := fun c xs h => b c xs (a c xs h)
theorem Same.kt {H H' : Hp} (e : Same H H') : KT H H' := fun c _ h => e c _ h
theorem KT.plant {H H' : Hp} (k : KT H H') {p : Addr} {pl : List Int} (h : PlantAt H p pl) : PlantAt H' p pl := ⟨k _ _ h.at_, h.ok⟩
/-- an operation: its name and its numbers -/
abbrev Op := Str × List Int
def opV (op : Op) : List V := .str op.1 :: op.2.map V.int
def OpAt (H : Hp) (o : V) (op : Op) : Prop := ∃ a, o = .ref a ∧ H a = some (.tup (opV op))
theorem OpAt.kt {H H' : Hp} (k : KT H H') {o : V} {op : Op} (h : OpAt H o op) : OpAt H' o op := let ⟨a, e, x⟩ := h; ⟨a, e, k _ _ x⟩
/-- what is past: an operation, and what was before it -/
structure Ent where
  op : Op
  pl : List Int
  ss : List Int
/-- a plant and a stock that stand in the heap -/
structure StAt (H : Hp) (p q : Addr) (pl ss : List Int) : Prop where
  P : PlantAt H p pl
  S : H q = some (.tup (ss.map V.int))
  ls : ss.length = pl.length + 1
  nd : ss.Nodup
theorem StAt.kt {H H' : Hp} (k : KT H H') {p q : Addr} {pl ss : List Int} (h : StAt H p q pl ss) : StAt H' p q pl ss := ⟨k.plant h.P, k _ _ h.S, h.ls, h.nd⟩
def EntAt (H : Hp) (v : V) (e : Ent) : Prop := ∃ a o p q, v = .ref a ∧ H a = some (.tup [o, .ref p, .ref q]) ∧ OpAt H o e.op ∧ StAt H p q e.pl e.ss
theorem EntAt.kt {H H' : Hp} (k : KT H H') {v : V} {e : Ent} (h : EntAt H v e) : EntAt H' v e := let ⟨a, o, p, q, h1, h2, h3, h4⟩ := h; ⟨a, o, p, q, h1, k _ _ h2, h3.kt k, h4.kt k⟩
structure PastAt (H : Hp) (vs : List V) (es : List Ent) : Prop where
  len : vs.length = es.length
  at_ : ∀ (i : Nat) (v : V) (e : Ent), vs[i]? = some v → es[i]? = some e → EntAt H v e
theorem PastAt.kt {H H' : Hp} (k : KT H H') {vs : List V} {es : List Ent} (h : PastAt H vs es) : PastAt H' vs es := ⟨h.len, fun i v e a b => (h.at_ i v e a b).kt k⟩
theorem PastAt.nil {H : Hp} : PastAt H [] [] := ⟨rfl, fun i v e h => by simp at h⟩
theorem PastAt.snoc {H : Hp} {vs : List V} {es : List Ent} {v : V} {e : Ent} (h : PastAt H vs es) (x : EntAt H v e) : PastAt H (vs ++ [v]) (es ++ [e]) := by
  refine ⟨by rw [List.length_append, List.length_append, h.len]; rfl, fun i u f a b => ?_⟩
  have lv := h.len
  rcases Nat.lt_or_ge i vs.length with c | c
  · rw [List.getElem?_append_left c] at a
    rw [List.getElem?_append_left (by omega)] at b
    exact h.at_ i u f a b
  · rw [List.getElem?_append_right c] at a
    rw [List.getElem?_append_right (by omega)] at b
    rw [lv] at a
    obtain ⟨z, ez⟩ : ∃ z, z = i - es.length := ⟨_, rfl⟩
    rw [← ez] at a b
    cases z with
    | zero => cases a; cases b; exact x
    | succ z => simp at a
theorem PastAt.dropLast {H : Hp} {vs : List V} {es : List Ent} {e : Ent} (h : PastAt H vs (es ++ [e])) : ∃ us u, vs = us ++ [u] ∧ PastAt H us es ∧ EntAt H u e := by
  have lv := h.len
  rw [List.length_append] at lv
  have ne : vs ≠ [] := fun z => by rw [z] at lv; simp at lv
  have e1 := (List.dropLast_concat_getLast ne).symm
  obtain ⟨us, u, rfl⟩ : ∃ us u, vs = us ++ [u] := ⟨_, _, e1⟩
  have lu : us.length = es.length := by
    rw [List.length_append] at lv
    exact Nat.add_right_cancel lv
  refine ⟨us, u, rfl, ⟨lu, fun i v f a b => h.at_ i v f ?_ ?_⟩, h.at_ us.length u e ?_ ?_⟩
  · rw [List.getElem?_append_left (List.getElem?_eq_some_iff.mp a).1]; exact a
  · rw [List.getElem?_append_left (List.getElem?_eq_some_iff.mp b).1]; exact b
  · rw [List.getElem?_append_right (Nat.le_refl _), Nat.sub_self]; rfl
  · rw [lu, List.getElem?_append_right (Nat.le_refl _), Nat.sub_self]; rfl
/-- a live plant stands at x; what is past stands in the list at r -/
structure LiveAt (C : Addr) (H : Hp) (x r p q : Addr) (pl ss : List Int) (es : List Ent) : Prop where
  ob : ∃ dx, H x = some (.ins C dx (lvF p q r))
  st : StAt H p q pl ss
  pa : ∃ vs, H r = some (.lst vs) ∧ PastAt H vs es
theorem LiveAt.mv {C : Addr} {H H' : Hp} {x r p q : Addr} {pl ss : List Int} {es : List Ent} (h : LiveAt C H x r p q pl ss es) (k : KT H H') (hx : H' x = H x) (hr : H' r = H r) : LiveAt C H' x r p q pl ss es :=
  let ⟨dx, e⟩ := h.ob; let ⟨vs, e2, pa⟩ := h.pa; ⟨⟨dx, hx.trans e⟩, h.st.kt k, ⟨vs, hr.trans e2, pa.kt k⟩⟩
theorem LiveAt.same {C : Addr} {H H' : Hp} {x r p q : Addr} {pl ss : List Int} {es : List Ent} (h : LiveAt C H x r p q pl ss es) (s : Same H H') : LiveAt C H' x r p q pl ss es :=
  let ⟨_, e⟩ := h.ob; let ⟨_, e2, _⟩ := h.pa; h.mv (Same.kt s) ((s _ _ e).trans e.symm) ((s _ _ e2).trans e2.symm)
/-- all but the object and its list is kept -/
def Bar2 (x r : Addr) (H H' : Hp) : Prop := ∀ c o, c ≠ x → c ≠ r → H c = some o → H' c = some o
theorem Bar2.refl (x r : Addr) (H : Hp) : Bar2 x r H H := fun _ _ _ _ h => h
theorem Bar2.trans {x r : Addr} {H H1 H2 : Hp} (a : Bar2 x r H H1) (b : Bar2 x r H1 H2) : Bar2 x r H H2 := fun c o h1 h2 h => b c o h1 h2 (a c o h1 h2 h)
theorem LiveAt.neT {C : Addr} {H : Hp} {x r p q a : Addr} {pl ss : List Int} {es : List Ent} {xs : List V} (h : LiveAt C H x r p q pl ss es) (e : H a = some (.tup xs)) : a ≠ x ∧ a ≠ r :=
  let ⟨_, e1⟩ := h.ob; let ⟨_, e2, _⟩ := h.pa; ⟨ne_of e e1 (by intro z; cases z), ne_of e e2 (by intro z; cases z)⟩
theorem LiveAt.xr {C : Addr} {H : Hp} {x r p q : Addr} {pl ss : List Int} {es : List Ent} (h : LiveAt C H x r p q pl ss es) : x ≠ r :=
  let ⟨_, e1⟩ := h.ob; let ⟨_, e2, _⟩ := h.pa; ne_of e1 e2 (by intro z; cases z)
theorem Bar2.kt {C : Addr} {H H' : Hp} {x r p q : Addr} {pl ss : List Int} {es : List Ent} (b : Bar2 x r H H') (h : LiveAt C H x r p q pl ss es) : KT H H' := fun c xs e => b c _ (h.neT e).1 (h.neT e).2 e
end PT

set_option maxHeartbeats 4000000
/-! len(x) where the class has its own __len__; == and != where it has its own __eq__ -/
namespace PT
open PySem PySem.Spec PyProof.Rows L2
section
variable {X : Cx} {CX : CXT} {C f : Addr} {fd : FuncData} {ps : List Str} {k : Nat} {sp : Sp} {E : XK}
end
end PT

set_option maxHeartbeats 4000000
/-! a method that may raise, called where that is caught -/
namespace PT
open PySem PySem.Spec PyProof.Rows L2
section
variable {X : Cx} {CX : CXT} {k : Nat} {f C : Addr} {fd : FuncData} {ps : List Str} {sp : Sp} {E : L2.St → XK} {m : Str} {pos apos : Pos} {e o : Expr} {es : List Expr} {ta : TE} {t : TA}
def tMethX0 (C : Addr) (m : Str) (sp : Sp) (E : L2.St → XK) (ta : TE) : TE := fun σ H Q => ta σ H fun x H1 => ∃ a dx fs, x = .ref a ∧ H1 a = some (.ins C dx fs) ∧ fs.lookup m = none ∧ sp [x] H1 Q (E σ)
def tMethX (C : Addr) (m : Str) (sp : Sp) (E : L2.St → XK) (ta : TE) (t : TA) : TE := fun σ H Q => ta σ H fun x H1 => ∃ a dx fs, x = .ref a ∧ H1 a = some (.ins C dx fs) ∧ fs.lookup m = none ∧ t σ H1 fun vs H2 => sp (x :: vs) H2 Q (E σ)
end
end PT

set_option maxHeartbeats 4000000
/-! the text of the law, by places -/
namespace PT
open PySem PySem.Spec PyProof.Rows L2
def topS (i : Nat) : Stmt := PySem.Challenge.pw_pulltree_k53_texts_of_no_plant.main.body.getD i (.Pass ⟨0, 0, 0, 0⟩)
abbrev sIsInteger : Stmt := topS 20
theorem scIsInteger : FnScope ["value"] ["value"] (defScope sIsInteger) := ⟨rfl, rfl, rfl, by decide +kernel, rfl, by decide +kernel, by decide +kernel⟩
abbrev sIsWithin : Stmt := topS 21
abbrev sIsDecimal : Stmt := topS 22
theorem scIsDecimal : FnScope ["text", "most"] ["text", "most"] (defScope sIsDecimal) := ⟨rfl, rfl, rfl, by decide +kernel, rfl, by decide +kernel, by decide +kernel⟩
abbrev sFitsPlant : Stmt := topS 23
theorem scFitsPlant : FnScope ["value", "greatest", "above"] ["value"] (defScope sFitsPlant) := ⟨rfl, rfl, rfl, by decide +kernel, rfl, by decide +kernel, by decide +kernel⟩
abbrev sFitsStock : Stmt := topS 24
theorem scFitsStock : FnScope ["plant", "value", "box"] ["plant", "value"] (defScope sFitsStock) := ⟨rfl, rfl, rfl, by decide +kernel, rfl, by decide +kernel, by decide +kernel⟩
abbrev sCheckPlant : Stmt := topS 25
theorem scCheckPlant : FnScope ["plant"] ["plant"] (defScope sCheckPlant) := ⟨rfl, rfl, rfl, by decide +kernel, rfl, by decide +kernel, by decide +kernel⟩
abbrev sCheckStock : Stmt := topS 26
theorem scCheckStock : FnScope ["plant", "stock"] ["plant", "stock"] (defScope sCheckStock) := ⟨rfl, rfl, rfl, by decide +kernel, rfl, by decide +kernel, by decide +kernel⟩
abbrev sCheckDays : Stmt := topS 27
abbrev sReadPlant : Stmt := topS 30
theorem scReadPlant : FnScope ["text", "rows", "plant", "stock", "line", "row"] ["text"] (defScope sReadPlant) := ⟨rfl, rfl, rfl, by decide +kernel, rfl, by decide +kernel, by decide +kernel⟩
abbrev sCheckText : Stmt := topS 31
theorem scCheckText : FnScope ["holds"] ["holds"] (defScope sCheckText) := ⟨rfl, rfl, rfl, by decide +kernel, rfl, by decide +kernel, by decide +kernel⟩
abbrev sNumberIn : Stmt := topS 32
theorem scNumberIn : FnScope ["text"] ["text"] (defScope sNumberIn) := ⟨rfl, rfl, rfl, by decide +kernel, rfl, by decide +kernel, by decide +kernel⟩
abbrev sSupplierLists : Stmt := topS 34
abbrev sRun : Stmt := topS 37
abbrev sFirstDays : Stmt := topS 38
abbrev sPassDay : Stmt := topS 39
abbrev sOldestGiver : Stmt := topS 40
abbrev sLastDisorder : Stmt := topS 42
abbrev sDaysToOrder : Stmt := topS 43
abbrev sWordsByAge : Stmt := topS 45
abbrev sRanksByWords : Stmt := topS 46
abbrev sTurnedWords : Stmt := topS 47
abbrev sTurned : Stmt := topS 48
abbrev sEmptiedByWords : Stmt := topS 49
abbrev sTimesGiven : Stmt := topS 50
abbrev sFarStock : Stmt := topS 52
abbrev sLawFount : Stmt := topS 56
theorem scLawFount : FnScope ["script", "k", "cell"] ["script", "k"] (defScope sLawFount) := ⟨rfl, rfl, rfl, by decide +kernel, rfl, by decide +kernel, by decide +kernel⟩
abbrev sLawSip : Stmt := topS 57
theorem scLawSip : FnScope ["fount", "many", "found", "mixed"] ["fount", "many"] (defScope sLawSip) := ⟨rfl, rfl, rfl, by decide +kernel, rfl, by decide +kernel, by decide +kernel⟩
abbrev sLawMixed : Stmt := topS 58
theorem scLawMixed : FnScope ["fount", "items", "left", "turn"] ["fount", "items"] (defScope sLawMixed) := ⟨rfl, rfl, rfl, by decide +kernel, rfl, by decide +kernel, by decide +kernel⟩
abbrev sLawGrown : Stmt := topS 59
theorem scLawGrown : FnScope ["fount", "most", "count", "way", "found", "station", "any_one"] ["fount", "most"] (defScope sLawGrown) := ⟨rfl, rfl, rfl, by decide +kernel, rfl, by decide +kernel, by decide +kernel⟩
abbrev sLawFilled : Stmt := topS 60
theorem scLawFilled : FnScope ["fount", "plant", "count", "style", "way", "last", "at", "found", "wide"] ["fount", "plant"] (defScope sLawFilled) := ⟨rfl, rfl, rfl, by decide +kernel, rfl, by decide +kernel, by decide +kernel⟩
abbrev sLawSame : Stmt := topS 61
theorem scLawSame : FnScope ["found", "due", "k"] ["found", "due"] (defScope sLawSame) := ⟨rfl, rfl, rfl, by decide +kernel, rfl, by decide +kernel, by decide +kernel⟩
abbrev sLawText : Stmt := topS 62
theorem scLawText : FnScope ["plant", "boxes", "lines", "boss", "box", "line"] ["plant", "boxes"] (defScope sLawText) := ⟨rfl, rfl, rfl, by decide +kernel, rfl, by decide +kernel, by decide +kernel⟩
abbrev sLawKind : Stmt := topS 63
theorem scLawKind : FnScope ["caught", "some", "found", "name", "so"] ["caught"] (defScope sLawKind) := ⟨rfl, rfl, rfl, by decide +kernel, rfl, by decide +kernel, by decide +kernel⟩
abbrev sLawNumber : Stmt := topS 64
theorem scLawNumber : FnScope ["signs", "most", "sign"] ["signs", "most"] (defScope sLawNumber) := ⟨rfl, rfl, rfl, by decide +kernel, rfl, by decide +kernel, by decide +kernel⟩
abbrev sLawBox : Stmt := topS 65
theorem scLawBox : FnScope ["signs", "found"] ["signs"] (defScope sLawBox) := ⟨rfl, rfl, rfl, by decide +kernel, rfl, by decide +kernel, by decide +kernel⟩
abbrev sLawRead : Stmt := topS 66
theorem scLawRead : FnScope ["text", "rows", "bosses", "boxes", "late", "line", "row", "at", "boss"] ["text"] (defScope sLawRead) := ⟨rfl, rfl, rfl, by decide +kernel, rfl, by decide +kernel, by decide +kernel⟩
abbrev sLawBent : Stmt := topS 67
theorem scLawBent : FnScope ["fount", "page", "way", "between", "items", "at", "head", "tail", "rows", "row", "some", "signs", "turn", "spot", "sign", "line", "one"] ["fount", "page"] (defScope sLawBent) := ⟨rfl, rfl, rfl, by decide +kernel, rfl, by decide +kernel, by decide +kernel⟩
abbrev sLawTold : Stmt := topS 68
theorem scLawTold : FnScope ["value", "e"] ["value"] (defScope sLawTold) := ⟨rfl, rfl, rfl, by decide +kernel, rfl, by decide +kernel, by decide +kernel⟩
abbrev sLawFixed : Stmt := topS 69
theorem scLawFixed : FnScope ["found", "rows", "at"] [] (defScope sLawFixed) := ⟨rfl, rfl, rfl, by decide +kernel, rfl, by decide +kernel, by decide +kernel⟩
abbrev sLaw : Stmt := topS 70
theorem scLaw : FnScope ["script", "fixed", "k", "fount", "plant", "text", "bent", "value", "due", "turn"] ["script"] (defScope sLaw) := ⟨rfl, rfl, rfl, by decide +kernel, rfl, by decide +kernel, by decide +kernel⟩
abbrev sLvInit : Stmt := inClass (topS 54) 0
theorem scLvInit : FnScope ["self", "plant", "stock"] ["self", "plant", "stock"] (defScope sLvInit) := ⟨rfl, rfl, rfl, by decide +kernel, rfl, by decide +kernel, by decide +kernel⟩
abbrev sLvEq : Stmt := inClass (topS 54) 1
abbrev sLvLen : Stmt := inClass (topS 54) 2
abbrev sLvDay : Stmt := inClass (topS 54) 3
abbrev sLvDays : Stmt := inClass (topS 54) 4
abbrev sLvUndo : Stmt := inClass (topS 54) 8
abbrev sLvPlant : Stmt := inClass (topS 54) 9
abbrev sLvStock : Stmt := inClass (topS 54) 10
abbrev sLvPull : Stmt := inClass (topS 54) 12
abbrev sLvChange : Stmt := inClass (topS 54) 13
set_option genInjectivity false
set_option genSizeOf false
set_option genSizeOfSpec false
/-- where the defs stand behind the top, and which names are still the built-in ones -/
structure Tx (K : PySem.W.Frag) (mg : Str → Option Value) where
  f_is_integer : Addr
  d_is_integer : FuncData
  f_is_within : Addr
  d_is_within : FuncData
  f_is_decimal : Addr
  d_is_decimal : FuncData
  f_fits_plant : Addr
  d_fits_plant : FuncData
  f_fits_stock : Addr
  d_fits_stock : FuncData
  f_check_plant : Addr
  d_check_plant : FuncData
  f_check_stock : Addr
  d_check_stock : FuncData
  f_check_days : Addr
  d_check_days : FuncData
  f_read_plant : Addr
  d_read_plant : FuncData
  f_check_text : Addr
  d_check_text : FuncData
  f_number_in : Addr
  d_number_in : FuncData
  f_supplier_lists : Addr
  d_supplier_lists : FuncData
  f_run : Addr
  d_run : FuncData
  f_first_days : Addr
  d_first_days : FuncData
  f_pass_day : Addr
  d_pass_day : FuncData
  f_oldest_giver : Addr
  d_oldest_giver : FuncData
  c_oldest_giver : Addr
  P_oldest_giver : Addr
  f_last_disorder : Addr
  d_last_disorder : FuncData
  f_days_to_order : Addr
  d_days_to_order : FuncData
  f_words_by_age : Addr
  d_words_by_age : FuncData
  c_words_by_age : Addr
  P_words_by_age : Addr
  f_ranks_by_words : Addr
  d_ranks_by_words : FuncData
  f_turned_words : Addr
  d_turned_words : FuncData
  f_turned : Addr
  d_turned : FuncData
  f_emptied_by_words : Addr
  d_emptied_by_words : FuncData
  f_times_given : Addr
  d_times_given : FuncData
  f_far_stock : Addr
  d_far_stock : FuncData
  f__law_fount : Addr
  d__law_fount : FuncData
  f__law_sip : Addr
  d__law_sip : FuncData
  f__law_mixed : Addr
  d__law_mixed : FuncData
  f__law_grown : Addr
  d__law_grown : FuncData
  f__law_filled : Addr
  d__law_filled : FuncData
  f__law_same : Addr
  d__law_same : FuncData
  f__law_text : Addr
  d__law_text : FuncData
  f__law_kind : Addr
  d__law_kind : FuncData
  f__law_number : Addr
  d__law_number : FuncData
  f__law_box : Addr
  d__law_box : FuncData
  f__law_read : Addr
  d__law_read : FuncData
  f__law_bent : Addr
  d__law_bent : FuncData
  f__law_told : Addr
  d__law_told : FuncData
  f__law_fixed : Addr
  d__law_fixed : FuncData
  t_MOST_STATIONS : Tok
  t_FARTHEST_DAY : Tok
  t_MOST_DIGITS : Tok
  t_MOST_DAYS : Tok
  x_PlantError : Addr
  x_NoPlant : Addr
  x_NoStation : Addr
  x_NoStock : Addr
  x_NoPattern : Addr
  x_NoDays : Addr
  x_NoBox : Addr
  x_NotOrdered : Addr
  x_NoWords : Addr
  x_NoNumber : Addr
  x_Full : Addr
  x_Nothing : Addr
  x_NoText : Addr
  x_NoRow : Addr
  x_TooMany : Addr
  x_LivePlant : Addr
  f_lv_init : Addr
  d_lv_init : FuncData
  f_lv_eq : Addr
  d_lv_eq : FuncData
  f_lv_len : Addr
  d_lv_len : FuncData
  f_lv_day : Addr
  d_lv_day : FuncData
  f_lv_days : Addr
  d_lv_days : FuncData
  f_lv_undo : Addr
  d_lv_undo : FuncData
  f_lv_plant : Addr
  d_lv_plant : FuncData
  f_lv_stock : Addr
  d_lv_stock : FuncData
  f_lv_pull : Addr
  d_lv_pull : FuncData
  f_lv_change : Addr
  d_lv_change : FuncData
  F_lv_init : FunD K "__init__" "LivePlant.__init__" (defArgs sLvInit) (defBody sLvInit) (defScope sLvInit) [] [("stock", V.non)] f_lv_init d_lv_init
  v_lv_init : List Value
  V_lv_init : Vals [V.non] v_lv_init
  b_lv_init : Binds K d_lv_init ["self", "plant", "stock"] v_lv_init
  k_lv_init : KBn K d_lv_init ["self", "plant", "stock"] 2 ["stock"] (fun us ws => us ++ ws) (fun vs zs => vs ++ zs)
  M_lv_init : Meth K x_LivePlant "__init__" f_lv_init
  M_LivePlant : Mk K x_LivePlant f_lv_init
  F_lv_eq : Fun K "__eq__" "LivePlant.__eq__" sLvEq f_lv_eq d_lv_eq
  b_lv_eq : Binds K d_lv_eq ["self", "other"] []
  M_lv_eq : Meth K x_LivePlant "__eq__" f_lv_eq
  F_lv_len : Fun K "__len__" "LivePlant.__len__" sLvLen f_lv_len d_lv_len
  b_lv_len : Binds K d_lv_len ["self"] []
  M_lv_len : Meth K x_LivePlant "__len__" f_lv_len
  F_lv_day : Fun K "day" "LivePlant.day" sLvDay f_lv_day d_lv_day
  b_lv_day : Binds K d_lv_day ["self"] []
  M_lv_day : Meth K x_LivePlant "day" f_lv_day
  F_lv_days : Fun K "days" "LivePlant.days" sLvDays f_lv_days d_lv_days
  b_lv_days : Binds K d_lv_days ["self", "days"] []
  M_lv_days : Meth K x_LivePlant "days" f_lv_days
  F_lv_undo : Fun K "undo" "LivePlant.undo" sLvUndo f_lv_undo d_lv_undo
  b_lv_undo : Binds K d_lv_undo ["self"] []
  M_lv_undo : Meth K x_LivePlant "undo" f_lv_undo
  F_lv_plant : Fun K "plant" "LivePlant.plant" sLvPlant f_lv_plant d_lv_plant
  b_lv_plant : Binds K d_lv_plant ["self"] []
  M_lv_plant : Meth K x_LivePlant "plant" f_lv_plant
  F_lv_stock : Fun K "stock" "LivePlant.stock" sLvStock f_lv_stock d_lv_stock
  b_lv_stock : Binds K d_lv_stock ["self"] []
  M_lv_stock : Meth K x_LivePlant "stock" f_lv_stock
  F_lv_pull : Fun K "pull" "LivePlant.pull" sLvPull f_lv_pull d_lv_pull
  b_lv_pull : Binds K d_lv_pull ["self", "operation", "first"] []
  M_lv_pull : Meth K x_LivePlant "pull" f_lv_pull
  F_lv_change : Fun K "change" "LivePlant.change" sLvChange f_lv_change d_lv_change
  b_lv_change : Binds K d_lv_change ["self", "operation", "customers", "boxes"] []
  M_lv_change : Meth K x_LivePlant "change" f_lv_change
  g_LivePlant : mg "LivePlant" = some (.ref x_LivePlant)
  C_LivePlant : Cls K x_LivePlant
  I_LivePlant : IsC K x_LivePlant
  N_LivePlant : (["NoneType", "bool", "int", "str", "list", "tuple", "dict"].all fun n => PySem.W.kitOne K (.type n) (.ref x_LivePlant) == some false) = true
  W_LivePlant : PySem.W.kitOne K (.ref x_LivePlant) (.type "str") = some false
  a_customers : NoAttr K x_LivePlant "customers"
  a_boxes : NoAttr K x_LivePlant "boxes"
  a_past : NoAttr K x_LivePlant "past"
  F_is_integer : Fun K "is_integer" "is_integer" sIsInteger f_is_integer d_is_integer
  b_is_integer : Binds K d_is_integer ["value"] []
  g_is_integer : mg "is_integer" = some (.ref f_is_integer)
  F_is_within : Fun K "is_within" "is_within" sIsWithin f_is_within d_is_within
  b_is_within : Binds K d_is_within ["value", "least", "most"] []
  g_is_within : mg "is_within" = some (.ref f_is_within)
  F_is_decimal : Fun K "is_decimal" "is_decimal" sIsDecimal f_is_decimal d_is_decimal
  b_is_decimal : Binds K d_is_decimal ["text", "most"] []
  g_is_decimal : mg "is_decimal" = some (.ref f_is_decimal)
  F_fits_plant : Fun K "fits_plant" "fits_plant" sFitsPlant f_fits_plant d_fits_plant
  b_fits_plant : Binds K d_fits_plant ["value"] []
  g_fits_plant : mg "fits_plant" = some (.ref f_fits_plant)
  F_fits_stock : Fun K "fits_stock" "fits_stock" sFitsStock f_fits_stock d_fits_stock
  b_fits_stock : Binds K d_fits_stock ["plant", "value"] []
  g_fits_stock : mg "fits_stock" = some (.ref f_fits_stock)
  F_check_plant : Fun K "check_plant" "check_plant" sCheckPlant f_check_plant d_check_plant
  b_check_plant : Binds K d_check_plant ["plant"] []
  g_check_plant : mg "check_plant" = some (.ref f_check_plant)
  F_check_stock : Fun K "check_stock" "check_stock" sCheckStock f_check_stock d_check_stock
  b_check_stock : Binds K d_check_stock ["plant", "stock"] []
  g_check_stock : mg "check_stock" = some (.ref f_check_stock)
  F_check_days : Fun K "check_days" "check_days" sCheckDays f_check_days d_check_days
  b_check_days : Binds K d_check_days ["days", "least", "most"] []
  g_check_days : mg "check_days" = some (.ref f_check_days)
  F_read_plant : Fun K "read_plant" "read_plant" sReadPlant f_read_plant d_read_plant
  b_read_plant : Binds K d_read_plant ["text"] []
  g_read_plant : mg "read_plant" = some (.ref f_read_plant)
  F_check_text : Fun K "check_text" "check_text" sCheckText f_check_text d_check_text
  b_check_text : Binds K d_check_text ["holds"] []
  g_check_text : mg "check_text" = some (.ref f_check_text)
  F_number_in : Fun K "number_in" "number_in" sNumberIn f_number_in d_number_in
  b_number_in : Binds K d_number_in ["text"] []
  g_number_in : mg "number_in" = some (.ref f_number_in)
  F_supplier_lists : Fun K "supplier_lists" "supplier_lists" sSupplierLists f_supplier_lists d_supplier_lists
  b_supplier_lists : Binds K d_supplier_lists ["plant"] []
  g_supplier_lists : mg "supplier_lists" = some (.ref f_supplier_lists)
  F_run : Fun K "run" "run" sRun f_run d_run
  b_run : Binds K d_run ["plant", "stock", "days"] []
  g_run : mg "run" = some (.ref f_run)
  F_first_days : Fun K "first_days" "first_days" sFirstDays f_first_days d_first_days
  b_first_days : Binds K d_first_days ["plant", "stock", "days"] []
  g_first_days : mg "first_days" = some (.ref f_first_days)
  F_pass_day : FunD K "pass_day" "pass_day" (defArgs sPassDay) (defBody sPassDay) (defScope sPassDay) [.int 0] [] f_pass_day d_pass_day
  v_pass_day : List Value
  V_pass_day : Vals [.int 0] v_pass_day
  b_pass_day : Binds K d_pass_day ["givers", "boxes", "first"] v_pass_day
  w_pass_day : Binds K d_pass_day ["givers", "boxes", "first"] []
  g_pass_day : mg "pass_day" = some (.ref f_pass_day)
  F_oldest_giver : Fun K "oldest_giver" "oldest_giver" sOldestGiver f_oldest_giver d_oldest_giver
  C_oldest_giver : FunC K "oldest_giver" "oldest_giver" sOldestGiver f_oldest_giver d_oldest_giver c_oldest_giver
  b_oldest_giver : Binds K d_oldest_giver ["stations", "boxes"] []
  g_oldest_giver : mg "oldest_giver" = some (.ref f_oldest_giver)
  F_last_disorder : Fun K "last_disorder" "last_disorder" sLastDisorder f_last_disorder d_last_disorder
  b_last_disorder : Binds K d_last_disorder ["plant", "boxes"] []
  g_last_disorder : mg "last_disorder" = some (.ref f_last_disorder)
  F_days_to_order : Fun K "days_to_order" "days_to_order" sDaysToOrder f_days_to_order d_days_to_order
  b_days_to_order : Binds K d_days_to_order ["plant", "stock"] []
  g_days_to_order : mg "days_to_order" = some (.ref f_days_to_order)
  F_words_by_age : Fun K "words_by_age" "words_by_age" sWordsByAge f_words_by_age d_words_by_age
  C_words_by_age : FunC K "words_by_age" "words_by_age" sWordsByAge f_words_by_age d_words_by_age c_words_by_age
  b_words_by_age : Binds K d_words_by_age ["plant", "stock"] []
  g_words_by_age : mg "words_by_age" = some (.ref f_words_by_age)
  F_ranks_by_words : Fun K "ranks_by_words" "ranks_by_words" sRanksByWords f_ranks_by_words d_ranks_by_words
  b_ranks_by_words : Binds K d_ranks_by_words ["words"] []
  g_ranks_by_words : mg "ranks_by_words" = some (.ref f_ranks_by_words)
  F_turned_words : Fun K "turned_words" "turned_words" sTurnedWords f_turned_words d_turned_words
  b_turned_words : Binds K d_turned_words ["plant", "words", "days"] []
  g_turned_words : mg "turned_words" = some (.ref f_turned_words)
  F_turned : Fun K "turned" "turned" sTurned f_turned d_turned
  b_turned : Binds K d_turned ["letters", "many"] []
  g_turned : mg "turned" = some (.ref f_turned)
  F_emptied_by_words : Fun K "emptied_by_words" "emptied_by_words" sEmptiedByWords f_emptied_by_words d_emptied_by_words
  b_emptied_by_words : Binds K d_emptied_by_words ["plant", "words", "days"] []
  g_emptied_by_words : mg "emptied_by_words" = some (.ref f_emptied_by_words)
  F_times_given : Fun K "times_given" "times_given" sTimesGiven f_times_given d_times_given
  b_times_given : Binds K d_times_given ["letters", "supplier", "many"] []
  g_times_given : mg "times_given" = some (.ref f_times_given)
  F_far_stock : Fun K "far_stock" "far_stock" sFarStock f_far_stock d_far_stock
  b_far_stock : Binds K d_far_stock ["plant", "stock", "days"] []
  g_far_stock : mg "far_stock" = some (.ref f_far_stock)
  F__law_fount : Fun K "_law_fount" "_law_fount" sLawFount f__law_fount d__law_fount
  b__law_fount : Binds K d__law_fount ["script", "k"] []
  g__law_fount : mg "_law_fount" = some (.ref f__law_fount)
  F__law_sip : Fun K "_law_sip" "_law_sip" sLawSip f__law_sip d__law_sip
  b__law_sip : Binds K d__law_sip ["fount", "many"] []
  g__law_sip : mg "_law_sip" = some (.ref f__law_sip)
  F__law_mixed : Fun K "_law_mixed" "_law_mixed" sLawMixed f__law_mixed d__law_mixed
  b__law_mixed : Binds K d__law_mixed ["fount", "items"] []
  g__law_mixed : mg "_law_mixed" = some (.ref f__law_mixed)
  F__law_grown : Fun K "_law_grown" "_law_grown" sLawGrown f__law_grown d__law_grown
  b__law_grown : Binds K d__law_grown ["fount", "most"] []
  g__law_grown : mg "_law_grown" = some (.ref f__law_grown)
  F__law_filled : Fun K "_law_filled" "_law_filled" sLawFilled f__law_filled d__law_filled
  b__law_filled : Binds K d__law_filled ["fount", "plant"] []
  g__law_filled : mg "_law_filled" = some (.ref f__law_filled)
  F__law_same : Fun K "_law_same" "_law_same" sLawSame f__law_same d__law_same
  b__law_same : Binds K d__law_same ["found", "due"] []
  g__law_same : mg "_law_same" = some (.ref f__law_same)
  F__law_text : Fun K "_law_text" "_law_text" sLawText f__law_text d__law_text
  b__law_text : Binds K d__law_text ["plant", "boxes"] []
  g__law_text : mg "_law_text" = some (.ref f__law_text)
  F__law_kind : Fun K "_law_kind" "_law_kind" sLawKind f__law_kind d__law_kind
  b__law_kind : Binds K d__law_kind ["caught"] []
  g__law_kind : mg "_law_kind" = some (.ref f__law_kind)
  F__law_number : Fun K "_law_number" "_law_number" sLawNumber f__law_number d__law_number
  b__law_number : Binds K d__law_number ["signs", "most"] []
  g__law_number : mg "_law_number" = some (.ref f__law_number)
  F__law_box : Fun K "_law_box" "_law_box" sLawBox f__law_box d__law_box
  b__law_box : Binds K d__law_box ["signs"] []
  g__law_box : mg "_law_box" = some (.ref f__law_box)
  F__law_read : Fun K "_law_read" "_law_read" sLawRead f__law_read d__law_read
  b__law_read : Binds K d__law_read ["text"] []
  g__law_read : mg "_law_read" = some (.ref f__law_read)
  F__law_bent : Fun K "_law_bent" "_law_bent" sLawBent f__law_bent d__law_bent
  b__law_bent : Binds K d__law_bent ["fount", "page"] []
  g__law_bent : mg "_law_bent" = some (.ref f__law_bent)
  F__law_told : Fun K "_law_told" "_law_told" sLawTold f__law_told d__law_told
  b__law_told : Binds K d__law_told ["value"] []
  g__law_told : mg "_law_told" = some (.ref f__law_told)
  F__law_fixed : Fun K "_law_fixed" "_law_fixed" sLawFixed f__law_fixed d__law_fixed
  b__law_fixed : Binds K d__law_fixed [] []
  g__law_fixed : mg "_law_fixed" = some (.ref f__law_fixed)
  g_MOST_STATIONS : mg "MOST_STATIONS" = some (.int 40 t_MOST_STATIONS)
  g_FARTHEST_DAY : mg "FARTHEST_DAY" = some (.int 1000000000000000000000000000000 t_FARTHEST_DAY)
  g_MOST_DIGITS : mg "MOST_DIGITS" = some (.int 40 t_MOST_DIGITS)
  g_MOST_DAYS : mg "MOST_DAYS" = some (.int 2000 t_MOST_DAYS)
  n_ValueError : mg "ValueError" = none
  n_all : mg "all" = none
  n_bool : mg "bool" = none
  n_divmod : mg "divmod" = none
  n_enumerate : mg "enumerate" = none
  n_int : mg "int" = none
  n_isinstance : mg "isinstance" = none
  n_len : mg "len" = none
  n_list : mg "list" = none
  n_max : mg "max" = none
  n_min : mg "min" = none
  n_range : mg "range" = none
  n_set : mg "set" = none
  n_sorted : mg "sorted" = none
  n_str : mg "str" = none
  n_tuple : mg "tuple" = none
  n_zip : mg "zip" = none
  X_PlantError : ExcC K mg "PlantError" x_PlantError
  X_NoPlant : ExcC K mg "NoPlant" x_NoPlant
  X_NoStation : ExcC K mg "NoStation" x_NoStation
  X_NoStock : ExcC K mg "NoStock" x_NoStock
  X_NoPattern : ExcC K mg "NoPattern" x_NoPattern
  X_NoDays : ExcC K mg "NoDays" x_NoDays
  X_NoBox : ExcC K mg "NoBox" x_NoBox
  X_NotOrdered : ExcC K mg "NotOrdered" x_NotOrdered
  X_NoWords : ExcC K mg "NoWords" x_NoWords
  X_NoNumber : ExcC K mg "NoNumber" x_NoNumber
  X_Full : ExcC K mg "Full" x_Full
  X_Nothing : ExcC K mg "Nothing" x_Nothing
  X_NoText : ExcC K mg "NoText" x_NoText
  X_NoRow : ExcC K mg "NoRow" x_NoRow
  g_TooMany : mg "TooMany" = some (.ref x_TooMany)
  E_all : Errs K x_PlantError [x_NoPlant, x_NoStation, x_NoStock, x_NoPattern, x_NoDays, x_NoBox, x_NotOrdered, x_NoWords, x_NoNumber, x_TooMany, x_Full, x_Nothing, x_NoText, x_NoRow]
  E_nothing : PySem.W.exmOne K (.ref x_Nothing) (.ref x_Nothing) = some true
  q_oldest_giver_words_by_age : P_oldest_giver ≠ P_words_by_age
/-- the tables that grow -/
abbrev Tx.tabW {K : PySem.W.Frag} {mg : Str → Option Value} (T : Tx K mg) : List (Addr × Str) := [(T.P_oldest_giver, ("oldest_giver" : Str) ++ ".<locals>." ++ "<lambda>"), (T.P_words_by_age, ("words_by_age" : Str) ++ ".<locals>." ++ "<lambda>")]
/-- all classes of errors, in their order -/
abbrev Tx.errs {K : PySem.W.Frag} {mg : Str → Option Value} (T : Tx K mg) : List Addr := [T.x_NoPlant, T.x_NoStation, T.x_NoStock, T.x_NoPattern, T.x_NoDays, T.x_NoBox, T.x_NotOrdered, T.x_NoWords, T.x_NoNumber, T.x_TooMany, T.x_Full, T.x_Nothing, T.x_NoText, T.x_NoRow]
end PT

set_option maxHeartbeats 4000000
/-! the text of a plant and a stock -/
namespace PT
open PySem PySem.Spec PyProof.Rows L2
/-- a text out of parts -/
def tJoin (ts : List TE) : TE := fun σ H Q => tJs ts Str.empty σ H fun out H1 => Q (.str out) H1
/-- a number's text -/
def numT (i : Int) : Str := Str.ofString (toString i)
theorem numT_len {i : Int} (h : i.natAbs < 10 ^ 50) : (numT i).length ≤ 60 := by
  have z := (nice_int h).lv
  simp only [PyData.leavesShort, decide_eq_true_eq] at z
  exact z
theorem numT_log {i : Int} (h : i.natAbs < 10 ^ 50) : i.natAbs.log2 < 1920 := by
  by_cases z : i.natAbs = 0
  · rw [z]; decide
  · exact (Nat.log2_lt z).mpr (Nat.lt_trans h (by decide))
/-- what stands first in a station's line -/
def bossT (pl : List Int) (k : Nat) : Str := match k with
  | 0 => Str.ofString "shop"
  | k + 1 => numT (pl.getD k 0)
def bosses (pl : List Int) : List Str := Str.ofString "shop" :: pl.map numT
def lineT (a : Str) (i : Int) : Str := a ++ Str.ofString " " ++ numT i ++ Str.ofString "\n"
def linesT : List Str → List Int → List Str
  | a :: as, i :: is => lineT a i :: linesT as is
  | _, _ => []
def showT (pl ss : List Int) : Str := Txt.join Str.empty (linesT (bosses pl) ss)
theorem linesT_len : ∀ {as : List Str} {is : List Int}, as.length = is.length → (linesT as is).length = as.length
  | [], [], _ => rfl
  | a :: as, i :: is, h => by
    rw [linesT, List.length_cons, List.length_cons, linesT_len (Nat.succ.inj h)]
theorem lineT_len {a : Str} {i : Int} (ha : a.length ≤ 60) (hi : i.natAbs < 10 ^ 50) : (lineT a i).length ≤ 130 := by
  have z := numT_len hi
  unfold lineT
  rw [Str.length_append, Str.length_append, Str.length_append]
  have e1 : (Str.ofString " ").length = 1 := by decide
  have e2 : (Str.ofString "\n").length = 1 := by decide
  omega
theorem linesT_all {p : Str → Prop} : ∀ {as : List Str} {is : List Int}, (∀ a ∈ as, ∀ i ∈ is, p (lineT a i)) → ∀ y ∈ linesT as is, p y
  | [], _, _, y, h => by cases h
  | _ :: _, [], _, y, h => by cases h
  | a :: as, i :: is, q, y, h => by
    rcases List.mem_cons.mp h with rfl | h
    · exact q a List.mem_cons_self i List.mem_cons_self
    · exact linesT_all (fun b hb j hj => q b (List.mem_cons_of_mem _ hb) j (List.mem_cons_of_mem _ hj)) y h
theorem bosses_len {pl : List Int} (h : ∀ x ∈ pl, x.natAbs < 10 ^ 50) : ∀ a ∈ bosses pl, a.length ≤ 60 := fun a ha => by
  rcases List.mem_cons.mp ha with rfl | ha
  · decide
  · obtain ⟨x, hx, rfl⟩ := List.mem_map.mp ha
    exact numT_len (h x hx)
theorem sum_le {B : Nat} : ∀ {ys : List Str}, (∀ y ∈ ys, y.length ≤ B) → (ys.map (·.length)).sum ≤ ys.length * B
  | [], _ => Nat.zero_le _
  | y :: ys, h => by
    have z1 := h y List.mem_cons_self
    have z2 := sum_le (ys := ys) fun x hx => h x (List.mem_cons_of_mem _ hx)
    rw [List.map_cons, List.sum_cons, List.length_cons, Nat.succ_mul]
    omega
end PT

set_option maxHeartbeats 4000000
/-! numbers written and read -/
namespace PT
open PySem PySem.Spec PyProof.Rows L2 TL
/-! ### signs -/
theorem digit_small : ∀ c : Nat, c < 128 → Unicode.isDigit c = (decide (48 ≤ c) && decide (c ≤ 57)) := by
  have h : (List.range 128).all (fun c => Unicode.isDigit c == (decide (48 ≤ c) && decide (c ≤ 57))) = true := by decide +kernel
  exact fun c hc => eq_of_beq (List.all_eq_true.mp h c (List.mem_range.mpr hc))
theorem ascii_tl (x : Str) : Txt.isascii x = (tl x).all (fun c => decide (c < 128)) := by
  show x.cps.all _ = x.cps.toList.all _
  rw [Array.all_toList]
theorem digit_tl (x : Str) : Txt.isdigit x = (decide (0 < (tl x).length) && (tl x).all Unicode.isDigit) := by
  show (decide (x.length > 0) && x.cps.all _) = (_ && x.cps.toList.all _)
  rw [Array.all_toList, len_tl]
theorem pre_len {S l : List Nat} (h : pre S l = true) : S.length ≤ l.length := by
  have e := congrArg List.length (eq_of_beq h)
  rw [List.length_take] at e
  omega
theorem starts_tl (x y : Str) : Txt.startswith x y = pre (tl y) (tl x) := by
  have e : Builtin.Str.subAt x y 0 = pre (tl y) (tl x) := by
    rw [PySem.StrLaws.subAt_eq, List.drop_zero, len_tl y]
    rfl
  show (decide (0 + y.length ≤ x.length) && Builtin.Str.subAt x y 0) = _
  rw [e, len_tl x, len_tl y, Nat.zero_add]
  cases h : pre (tl y) (tl x) with
  | false => rw [Bool.and_false]
  | true => rw [decide_eq_true (pre_len h)]; rfl
theorem ends_tl (x y : Str) : Txt.endswith x y = (decide ((tl y).length ≤ (tl x).length) && ((tl x).drop ((tl x).length - (tl y).length) == tl y)) := by
  show (decide (0 + y.length ≤ x.length) && Builtin.Str.subAt x y (x.length - y.length)) = _
  rw [PySem.StrLaws.subAt_eq, len_tl x, len_tl y, Nat.zero_add]
  by_cases h : (tl y).length ≤ (tl x).length
  · rw [List.take_of_length_le (by rw [List.length_drop]; have e : x.cps.toList.length = (tl x).length := rfl; omega)]
  · rw [decide_eq_false h, Bool.false_and, Bool.false_and]
theorem rmpre_tl (x y : Str) : tl (Txt.removeprefix x y) = if pre (tl y) (tl x) = true then (tl x).drop (tl y).length else tl x := by
  rw [PySem.StrLaws.removeprefix_eq]
  have e : (decide (0 + y.length ≤ x.length) && Builtin.Str.subAt x y 0) = pre (tl y) (tl x) := starts_tl x y
  rw [e]
  by_cases h : pre (tl y) (tl x) = true
  · rw [if_pos h, if_pos h, tl_mk, len_tl x, len_tl y, List.take_of_length_le (by rw [List.length_drop]; exact Nat.le_refl _)]
  · rw [if_neg h, if_neg h]
theorem rmsuf_tl (x y : Str) : tl (Txt.removesuffix x y) = if Txt.endswith x y = true then (tl x).take ((tl x).length - (tl y).length) else tl x := by
  rw [PySem.StrLaws.removesuffix_eq]
  have e : (decide (0 + y.length ≤ x.length) && Builtin.Str.subAt x y (x.length - y.length)) = Txt.endswith x y := rfl
  rw [e]
  by_cases h : Txt.endswith x y = true
  · rw [if_pos h, if_pos h, tl_mk, List.drop_zero, Nat.sub_zero, len_tl x, len_tl y]
  · rw [if_neg h, if_neg h]
/-! ### decimal numbers -/
/-- as is_decimal tells it -/
def decT (x : Str) (m : Int) : Bool := if !Txt.isascii x then false else if !Txt.isdigit x then false else if (x.length : Int) > m then false else decide (x = Str.ofString "0") || !Txt.startswith x (Str.ofString "0")
/-- by the signs -/
def decL (l : List Nat) (m : Nat) : Prop := NumText.AllDigits l ∧ l ≠ [] ∧ l.length ≤ m ∧ (l = [48] ∨ l.head? ≠ some 48)
theorem tl_lit {s : String} {l : List Nat} (h : s.toList.map Char.toNat = l) : tl (Str.ofString s) = l := (tl_ofString s).trans h
theorem decT_iff (x : Str) (m : Nat) : decT x (m : Int) = true ↔ decL (tl x) m := by
  unfold decT decL
  rw [ascii_tl, digit_tl, starts_tl, len_tl, show tl (Str.ofString "0") = [48] from tl_lit (by decide)]
  have e0 : (x = Str.ofString "0") ↔ tl x = [48] := ⟨fun h => by rw [h]; exact tl_lit (by decide), fun h => ext_tl (h.trans (tl_lit (by decide)).symm)⟩
  have all : ((tl x).all (fun c => decide (c < 128)) = true ∧ (tl x).all Unicode.isDigit = true) ↔ NumText.AllDigits (tl x) := by
    constructor
    · rintro ⟨h1, h2⟩ c hc
      have a := of_decide_eq_true (List.all_eq_true.mp h1 c hc)
      have b := List.all_eq_true.mp h2 c hc
      rw [digit_small c a, Bool.and_eq_true, decide_eq_true_eq, decide_eq_true_eq] at b
      exact b
    · intro h
      refine ⟨List.all_eq_true.mpr fun c hc => decide_eq_true (by have := h c hc; omega), List.all_eq_true.mpr fun c hc => ?_⟩
      have := h c hc
      rw [digit_small c (by omega), decide_eq_true this.1, decide_eq_true this.2]
      rfl
  have hp : (pre [48] (tl x)) = true ↔ (tl x).head? = some 48 := by
    unfold pre
    cases tl x with
    | nil => simp
    | cons c r => simp
  cases h1 : (tl x).all (fun c => decide (c < 128)) with
  | false =>
    refine ⟨fun z => (by cases z), fun z => ?_⟩
    rw [(all.mpr z.1).1] at h1
    cases h1
  | true =>
    rw [if_neg (by decide)]
    cases h2 : (tl x).all Unicode.isDigit with
    | false =>
      rw [Bool.and_false]
      refine ⟨fun z => (by cases z), fun z => ?_⟩
      rw [(all.mpr z.1).2] at h2
      cases h2
    | true =>
      have hd := all.mp ⟨h1, h2⟩
      rw [Bool.and_true]
      by_cases h3 : 0 < (tl x).length
      · rw [decide_eq_true h3, if_neg (by decide)]
        have ne : tl x ≠ [] := fun z => by rw [z] at h3; exact absurd h3 (by decide)
        by_cases h4 : ((tl x).length : Int) > (m : Int)
        · rw [if_pos h4]
          exact ⟨fun z => (by cases z), fun z => absurd z.2.2.1 (by omega)⟩
        · rw [if_neg h4, Bool.or_eq_true, decide_eq_true_eq, e0, Bool.not_eq_true', ← Bool.not_eq_true, hp]
          exact ⟨fun z => ⟨hd, ne, by omega, z⟩, fun z => z.2.2.2⟩
      · rw [decide_eq_false h3, if_pos (by decide : (!false) = true)]
        exact ⟨fun z => (by cases z), fun z => absurd (List.length_pos_iff.mpr z.2.1) h3⟩
/-! ### the signs of a number -/
theorem numL_head {n : Nat} (h : n ≠ 0) : (numL n).head? ≠ some 48 := by
  induction n using Nat.strongRecOn with
  | _ n ih =>
    by_cases c : n < 10
    · rw [numL_lt c]
      show some (48 + n) ≠ some 48
      intro z
      have := Option.some.inj z
      omega
    · rw [numL_step (by omega), List.head?_append]
      have z := ih (n / 10) (by omega) (by omega)
      cases q : (numL (n / 10)).head? with
      | none => exact absurd (List.head?_eq_none_iff.mp q) (numL_ne _)
      | some v =>
        rw [q] at z
        exact z
theorem numL_dec {n m : Nat} (hm : 0 < m) (h : n < 10 ^ m) : decL (numL n) m := ⟨numL_digits n, numL_ne n, numL_len hm h, by
  by_cases c : n = 0
  · exact .inl (by rw [c]; exact numL_lt (by decide))
  · exact .inr (numL_head c)⟩
/-- digits without a leading zero are a number's -/
theorem val_snoc (r : List Nat) (c : Nat) : NumText.digitsVal (r ++ [c]) = NumText.digitsVal r * 10 + (c - 48) := by
  unfold NumText.digitsVal
  rw [List.foldl_append]
  rfl
theorem dec_numL : ∀ (k : Nat) (l : List Nat), l.length = k → NumText.AllDigits l → l ≠ [] → (l = [48] ∨ l.head? ≠ some 48) → l = numL (NumText.digitsVal l)
  | 0, l, e, _, ne, _ => absurd (List.length_eq_zero_iff.mp e) ne
  | k + 1, l, e, hd, ne, h0 => by
    obtain ⟨r, c, rfl⟩ : ∃ r c, l = r ++ [c] := ⟨l.dropLast, l.getLast ne, (List.dropLast_concat_getLast ne).symm⟩
    have hc := hd c (by simp)
    rw [List.length_append] at e
    have e : r.length = k := Nat.succ.inj e
    rw [val_snoc]
    by_cases z : r = []
    · subst z
      show [c] = numL (0 * 10 + (c - 48))
      rw [numL_lt (by omega)]
      congr 1
      omega
    · have hh : (r ++ [c]).head? = r.head? := by
        cases r with
        | nil => exact absurd rfl z
        | cons a r => rfl
      have h1 : r.head? ≠ some 48 := by
        rcases h0 with h0 | h0
        · have := congrArg List.length h0
          rw [List.length_append] at this
          exact absurd (List.length_eq_zero_iff.mp (Nat.succ.inj this)) z
        · rw [hh] at h0
          exact h0
      have ih := dec_numL k r e (fun d hd' => hd d (by simp [hd'])) z (.inr h1)
      have v0 : NumText.digitsVal r ≠ 0 := fun q => by
        rw [q, numL_lt (by decide)] at ih
        rw [ih] at h1
        exact h1 rfl
      rw [numL_step (by omega), show (NumText.digitsVal r * 10 + (c - 48)) / 10 = NumText.digitsVal r by omega, show 48 + (NumText.digitsVal r * 10 + (c - 48)) % 10 = c by omega, ← ih]
theorem numT_pos {i : Int} (h : 0 ≤ i) : tl (numT i) = numL i.natAbs := by
  obtain ⟨n, rfl⟩ := Int.eq_ofNat_of_zero_le h
  exact tl_num n
theorem numT_neg {i : Int} (h : i < 0) : tl (numT i) = 45 :: numL i.natAbs := by
  obtain ⟨n, rfl⟩ : ∃ n : Nat, i = Int.negSucc n := by
    cases i with
    | ofNat n => exact absurd h (by simp)
    | negSucc n => exact ⟨n, rfl⟩
  unfold numT
  rw [tl_ofString]
  show (toString (Int.negSucc n)).toList.map Char.toNat = 45 :: numL (n + 1)
  have e : toString (Int.negSucc n) = "-" ++ toString (n + 1) := rfl
  rw [e, String.toList_append, List.map_append]
  show 45 :: (toString (n + 1)).toList.map Char.toNat = _
  rw [← tl_ofString]
  exact congrArg (45 :: ·) (tl_num (n + 1))
theorem val_lt : ∀ (k : Nat) (l : List Nat), l.length = k → NumText.AllDigits l → NumText.digitsVal l < 10 ^ k
  | 0, l, e, _ => by rw [List.length_eq_zero_iff.mp e]; decide
  | k + 1, l, e, hd => by
    have ne : l ≠ [] := fun z => by rw [z] at e; cases e
    obtain ⟨r, c, rfl⟩ : ∃ r c, l = r ++ [c] := ⟨l.dropLast, l.getLast ne, (List.dropLast_concat_getLast ne).symm⟩
    have hc := hd c (by simp)
    rw [List.length_append] at e
    have ih := val_lt k r (Nat.succ.inj e) fun d hd' => hd d (by simp [hd'])
    rw [val_snoc, Nat.pow_succ]
    omega
def minus : Str := Str.ofString "-"
theorem tl_minus : tl minus = [45] := tl_lit (by decide)
/-- as number_in asks -/
def numB (x : Str) : Prop := decT (Txt.removeprefix x minus) ((40 : Nat) : Int) = true ∧ x ≠ Str.ofString "-0"
theorem num_ok {i : Int} (h : i.natAbs < 10 ^ 40) : numB (numT i) ∧ intText? (numT i) = some i ∧ (numT i).length ≤ 41 := by
  have hd := numL_dec (m := 40) (by decide) h
  by_cases c : 0 ≤ i
  · have e := numT_pos c
    have hp : ¬ pre [45] (tl (numT i)) = true := fun z => by
      rw [e] at z
      have hm := numL_free (n := i.natAbs) (s := 45) (.inl (by decide))
      unfold pre at z
      cases q : numL i.natAbs with
      | nil => exact numL_ne _ q
      | cons a r =>
        rw [q] at z hm
        have := eq_of_beq z
        have : a = 45 := (List.cons.inj this).1
        exact hm (by rw [this]; exact List.mem_cons_self)
    have er : tl (Txt.removeprefix (numT i) minus) = numL i.natAbs := by rw [rmpre_tl, tl_minus, if_neg hp, e]
    refine ⟨⟨(decT_iff _ 40).mpr (by rw [er]; exact hd), fun z => ?_⟩, ?_, ?_⟩
    · rw [z] at hp
      exact hp (by rw [show tl (Str.ofString "-0") = [45, 48] from tl_lit (by decide)]; decide)
    · have z := intText_digits (x := numT i) (by rw [show (numT i).cps.toList = _ from e]; exact hd.1) (by rw [show (numT i).cps.toList = _ from e]; exact hd.2.1) (by rw [len_tl, e]; exact Nat.le_trans hd.2.2.1 (by decide))
      rw [z, show (numT i).cps.toList = _ from e, numL_val]
      congr 1
      omega
    · rw [len_tl, e]
      exact Nat.le_trans hd.2.2.1 (by decide)
  · have e := numT_neg (i := i) (by omega)
    have er : tl (Txt.removeprefix (numT i) minus) = numL i.natAbs := by
      rw [rmpre_tl, tl_minus, e, if_pos (show pre [45] (45 :: numL i.natAbs) = true from pre_self [45] _)]
      rfl
    refine ⟨⟨(decT_iff _ 40).mpr (by rw [er]; exact hd), fun z => ?_⟩, ?_, ?_⟩
    · have y := congrArg tl z
      rw [e, show tl (Str.ofString "-0") = [45, 48] from tl_lit (by decide)] at y
      have y := (List.cons.inj y).2
      have v := numL_val i.natAbs
      rw [y] at v
      have : i.natAbs = 0 := v.symm
      omega
    · have z := intText_neg (x := numT i) e hd.1 hd.2.1 (by rw [len_tl, e, List.length_cons]; have := hd.2.2.1; omega)
      rw [z, numL_val]
      congr 1
      omega
    · rw [len_tl, e, List.length_cons]
      have := hd.2.2.1
      omega
/-- a text that number_in takes is a number's -/
theorem num_of {x : Str} (h : numB x) : ∃ i : Int, i.natAbs < 10 ^ 40 ∧ x = numT i := by
  obtain ⟨h1, h2⟩ := h
  have d := (decT_iff _ 40).mp h1
  have key : ∀ l, decL l 40 → ∃ n, n < 10 ^ 40 ∧ l = numL n := fun l d => ⟨_, Nat.lt_of_lt_of_le (val_lt _ l rfl d.1) (Nat.pow_le_pow_right (by decide) d.2.2.1), dec_numL _ l rfl d.1 d.2.1 d.2.2.2⟩
  obtain ⟨n, hn, e⟩ := key _ d
  rw [rmpre_tl, tl_minus] at e
  by_cases c : pre [45] (tl x) = true
  · rw [if_pos c] at e
    obtain ⟨r, er⟩ : ∃ r, tl x = 45 :: r := by
      unfold pre at c
      cases q : tl x with
      | nil => rw [q] at c; exact absurd c (by decide)
      | cons a r =>
        rw [q] at c
        have := eq_of_beq c
        exact ⟨r, by rw [(List.cons.inj this).1]⟩
    rw [er] at e
    have e : r = numL n := e
    have n0 : n ≠ 0 := fun z => h2 (ext_tl (by rw [er, e, z, numL_lt (by decide)]; exact (tl_lit (by decide)).symm))
    refine ⟨-(n : Int), by omega, ext_tl ?_⟩
    rw [numT_neg (by omega), er, e, show (-(n : Int)).natAbs = n by omega]
  · rw [if_neg c] at e
    exact ⟨(n : Int), by omega, ext_tl (by rw [numT_pos (by omega), e, show ((n : Nat) : Int).natAbs = n by omega])⟩
theorem numT_inj {i j : Int} (hi : i.natAbs < 10 ^ 40) (hj : j.natAbs < 10 ^ 40) (h : numT i = numT j) : i = j := by
  have a := (num_ok hi).2.1
  have b := (num_ok hj).2.1
  rw [h, b] at a
  exact (Option.some.inj a).symm
/-- no blanks, no line feeds in a number's text -/
theorem numT_free {i : Int} {c : Nat} (h : c < 45 ∨ 57 < c) : c ∉ tl (numT i) := fun m => by
  by_cases z : 0 ≤ i
  · rw [numT_pos z] at m
    exact numL_free (by omega) m
  · rw [numT_neg (by omega)] at m
    rcases List.mem_cons.mp m with e | m
    · omega
    · exact numL_free (by omega) m
end PT

set_option maxHeartbeats 4000000
/-! the text of a plant taken apart -/
namespace PT
open PySem PySem.Spec PyProof.Rows L2 TL
def nlT : Str := Str.ofString "\n"
def spT : Str := Str.ofString " "
theorem tl_nl : tl nlT = [10] := tl_lit (by decide)
theorem tl_sp : tl spT = [32] := tl_lit (by decide)
/-- a line without its end -/
def rowT (a : Str) (i : Int) : Str := a ++ spT ++ numT i
def rowsT : List Str → List Int → List Str
  | a :: as, i :: is => rowT a i :: rowsT as is
  | _, _ => []
theorem rowsT_len : ∀ {as : List Str} {is : List Int}, as.length = is.length → (rowsT as is).length = as.length
  | [], [], _ => rfl
  | a :: as, i :: is, h => by rw [rowsT, List.length_cons, List.length_cons, rowsT_len (Nat.succ.inj h)]
theorem rowsT_get : ∀ {as : List Str} {is : List Int} {k : Nat} {a : Str} {i : Int}, as[k]? = some a → is[k]? = some i → (rowsT as is)[k]? = some (rowT a i)
  | _ :: _, _ :: _, 0, _, _, e, f => by cases e; cases f; rfl
  | _ :: as, _ :: is, k + 1, _, _, e, f => rowsT_get (as := as) (is := is) (k := k) e f
theorem rowsT_all {p : Str → Prop} : ∀ {as : List Str} {is : List Int}, (∀ a ∈ as, ∀ i ∈ is, p (rowT a i)) → ∀ y ∈ rowsT as is, p y
  | [], _, _, y, h => by cases h
  | _ :: _, [], _, y, h => by cases h
  | a :: as, i :: is, q, y, h => by
    rcases List.mem_cons.mp h with rfl | h
    · exact q a List.mem_cons_self i List.mem_cons_self
    · exact rowsT_all (fun b hb j hj => q b (List.mem_cons_of_mem _ hb) j (List.mem_cons_of_mem _ hj)) y h
theorem tl_cat : ∀ ys : List Str, tl (Str.join Str.empty ys) = (ys.map tl).flatten
  | [] => rfl
  | [x] => by
    show tl x = _
    rw [List.map_cons, List.map_nil, List.flatten_cons, List.flatten_nil, List.append_nil]
  | x :: z :: r => by
    show tl (x ++ Str.empty ++ Str.join Str.empty (z :: r)) = _
    rw [tl_append, tl_append, tl_cat (z :: r), show tl Str.empty = [] from rfl, List.append_nil, List.map_cons, List.flatten_cons]
    rfl
/-- the lines, joined by line feeds, with one more at the end -/
theorem show_rows : ∀ {as : List Str} {is : List Int}, as.length = is.length → 1 ≤ as.length → ((linesT as is).map tl).flatten = joinL [10] ((rowsT as is).map tl) ++ [10]
  | [a], [i], _, _ => by
    show tl (lineT a i) ++ [] = tl (rowT a i) ++ [10]
    unfold lineT rowT
    rw [List.append_nil, tl_append, show tl (Str.ofString "\n") = [10] from tl_nl]
    rfl
  | a :: b :: as, i :: j :: is, h, _ => by
    have ih := show_rows (as := b :: as) (is := j :: is) (Nat.succ.inj h) (by simp)
    have e : ((linesT (a :: b :: as) (i :: j :: is)).map tl).flatten = tl (lineT a i) ++ ((linesT (b :: as) (j :: is)).map tl).flatten := rfl
    have f : joinL [10] ((rowsT (a :: b :: as) (i :: j :: is)).map tl) = tl (rowT a i) ++ ([10] ++ joinL [10] ((rowsT (b :: as) (j :: is)).map tl)) := rfl
    rw [e, f, ih]
    unfold lineT rowT
    rw [tl_append _ (Str.ofString "\n"), show tl (Str.ofString "\n") = [10] from tl_nl, List.append_assoc, List.append_assoc, List.append_assoc]
    rfl
  | [_], _ :: _ :: _, h, _ => by simp at h
  | _ :: _ :: _, [_], h, _ => by simp at h
  | [], _, _, h => absurd h (by simp)
  | _ :: _, [], h, _ => by simp at h
theorem showT_tl {pl ss : List Int} (h : ss.length = pl.length + 1) : tl (showT pl ss) = joinL [10] ((rowsT (bosses pl) ss).map tl) ++ [10] := by
  have lb : (bosses pl).length = ss.length := by
    rw [h]
    show (pl.map numT).length + 1 = _
    rw [List.length_map]
  unfold showT
  rw [join_eq, tl_cat, show_rows lb (by rw [lb, h]; omega)]
theorem boss_free {pl : List Int} {c : Nat} (h : c = 10 ∨ c = 32) : ∀ a ∈ bosses pl, c ∉ tl a := fun a ha => by
  rcases List.mem_cons.mp ha with rfl | ha
  · rw [show tl (Str.ofString "shop") = [115, 104, 111, 112] from tl_lit (by decide)]
    rcases h with rfl | rfl <;> decide
  · obtain ⟨x, _, rfl⟩ := List.mem_map.mp ha
    exact numT_free (by omega)
theorem row_free {pl ss : List Int} : ∀ y ∈ rowsT (bosses pl) ss, 10 ∉ tl y := rowsT_all fun a ha i _ m => by
  unfold rowT at m
  rw [tl_append, tl_append, tl_sp] at m
  rcases List.mem_append.mp m with m | m
  · rcases List.mem_append.mp m with m | m
    · exact boss_free (.inl rfl) a ha m
    · exact absurd (List.mem_singleton.mp m) (by decide)
  · exact numT_free (.inl (by decide)) m
theorem show_ends {pl ss : List Int} (h : ss.length = pl.length + 1) : Txt.endswith (showT pl ss) nlT = true := by
  rw [ends_tl, showT_tl h, tl_nl]
  rw [List.length_append]
  rw [decide_eq_true (by simp), show (joinL [10] ((rowsT (bosses pl) ss).map tl)).length + [10].length - [10].length = (joinL [10] ((rowsT (bosses pl) ss).map tl)).length from by simp, List.drop_left]
  rfl
theorem show_split {pl ss : List Int} (h : ss.length = pl.length + 1) : Txt.split (Txt.removesuffix (showT pl ss) nlT) nlT = rowsT (bosses pl) ss := by
  have lb : (bosses pl).length = ss.length := by
    rw [h]
    show (pl.map numT).length + 1 = _
    rw [List.length_map]
  have e : Txt.removesuffix (showT pl ss) nlT = Txt.join nlT (rowsT (bosses pl) ss) := by
    refine ext_tl ?_
    rw [rmsuf_tl, if_pos (show_ends h), showT_tl h, tl_nl, join_eq, tl_join, tl_nl, List.length_append]
    rw [show (joinL [10] ((rowsT (bosses pl) ss).map tl)).length + [10].length - [10].length = (joinL [10] ((rowsT (bosses pl) ss).map tl)).length from by simp, List.take_left]
  rw [e]
  refine split_join tl_nl (by decide +kernel) (fun z => ?_) row_free
  have := rowsT_len lb
  rw [z, lb, h] at this
  exact absurd this (by simp)
theorem row_split {pl : List Int} {a : Str} (ha : a ∈ bosses pl) (i : Int) : Txt.split (rowT a i) spT = [a, numT i] := by
  have e : rowT a i = Txt.join spT [a, numT i] := by
    rw [join_eq]
    rfl
  rw [e]
  refine split_join tl_sp (by decide +kernel) (by simp) fun p hp => ?_
  rcases List.mem_cons.mp hp with rfl | hp
  · exact boss_free (.inr rfl) p ha
  · rw [List.mem_singleton.mp hp]
    exact numT_free (.inl (by decide))
theorem showT_len {pl ss : List Int} (hp : pl.length ≤ 39) (h : ss.length = pl.length + 1) (sp : ∀ x ∈ pl, x.natAbs < 10 ^ 50) (sm : ∀ x ∈ ss, x.natAbs < 10 ^ 50) : (showT pl ss).length ≤ 5200 := by
  have lb : (bosses pl).length = ss.length := by
    rw [h]
    show (pl.map numT).length + 1 = _
    rw [List.length_map]
  have ll := linesT_len lb
  have big := sum_le (B := 130) (ys := linesT (bosses pl) ss) (linesT_all fun a ha i hi => lineT_len (bosses_len sp a ha) (sm i hi))
  have e : (showT pl ss).length = ((linesT (bosses pl) ss).map (·.length)).sum := by
    unfold showT
    rw [join_eq, len_tl, tl_cat, List.length_flatten, List.map_map]
    rfl
  have y : (linesT (bosses pl) ss).length * 130 ≤ 40 * 130 := Nat.mul_le_mul_right _ (by omega)
  omega
theorem plant_sm {pl : List Int} (h : Plant pl) : ∀ x ∈ pl, x.natAbs < 10 ^ 40 := fun x hx => by
  obtain ⟨i, hi⟩ := List.mem_iff_getElem?.mp hx
  have lt := (List.getElem?_eq_some_iff.mp hi).1
  obtain ⟨h0, h1⟩ := h.ok i x hi
  have := h.len
  omega
/-- the rows as they stand in the heap -/
structure RowsT (H : Hp) (rs : List Addr) (pl ss : List Int) : Prop where
  len : rs.length = ss.length
  at_ : ∀ (i : Nat) (r : Addr) (a : Str) (n : Int), rs[i]? = some r → (bosses pl)[i]? = some a → ss[i]? = some n → H r = some (.lst [.str a, .str (numT n)])
theorem cutV_tail (xs : List V) : cutV xs (some 1) none = xs.drop 1 := by
  unfold cutV
  rw [HT.sIx_none, show (1 : Int) = ((1 : Nat) : Int) from rfl, HT.sIx_nat]
  by_cases h : 1 ≤ xs.length
  · rw [Nat.min_eq_left h, List.take_of_length_le (by rw [List.length_drop]; exact Nat.le_refl _)]
  · rw [Nat.min_eq_right (by omega), List.drop_length, List.drop_of_length_le (by omega), List.take_nil]
end PT


set_option maxHeartbeats 4000000
/-! numbers in a text -/
namespace PT
open PySem PySem.Spec PyProof.Rows L2
section
variable {P : Program} {w : World} {K : PySem.W.Frag} {mg : Str → Option Value} {base : Heap}
def spIsDecimal : Sp := fun vs H Q _ => ∃ (x : Str) (m : Int), vs = [.str x, .int m] ∧ x.length ≤ sizeLine ∧ Q (.bl (decT x m)) H
theorem Tx.isDecimal (T : Tx K mg) {k : Nat} : FnOk P w K mg base CX0 (k + 1) T.f_is_decimal T.d_is_decimal ["text", "most"] spIsDecimal := by
  refine T.F_is_decimal.ok scIsDecimal (fun vs H Q E h => ?_) (fun cdv A outer s H vs Q E hr h => ?_)
  · obtain ⟨x, m, rfl, _⟩ := h
    rfl
  · obtain ⟨x, m, rfl, hl, q⟩ := h
    refine ⟨_, (pss_cons (ps_if (PW.pt (pw_or (pt_not (pt_val (pe_bm0 PySem.F.plainAttrs_str PySem.F.slot_str_isascii PySem.F.type_str_isascii mt_isascii (pv 0) ))) (pw_or (pt_not (pt_val (pe_bm0 PySem.F.plainAttrs_str PySem.F.slot_str_isdigit PySem.F.type_str_isdigit mt_isdigit (pv 0) ))) (pw_or1 (pt_cmpR op_gt (pe_callB call_len_str (by rfl) T.n_len PySem.boot_len (pa_cons (pv 0) pa_nil)) (pv 1) (nomark _))))))
(pss_one (ps_ret pe_bl)) pss_nil)
(pss_one (ps_ret (pe_or (pe_cmpR op_eq (pv 0) pe_str (nomark _)) (pe_one (pe_not (pe_bm PySem.F.plainAttrs_str PySem.F.slot_str_startswith PySem.F.type_str_startswith mt_startswith (pv 0) (pa_cons pe_str pa_nil)))))))), ?_⟩
    unfold decT at q
    refine ⟨.str x, rfl, rfl, x, rfl, rfl, trivial, _, rfl, ite2 (fun c1 => ?_) (fun c1 => ?_)⟩
    · rw [if_pos c1] at q
      exact q
    rw [if_neg c1] at q
    refine ⟨.str x, rfl, rfl, x, rfl, rfl, trivial, _, rfl, ite2 (fun c2 => ?_) (fun c2 => ?_)⟩
    · rw [if_pos c2] at q
      exact q
    rw [if_neg c2] at q
    refine ⟨.str x, rfl, x, rfl, hl, .int m, rfl, _, _, rfl, rfl, _, rfl, ite2 (fun c3 => ?_) (fun c3 => ?_)⟩
    · rw [if_pos (of_decide_eq_true c3)] at q
      exact q
    rw [if_neg (fun z => c3 (decide_eq_true z))] at q
    refine ⟨.str x, rfl, rfl, _, rfl, ite2 (fun c4 => ?_) (fun c4 => ?_)⟩
    · rw [decide_eq_true (V.str.inj (of_decide_eq_true c4)), Bool.true_or] at q
      exact q
    rw [decide_eq_false (fun z => c4 (decide_eq_true (by rw [z]))), Bool.false_or] at q
    exact ⟨.str x, rfl, rfl, x, Str.ofString "0", rfl, rfl, _, rfl, q⟩
def spCheckText : Sp := fun vs H Q _ => vs = [.bl true] ∧ Q .non H
theorem Tx.checkText (T : Tx K mg) {k : Nat} : FnOk P w K mg base CX0 (k + 1) T.f_check_text T.d_check_text ["holds"] spCheckText := by
  refine T.F_check_text.ok scCheckText (fun vs H Q E h => ?_) (fun cdv A outer s H vs Q E hr h => ?_)
  · obtain ⟨rfl, _⟩ := h
    rfl
  · obtain ⟨rfl, q⟩ := h
    refine ⟨_, (pss_one (ps_if (pt_not (pt_val (pv 0)))
(pss_one ps_never) pss_nil)), ?_⟩
    exact ⟨.bl true, rfl, true, rfl, iteF q⟩
def spNumberIn : Sp := fun vs H Q _ => ∃ (x : Str) (i : Int), vs = [.str x] ∧ numB x ∧ PySem.intText? x = some i ∧ x.length ≤ 640 ∧ Q (.int i) H
theorem Tx.numberIn (T : Tx K mg) {k : Nat} : FnOk P w K mg base CX0 (k + 2) T.f_number_in T.d_number_in ["text"] spNumberIn := by
  refine T.F_number_in.ok scNumberIn (fun vs H Q E h => ?_) (fun cdv A outer s H vs Q E hr h => ?_)
  · obtain ⟨x, i, rfl, _⟩ := h
    rfl
  · obtain ⟨x, i, rfl, hb, hi, hl, q⟩ := h
    refine ⟨_, (pss_cons (ps_expr (pe_call (T.checkText (k := 0)) (hr.mono (by omega)) (by rfl) T.g_check_text T.F_check_text.kp T.b_check_text .nil pass0 (pa_cons (pe_and (pe_call (T.isDecimal (k := 0)) (hr.mono (by omega)) (by rfl) T.g_is_decimal T.F_is_decimal.kp T.b_is_decimal .nil pass0 (pa_cons (pe_bm PySem.F.plainAttrs_str PySem.F.slot_str_removeprefix PySem.F.type_str_removeprefix mt_removeprefix (pv 0) (pa_cons pe_str pa_nil)) (pa_cons (pe_glob (v := .int 40) (by rfl) T.g_MOST_DIGITS ⟨_, rfl⟩) pa_nil))) (pe_one (pe_cmpR op_ne (pv 0) pe_str (nomark _)))) pa_nil)))
(pss_one (ps_ret (pe_callTy call_int_str (by rfl) T.n_int (by decide +kernel) (pa_cons (pv 0) pa_nil))))), ?_⟩
    have small : x.length ≤ sizeLine := Nat.le_trans hl (by decide)
    have l2 : (Txt.removeprefix x minus).length ≤ sizeLine := by
      rw [TL.len_tl, rmpre_tl]
      split
      · rw [List.length_drop, ← TL.len_tl]; omega
      · rw [← TL.len_tl]; exact small
    refine ⟨.str x, rfl, rfl, x, minus, rfl, rfl, small, _, _, rfl, l2, ?_⟩
    refine ⟨_, rfl, ite2 (fun _ => ?_) (fun c => absurd hb.1 c)⟩
    refine ⟨.str x, rfl, rfl, ?_⟩
    rw [decide_eq_false (fun z => hb.2 (V.str.inj z))]
    exact ⟨rfl, .str x, rfl, x, i, rfl, hi, hl, q⟩
end
end PT


set_option maxHeartbeats 4000000
/-! the checks of the program -/
namespace PT
open PySem PySem.Spec PyProof.Rows L2

theorem FitsIs.kd {H : Hp} {v : V} {r : Bool} (h : FitsIs H v r) : ∃ n, Kd H v n := by
  cases h with
  | no k _ => exact ⟨_, k⟩
  | tup a _ _ => exact ⟨_, .tup a⟩
theorem fitsV_no {xs : List V} {i : Nat} {x : V} (h : xs[i]? = some x) (c : okV 0 (i : Nat) x = false) : fitsV xs = false := by
  unfold fitsV
  have e := okVs_at h
  rw [c] at e
  have z : (okVs xs).all id = false := by
    rw [List.all_eq_false]
    exact ⟨false, List.mem_of_getElem? e, by decide⟩
  rw [z, Bool.and_false]
theorem okVs_next {xs : List V} {i : Nat} {x : V} (h : xs[i]? = some x) (a : ((okVs xs).take i).all id = true) (c : okV 0 (i : Nat) x = true) : ((okVs xs).take (i + 1)).all id = true := by
  rw [take_next (okVs_at h), List.all_append, a, c]
  rfl
section
variable {P : Program} {w : World} {K : PySem.W.Frag} {mg : Str → Option Value} {base : Heap}
def spIsInteger : Sp := fun vs H Q _ => ∃ v n, vs = [v] ∧ Kd H v n ∧ Q (.bl (isI v)) H
theorem Tx.isInteger (T : Tx K mg) {k : Nat} : FnOk P w K mg base CX0 (k + 1) T.f_is_integer T.d_is_integer ["value"] spIsInteger := by
  refine T.F_is_integer.ok scIsInteger (fun vs H Q E h => ?_) (fun cdv A outer s H vs Q E hr h => ?_)
  · obtain ⟨v, n, rfl, _⟩ := h
    rfl
  · obtain ⟨v, n, rfl, hk, q⟩ := h
    refine ⟨_, pss_one (ps_ret (pe_and (pe_callB call_isi (by rfl) T.n_isinstance (by decide +kernel) (pa_cons (pv 0) (pa_cons (pe_bltn (v := .ty "int") (by rfl) T.n_int (by decide +kernel) rfl) pa_nil)))
      (pe_one (pe_not (pe_callB call_isi (by rfl) T.n_isinstance (by decide +kernel) (pa_cons (pv 0) (pa_cons (pe_bltn (v := .ty "bool") (by rfl) T.n_bool (by decide +kernel) rfl) pa_nil))))))), ?_⟩
    refine ⟨v, rfl, v, .ty "int", _, _, _, rfl, .ty _, hk.tyx, kd_int hk, _, rfl, ?_⟩
    refine ite2 (fun e => ⟨v, rfl, v, .ty "bool", _, _, _, rfl, .ty _, hk.tyx, kd_bool hk, _, rfl, ?_⟩) fun e => ?_
    · cases v <;> first | exact q | (simp [isI, isB] at e)
    · cases v <;> first | exact q | (simp [isI, isB] at e)
def spIsWithin : Sp := fun vs H Q _ => ∃ v n lo hi, vs = [v, .int lo, .int hi] ∧ Kd H v n ∧ Q (.bl (okV lo hi v)) H
/-! ### fits_plant -/
def spFits : Sp := fun vs H Q _ => ∃ v r, vs = [v] ∧ FitsIs H v r ∧ ∀ H', Same H H' → Q (.bl r) H'
theorem Tx.fits (T : Tx K mg) {k : Nat} : FnOk P w K mg base CX0 (k + 1) T.f_fits_plant T.d_fits_plant ["value"] spFits := by
  refine T.F_fits_plant.ok scFitsPlant (fun vs H Q E h => ?_) (fun cdv A outer s H vs Q E hr h => ?_)
  · obtain ⟨v, r, rfl, _⟩ := h
    rfl
  · obtain ⟨v, r, rfl, hf, q⟩ := h
    have nd := scFitsPlant.nd
    refine ⟨_, pss_cons (ps_if (PW.pt (pw_or (pt_not (pt_val (pe_callB call_isi (by rfl) T.n_isinstance (by decide +kernel) (pa_cons (pv 0) (pa_cons (pe_bltn (v := .ty "tuple") (by rfl) T.n_tuple (by decide +kernel) rfl) pa_nil)))))
        (pw_or1 (pt_cmpR op_ge (pe_callB call_len_seq (by rfl) T.n_len PySem.boot_len (pa_cons (pv 0) pa_nil)) (pe_glob (v := .int 40) rfl T.g_MOST_STATIONS ⟨_, rfl⟩) (nomark _)))))
        (pss_one (ps_ret pe_bl)) pss_nil)
      (pss_cons (ps_set (i := 1) nd rfl (.inl rfl) pe_int)
      (pss_cons (ps_for PassesOwn.never rfl (pi_tup (pv 0)) (pg_name (i := 2) nd rfl (.inl rfl))
        (pss_cons (ps_if (PW.pt (pw_or (pt_not (pt_val (pe_callB call_isi (by rfl) T.n_isinstance (by decide +kernel) (pa_cons (pv 2) (pa_cons (pe_bltn (v := .ty "int") (by rfl) T.n_int (by decide +kernel) rfl) pa_nil)))))
            (pw_or (pt_cmpR op_isK (pv 2) pe_bl (nomark _)) (pw_or (pt_cmpR op_isK (pv 2) pe_bl (nomark _)) (pw_or (pt_cmpR op_lt (pv 2) pe_int (nomark _)) (pw_or1 (pt_cmpR op_gt (pv 2) (pv 1) (nomark _))))))))
          (pss_one (ps_ret pe_bl)) pss_nil)
        (pss_one (ps_aug (i := 1) nd rfl (.inl rfl) pe_int ip_add))))
      (pss_one (ps_ret pe_bl)))), ?_⟩
    cases hf with
    | no hk hn =>
      refine ⟨_, rfl, _, .ty "tuple", _, _, _, rfl, .ty _, hk.tyx, kd_tuple hk, _, rfl, ?_⟩
      rw [show (_ == "tuple") = false from beq_eq_false_iff_ne.mpr hn]
      exact iteT (iteT (q _ (Same.refl H)))
    | @tup a xs ha hl hx =>
      refine ⟨_, rfl, _, .ty "tuple", _, _, _, rfl, .ty _, (Kd.tup ha).tyx, kd_tuple (.tup ha), _, rfl, ?_⟩
      have hT : SqT K H a xs := .inl (.inl ha)
      refine iteF ⟨_, rfl, a, xs, rfl, .inr hT, (xs.length : Int), 40, rfl, rfl, _, rfl, ite2 (fun e => ?_) fun e => ?_⟩
      · have z : fitsV xs = false := by
          unfold fitsV
          rw [decide_eq_false (by have := of_decide_eq_true e; omega), Bool.false_and]
        rw [z] at q
        exact q _ (Same.refl H)
      · have lt : xs.length < 40 := by
          have := of_decide_eq_false (eq_false_of_ne_true e)
          omega
        have z : fitsV xs = (okVs xs).all id := by
          unfold fitsV
          rw [decide_eq_true lt, Bool.true_and]
        refine ⟨_, rfl, a, rfl, ⟨_, hT⟩, ?_⟩
        refine for_tup (xs := xs) (fun i σ H' => H' = H ∧ ((okVs xs).take i).all id = true ∧ ∃ o, σ = [some (.ref a), some (.int (i : Nat)), o]) ⟨rfl, rfl, none, rfl⟩ (fun i σ H' _ p => by rw [p.1]; exact hT) (fun i x σ H' ex p => ?_) (fun σ H' p => ?_)
        · obtain ⟨rfl, al, o, rfl⟩ := p
          obtain ⟨m, km⟩ := hx x (List.mem_of_getElem? ex)
          have bad : okV 0 (i : Nat) x = false → Q (.bl false) H' := fun c => by
            have y := q H' (Same.refl H')
            rw [fitsV_no ex c] at y
            exact y
          refine ⟨x, rfl, x, .ty "int", _, _, _, rfl, .ty _, km.tyx, kd_int km, _, rfl, ?_⟩
          by_cases c1 : (isI x || isB x) = true
          · rw [c1]
            have kb : (∃ a, x = V.bl a) ∨ ∃ i, x = V.int i := by
              cases x <;> first | exact .inl ⟨_, rfl⟩ | exact .inr ⟨_, rfl⟩ | exact nomatch (show false = true from c1)
            refine iteF ⟨x, rfl, true, rfl, kb, _, rfl, ?_⟩
            rcases kb with ⟨b, rfl⟩ | ⟨j, rfl⟩
            · cases b with
              | true => exact iteT (iteT (bad rfl))
              | false => exact iteF ⟨_, rfl, false, rfl, .inl ⟨_, rfl⟩, _, rfl, iteT (iteT (bad rfl))⟩
            · refine iteF ⟨_, rfl, false, rfl, .inr ⟨_, rfl⟩, _, rfl, iteF ⟨_, rfl, j, 0, rfl, rfl, _, rfl, ite2 (fun e1 => iteT ?ca) fun e1 => ⟨_, rfl, _, rfl, j, (i : Nat), rfl, rfl, _, rfl, ite2 (fun e2 => ?cb) fun e2 => ?cc⟩⟩⟩
              case ca =>
                refine bad ?_
                show (decide (0 ≤ j) && decide (j ≤ ((i : Nat) : Int))) = false
                rw [decide_eq_false (by have := of_decide_eq_true e1; omega), Bool.false_and]
              case cb =>
                refine bad ?_
                show (decide (0 ≤ j) && decide (j ≤ ((i : Nat) : Int))) = false
                rw [decide_eq_false (show ¬ j ≤ ((i : Nat) : Int) by have := of_decide_eq_true e2; omega), Bool.and_false]
              case cc =>
                have g1 := of_decide_eq_false (eq_false_of_ne_true e1)
                have g2 := of_decide_eq_false (eq_false_of_ne_true e2)
                have ok1 : okV 0 (i : Nat) (.int j) = true := by
                  show (decide (0 ≤ j) && decide (j ≤ ((i : Nat) : Int))) = true
                  rw [decide_eq_true (by omega), decide_eq_true (by omega)]
                  rfl
                refine ⟨_, rfl, _, _, rfl, rfl, rfl, okVs_next ex al ok1, _, rfl⟩
          · have c2 := eq_false_of_ne_true c1
            rw [c2]
            refine iteT (iteT (bad ?_))
            cases x <;> first | rfl | exact nomatch (show true = false from c2)
        · obtain ⟨rfl, al, o, rfl⟩ := p
          rw [List.take_of_length_le (by rw [okVs_len]; omega)] at al
          rw [z, al] at q
          exact q _ (Same.refl _)
/-! ### check_plant, check_station, is_plant -/
def spIsPlant : Sp := spFits
def spCheckPlant : Sp := fun vs H Q _ => ∃ v, vs = [v] ∧ FitsIs H v true ∧ ∀ H', Same H H' → Q .non H'
theorem Tx.checkPlant (T : Tx K mg) {k : Nat} : FnOk P w K mg base CX0 (k + 2) T.f_check_plant T.d_check_plant ["plant"] spCheckPlant := by
  refine T.F_check_plant.ok scCheckPlant (fun vs H Q E h => ?_) (fun cdv A outer s H vs Q E hr h => ?_)
  · obtain ⟨v, rfl, _⟩ := h
    rfl
  · obtain ⟨v, rfl, hf, q⟩ := h
    refine ⟨_, pss_one (ps_if (pt_not (pt_val (pe_call T.fits hr (by rfl) T.g_fits_plant T.F_fits_plant.kp T.b_fits_plant .nil pass0 (pa_cons (pv 0) pa_nil)))) (pss_one ps_never) pss_nil), ?_⟩
    exact ⟨v, rfl, v, true, rfl, hf, fun H' sm => ⟨true, rfl, iteF (q H' sm)⟩⟩
def spFitsStation : Sp := fun vs H Q _ => ∃ (p : Addr) (xs : List V) (v : V) (n : String), vs = [.ref p, v] ∧ SqT K H p xs ∧ Kd H v n ∧ Q (.bl (okV 0 (xs.length : Nat) v)) H
def spCheckStation : Sp := fun vs H Q _ => ∃ (p : Addr) (xs : List V) (j : Int), vs = [.ref p, .int j] ∧ SqT K H p xs ∧ 0 ≤ j ∧ j ≤ xs.length ∧ Q .non H
/-! ### fits_stock, check_stock, check_supplier, check_days -/
def spFitsStock : Sp := fun vs H Q _ => ∃ (p q : Addr) (xs : List V) (ss : List Int), vs = [.ref p, .ref q] ∧ SqT K H p xs ∧ H q = some (.tup (ss.map V.int)) ∧ ss.length = xs.length + 1 ∧ ss.length ≤ 100 ∧ ss.Nodup ∧ ∀ H', Same H H' → Q (.bl true) H'
theorem Tx.fitsStock (T : Tx K mg) {k : Nat} : FnOk P w K mg base CX0 (k + 2) T.f_fits_stock T.d_fits_stock ["plant", "value"] (spFitsStock (K := K)) := by
  refine T.F_fits_stock.ok scFitsStock (fun vs H Q E h => ?_) (fun cdv A outer s H vs Q E hr h => ?_)
  · obtain ⟨p, q, xs, ss, rfl, _⟩ := h
    rfl
  · obtain ⟨p, q, xs, ss, rfl, hT, hq, hl, hs, nd, qq⟩ := h
    refine ⟨_, pss_cons (ps_if (PW.pt (pw_or (pt_not (pt_val (pe_callB call_isi (by rfl) T.n_isinstance (by decide +kernel) (pa_cons (pv 1) (pa_cons (pe_bltn (v := .ty "tuple") (by rfl) T.n_tuple (by decide +kernel) rfl) pa_nil)))))
        (pw_or1 (pt_cmpR op_ne (pe_callB call_len_seq (by rfl) T.n_len PySem.boot_len (pa_cons (pv 1) pa_nil)) (pe_op op_add (pe_callB call_len_seq (by rfl) T.n_len PySem.boot_len (pa_cons (pv 0) pa_nil)) pe_int) (nomark _)))))
        (pss_one (ps_ret pe_bl)) pss_nil)
      (pss_cons (ps_if (pt_not (pt_val (pe_callB (cr_all rfl) (by rfl) T.n_all (by decide +kernel) (pa_cons
          (pe_lc (own := [("box", 2)]) (g := gName 2) (tt := tYes) (te := tCall spIsInteger [] E0 (tCons (tVar 2) tNil)) rfl scFitsStock.nd (pi_tup (pv 1)) (blkOk_by (N := ["plant", "value", "box"]) (sc := defScope sFitsStock) (by decide +kernel))
            (fun _ _ _ _ _ => pg_name (i := 2) scFitsStock.nd rfl (.inl rfl)) (fun _ _ _ _ _ => pts_nil)
            (fun _ _ _ _ _ => pe_call T.isInteger hr (by rfl) T.g_is_integer T.F_is_integer.kp T.b_is_integer .nil pass0 (pa_cons (pv 2) pa_nil))) pa_nil)))) (pss_one (ps_ret pe_bl)) pss_nil)
      (pss_one (ps_ret (pe_cmpR op_eq (pe_lenSetT (by rfl) T.n_len (by rfl) T.n_set (pv 1)) (pe_callB call_len_seq (by rfl) T.n_len PySem.boot_len (pa_cons (pv 1) pa_nil)) (nomark _))))), ?_⟩
    have hv : SqT K H q (ss.map V.int) := .inl (.inl hq)
    refine ⟨_, rfl, _, .ty "tuple", _, _, _, rfl, .ty _, (Kd.tup hq).tyx, kd_tuple (.tup hq), _, rfl, ?_⟩
    refine iteF ⟨_, rfl, q, _, rfl, .inr hv, .ref p, rfl, p, xs, rfl, .inr hT, _, 1, rfl, rfl, rfl, _, rfl, ?_⟩
    rw [show ((ss.map V.int).length : Int) = (xs.length : Int) + 1 by rw [List.length_map, hl]; rfl]
    rw [show (!decide (V.int ((xs.length : Int) + 1) = V.int ((xs.length : Int) + 1))) = false by rw [decide_eq_true rfl]; rfl]
    refine iteF ⟨.ref q, rfl, q, rfl, ⟨_, hv⟩, fun D nD => ?_⟩
    refine lc_tup (xs := ss.map V.int) (fun i H' => Same H H' ∧ H' D = some (.lst ((List.replicate i true).map V.bl))) ⟨same_new nD, upd_same⟩ (fun i H' _ p1 => seqT p1.1 hv) (fun i x H1 ex p1 => ?_) (fun H' p1 => ?_)
    · obtain ⟨sm, eD⟩ := p1
      obtain ⟨n, en, rfl⟩ : ∃ n, ss[i]? = some n ∧ V.int n = x := by
        rw [List.getElem?_map] at ex
        cases z : ss[i]? with
        | none => rw [z] at ex; cases ex
        | some n => rw [z] at ex; cases ex; exact ⟨n, rfl, rfl⟩
      have hi := (List.getElem?_eq_some_iff.mp en).1
      refine ⟨rfl, tyes_if ⟨.int n, rfl, .int n, "int", rfl, .int n, _, eD, ?_, fun b o hb => ?_, ?_⟩⟩
      · rw [List.length_map, List.length_replicate]
        exact small300 (by omega)
      · rw [upd_ne (ne_of_none hb nD)]
        exact sm _ _ hb
      · rw [upd_same, List.replicate_succ', List.map_append]
        rfl
    · obtain ⟨sm, eD⟩ := p1
      have ea : (List.replicate (ss.map V.int).length true).all id = true := by
        rw [List.all_replicate]
        simp
      refine ⟨D, _, rfl, .inl (.inl eD), _, rfl, ?_⟩
      rw [ea]
      refine iteF ⟨.ref q, rfl, q, ss, rfl, seqT sm hv, nd, by omega, .ref q, rfl, q, _, rfl, .inr (seqT sm hv), rfl, ?_⟩
      rw [show ((ss.map V.int).length : Int) = ((ss.length : Nat) : Int) by rw [List.length_map], decide_eq_true rfl]
      exact qq H' sm
def spCheckStock : Sp := spFitsStock (K := K)
theorem Tx.checkStock (T : Tx K mg) {k : Nat} : FnOk P w K mg base CX0 (k + 3) T.f_check_stock T.d_check_stock ["plant", "stock"] (fun vs H Q E => spFitsStock (K := K) vs H (fun _ H' => Q .non H') E) := by
  refine T.F_check_stock.ok scCheckStock (fun vs H Q E h => ?_) (fun cdv A outer s H vs Q E hr h => ?_)
  · obtain ⟨p, q, xs, ss, rfl, _⟩ := h
    rfl
  · obtain ⟨p, q, xs, ss, rfl, hT, hq, hl, hs, nd, qq⟩ := h
    refine ⟨_, pss_one (ps_if (pt_not (pt_val (pe_call T.fitsStock hr (by rfl) T.g_fits_stock T.F_fits_stock.kp T.b_fits_stock .nil pass0 (pa_cons (pv 0) (pa_cons (pv 1) pa_nil))))) (pss_one ps_never) pss_nil), ?_⟩
    exact ⟨.ref p, rfl, .ref q, rfl, p, q, xs, ss, rfl, hT, hq, hl, hs, nd, fun H' sm => ⟨true, rfl, iteF (qq H' sm)⟩⟩
def spCheckSupplier : Sp := fun vs H Q _ => ∃ (p : Addr) (pl : List Int) (v u : Nat), vs = [.ref p, .int (v : Int), .int (u : Int)] ∧ PlantAt H p pl ∧ 0 < u ∧ u ≤ pl.length ∧ cu pl u = v ∧ Q .non H
def spCheckDays : Sp := fun vs H Q _ => ∃ d lo hi : Int, vs = [.int d, .int lo, .int hi] ∧ lo ≤ d ∧ d ≤ hi ∧ Q .non H
end
end PT


set_option maxHeartbeats 4000000
/-! the check of a stock that its object knows -/
namespace PT
open PySem PySem.Spec PyProof.Rows L2
section
variable {P : Program} {w : World} {K : PySem.W.Frag} {mg : Str → Option Value} {base : Heap}
def spFitsStockF : Sp := fun vs H Q _ => ∃ (p q : Addr) (xs : List V) (ss : List Int), vs = [.ref p, .ref q] ∧ SqT K H p xs ∧ StkAt H q ss ∧ ss.length = xs.length + 1 ∧ ss.length ≤ 100 ∧ ss.Nodup ∧ ∀ H', Same H H' → Q (.bl true) H'
theorem Tx.fitsStockF (T : Tx K mg) {k : Nat} : FnOk P w K mg base CX0 (k + 2) T.f_fits_stock T.d_fits_stock ["plant", "value"] (spFitsStockF (K := K)) := by
  refine T.F_fits_stock.ok scFitsStock (fun vs H Q E h => ?_) (fun cdv A outer s H vs Q E hr h => ?_)
  · obtain ⟨p, q, xs, ss, rfl, _⟩ := h
    rfl
  · obtain ⟨p, q, xs, ss, rfl, hT, hq, hl, hs, nd, qq⟩ := h
    refine ⟨_, pss_cons (ps_if (PW.pt (pw_or (pt_not (pt_val (pe_callB call_isi (by rfl) T.n_isinstance (by decide +kernel) (pa_cons (pv 1) (pa_cons (pe_bltn (v := .ty "tuple") (by rfl) T.n_tuple (by decide +kernel) rfl) pa_nil)))))
        (pw_or1 (pt_cmpR op_ne (pe_callB call_len_seq (by rfl) T.n_len PySem.boot_len (pa_cons (pv 1) pa_nil)) (pe_op op_add (pe_callB call_len_seq (by rfl) T.n_len PySem.boot_len (pa_cons (pv 0) pa_nil)) pe_int) (nomark _)))))
        (pss_one (ps_ret pe_bl)) pss_nil)
      (pss_cons (ps_if (pt_not (pt_val (pe_callB (cr_all rfl) (by rfl) T.n_all (by decide +kernel) (pa_cons
          (pe_lc (own := [("box", 2)]) (g := gName 2) (tt := tYes) (te := tCall spIsInteger [] E0 (tCons (tVar 2) tNil)) rfl scFitsStock.nd (pi_tup (pv 1)) (blkOk_by (N := ["plant", "value", "box"]) (sc := defScope sFitsStock) (by decide +kernel))
            (fun _ _ _ _ _ => pg_name (i := 2) scFitsStock.nd rfl (.inl rfl)) (fun _ _ _ _ _ => pts_nil)
            (fun _ _ _ _ _ => pe_call T.isInteger hr (by rfl) T.g_is_integer T.F_is_integer.kp T.b_is_integer .nil pass0 (pa_cons (pv 2) pa_nil))) pa_nil)))) (pss_one (ps_ret pe_bl)) pss_nil)
      (pss_one (ps_ret (pe_cmpR op_eq (pe_lenSetT (by rfl) T.n_len (by rfl) T.n_set (pv 1)) (pe_callB call_len_seq (by rfl) T.n_len PySem.boot_len (pa_cons (pv 1) pa_nil)) (nomark _))))), ?_⟩
    have hv : SqT K H q (ss.map V.int) := hq.seq
    refine ⟨_, rfl, _, .ty "tuple", _, _, _, rfl, .ty _, hq.tyx, kit_tupT, _, rfl, ?_⟩
    refine iteF ⟨_, rfl, q, _, rfl, .inr hv, .ref p, rfl, p, xs, rfl, .inr hT, _, 1, rfl, rfl, rfl, _, rfl, ?_⟩
    rw [show ((ss.map V.int).length : Int) = (xs.length : Int) + 1 by rw [List.length_map, hl]; rfl]
    rw [show (!decide (V.int ((xs.length : Int) + 1) = V.int ((xs.length : Int) + 1))) = false by rw [decide_eq_true rfl]; rfl]
    refine iteF ⟨.ref q, rfl, q, rfl, ⟨_, hv⟩, fun D nD => ?_⟩
    refine lc_tup (xs := ss.map V.int) (fun i H' => Same H H' ∧ H' D = some (.lst ((List.replicate i true).map V.bl))) ⟨same_new nD, upd_same⟩ (fun i H' _ p1 => seqT p1.1 hv) (fun i x H1 ex p1 => ?_) (fun H' p1 => ?_)
    · obtain ⟨sm, eD⟩ := p1
      obtain ⟨n, en, rfl⟩ : ∃ n, ss[i]? = some n ∧ V.int n = x := by
        rw [List.getElem?_map] at ex
        cases z : ss[i]? with
        | none => rw [z] at ex; cases ex
        | some n => rw [z] at ex; cases ex; exact ⟨n, rfl, rfl⟩
      have hi := (List.getElem?_eq_some_iff.mp en).1
      refine ⟨rfl, tyes_if ⟨.int n, rfl, .int n, "int", rfl, .int n, _, eD, ?_, fun b o hb => ?_, ?_⟩⟩
      · rw [List.length_map, List.length_replicate]
        exact small300 (by omega)
      · rw [upd_ne (ne_of_none hb nD)]
        exact sm _ _ hb
      · rw [upd_same, List.replicate_succ', List.map_append]
        rfl
    · obtain ⟨sm, eD⟩ := p1
      have ea : (List.replicate (ss.map V.int).length true).all id = true := by
        rw [List.all_replicate]
        simp
      refine ⟨D, _, rfl, .inl (.inl eD), _, rfl, ?_⟩
      rw [ea]
      refine iteF ⟨.ref q, rfl, q, ss, rfl, seqT sm hv, nd, by omega, .ref q, rfl, q, _, rfl, .inr (seqT sm hv), rfl, ?_⟩
      rw [show ((ss.map V.int).length : Int) = ((ss.length : Nat) : Int) by rw [List.length_map], decide_eq_true rfl]
      exact qq H' sm
def spCheckStockF : Sp := spFitsStockF (K := K)
end
end PT


set_option maxHeartbeats 4000000
/-! read_plant of the text of a plant -/
namespace PT
open PySem PySem.Spec PyProof.Rows L2 TL
abbrev rSplit : V → List V → Hp → VK → Prop := fun x xs H Q => ∃ a b, x = .str a ∧ xs = [.str b] ∧ (b.length == 0) = false ∧ a.length + 2 ≤ sizeLine ∧ rNewStrs (Txt.split a b) H Q
section
variable {P : Program} {w : World} {K : PySem.W.Frag} {mg : Str → Option Value} {base : Heap}
def spReadPlant : Sp := fun vs H Q _ => ∃ (pl ss : List Int), vs = [.str (showT pl ss)] ∧ Plant pl ∧ ss.length = pl.length + 1 ∧ ss.Nodup ∧ (∀ n ∈ ss, n.natAbs < 10 ^ 40) ∧
  ∀ (H' : Hp) (t p q : Addr), Same H H' → H t = none → H p = none → H q = none → H' t = some (.tup [.ref p, .ref q]) → H' p = some (.tup (pl.map V.int)) → H' q = some (.tup (ss.map V.int)) → Q (.ref t) H'
theorem Tx.readPlant (T : Tx K mg) {k : Nat} : FnOk P w K mg base CX0 (k + 4) T.f_read_plant T.d_read_plant ["text"] spReadPlant := by
  refine T.F_read_plant.ok scReadPlant (fun vs H Q E h => ?_) (fun cdv A outer s H vs Q E hr h => ?_)
  · obtain ⟨pl, ss, rfl, _⟩ := h
    rfl
  · obtain ⟨pl, ss, rfl, hP, ls, nd0, sm, q⟩ := h
    have nd := scReadPlant.nd
    refine ⟨_, (pss_cons (ps_expr (pe_call (T.checkText (k := 0)) (hr.mono (by omega)) (by rfl) T.g_check_text T.F_check_text.kp T.b_check_text .nil pass0 (pa_cons (pe_and (pe_callB call_isi (by rfl) T.n_isinstance (by decide +kernel) (pa_cons (pv 0) (pa_cons (pe_bltn (v := .ty "str") (by rfl) T.n_str (by decide +kernel) rfl) pa_nil))) (pe_one (pe_bm PySem.F.plainAttrs_str PySem.F.slot_str_endswith PySem.F.type_str_endswith mt_endswith (pv 0) (pa_cons pe_str pa_nil)))) pa_nil)))
(pss_cons (ps_setLc (i := 1) (own := [("line", 4)]) (g := gName 4) (tt := tYes) (te := (tBM K "str" rSplit (tVar 4) (tCons (tC (.str " ")) tNil))) (by rfl) nd rfl rfl (sw_true rfl rfl rfl (by decide +kernel)) (pi_list (pe_bm PySem.F.plainAttrs_str PySem.F.slot_str_split PySem.F.type_str_split mt_split (pe_bm PySem.F.plainAttrs_str PySem.F.slot_str_removesuffix PySem.F.type_str_removesuffix mt_removesuffix (pv 0) (pa_cons pe_str pa_nil)) (pa_cons pe_str pa_nil)))
(blkOk_by (N := ["text", "rows", "plant", "stock", "line", "row"]) (sc := defScope sReadPlant) (by decide +kernel)) (fun _ _ _ _ _ => (pg_name (i := 4) nd rfl (.inl rfl))) (fun _ _ _ _ _ => pts_nil) (fun _ _ _ _ _ => (pe_bm PySem.F.plainAttrs_str PySem.F.slot_str_split PySem.F.type_str_split mt_split (pv 4) (pa_cons pe_str pa_nil))))
(pss_cons (ps_expr (pe_call (T.checkText (k := 0)) (hr.mono (by omega)) (by rfl) T.g_check_text T.F_check_text.kp T.b_check_text .nil pass0 (pa_cons (pe_and (pe_callB (cr_all rfl) (by rfl) T.n_all (by decide +kernel) (pa_cons (pe_lc (own := [("row", 5)]) (g := gName 5) (tt := tYes) (te := (tOp rEq (tCB (fun xs H Q => ∃ p ys, xs = [.ref p] ∧ (SqL K H p ys ∨ SqT K H p ys) ∧ Q (.int (ys.length : Int)) H) (tCons (tVar 5) tNil)) (tC (.int 2)))) rfl nd (pi_list (pv 1))
(blkOk_by (N := ["text", "rows", "plant", "stock", "line", "row"]) (sc := defScope sReadPlant) (by decide +kernel)) (fun _ _ _ _ _ => (pg_name (i := 5) nd rfl (.inl rfl))) (fun _ _ _ _ _ => pts_nil) (fun _ _ _ _ _ => (pe_cmpR op_eq (pe_callB call_len_seq (by rfl) T.n_len PySem.boot_len (pa_cons (pv 5) pa_nil)) pe_int (nomark _)))) pa_nil)) (pe_one (pe_cmpR op_eq (pe_ix ix_list (pe_ix ix_list (pv 1) pe_int (fun _ _ => rfl)) pe_int (fun _ _ => rfl)) pe_str (nomark _)))) pa_nil)))
(pss_cons (ps_set (i := 2) nd rfl (.inl rfl) (pe_callTy call_tuple_of (by rfl) T.n_tuple (by decide +kernel) (pa_cons (pe_lc (own := [("row", 5)]) (g := gName 5) (tt := tYes) (te := (tCall spNumberIn [] E0 (tCons (tOp (rIxL K) (tVar 5) (tC (.int 0))) tNil))) rfl nd (pi_list (pe_slice sl_list (pv 1) (po_some pe_int) po_none))
(blkOk_by (N := ["text", "rows", "plant", "stock", "line", "row"]) (sc := defScope sReadPlant) (by decide +kernel)) (fun _ _ _ _ _ => (pg_name (i := 5) nd rfl (.inl rfl))) (fun _ _ _ _ _ => pts_nil) (fun _ _ _ _ _ => (pe_call (T.numberIn (k := 0)) (hr.mono (by omega)) (by rfl) T.g_number_in T.F_number_in.kp T.b_number_in .nil pass0 (pa_cons (pe_ix ix_list (pv 5) pe_int (fun _ _ => rfl)) pa_nil)))) pa_nil)))
(pss_cons (ps_set (i := 3) nd rfl (.inl rfl) (pe_callTy call_tuple_of (by rfl) T.n_tuple (by decide +kernel) (pa_cons (pe_lc (own := [("row", 5)]) (g := gName 5) (tt := tYes) (te := (tCall spNumberIn [] E0 (tCons (tOp (rIxL K) (tVar 5) (tC (.int 1))) tNil))) rfl nd (pi_list (pv 1))
(blkOk_by (N := ["text", "rows", "plant", "stock", "line", "row"]) (sc := defScope sReadPlant) (by decide +kernel)) (fun _ _ _ _ _ => (pg_name (i := 5) nd rfl (.inl rfl))) (fun _ _ _ _ _ => pts_nil) (fun _ _ _ _ _ => (pe_call (T.numberIn (k := 0)) (hr.mono (by omega)) (by rfl) T.g_number_in T.F_number_in.kp T.b_number_in .nil pass0 (pa_cons (pe_ix ix_list (pv 5) pe_int (fun _ _ => rfl)) pa_nil)))) pa_nil)))
(pss_cons (ps_expr (pe_call (T.checkText (k := 0)) (hr.mono (by omega)) (by rfl) T.g_check_text T.F_check_text.kp T.b_check_text .nil pass0 (pa_cons (pe_and (pe_call (T.fits (k := 0)) (hr.mono (by omega)) (by rfl) T.g_fits_plant T.F_fits_plant.kp T.b_fits_plant .nil pass0 (pa_cons (pv 2) pa_nil)) (pe_one (pe_call (T.fitsStockF (k := 0)) (hr.mono (by omega)) (by rfl) T.g_fits_stock T.F_fits_stock.kp T.b_fits_stock .nil pass0 (pa_cons (pv 2) (pa_cons (pv 3) pa_nil))))) pa_nil)))
(pss_one (ps_ret (pe_tup (pa_cons (pv 2) (pa_cons (pv 3) pa_nil))))))))))), ?_⟩
    refine ⟨.str (showT pl ss), rfl, .str (showT pl ss), .ty "str", _, _, true, rfl, .ty _, .base (.str _), kit_ty (by decide +kernel), _, rfl, iteT ?_⟩
    refine ⟨.str (showT pl ss), rfl, rfl, showT pl ss, nlT, rfl, rfl, ?_⟩
    rw [show_ends ls]
    refine ⟨rfl, ?_⟩
    have lp := hP.len
    have smP := plant_sm hP
    have lX := showT_len lp ls (fun x hx => Nat.lt_trans (smP x hx) (by decide)) (fun x hx => Nat.lt_trans (sm x hx) (by decide))
    have lX2 : (Txt.removesuffix (showT pl ss) nlT).length ≤ 5200 := by
      rw [len_tl, rmsuf_tl]
      split
      · rw [List.length_take, ← len_tl]; omega
      · rw [← len_tl]; exact lX
    have line5 : 5202 ≤ sizeLine := by decide
    refine ⟨.str (showT pl ss), rfl, rfl, showT pl ss, nlT, rfl, rfl, by omega, rfl, Txt.removesuffix (showT pl ss) nlT, nlT, rfl, rfl, by decide +kernel, by omega, fun l nl => ?_⟩
    rw [show_split ls]
    have lb : (bosses pl).length = ss.length := by
      rw [ls]
      show (pl.map numT).length + 1 = _
      rw [List.length_map]
    have lr := rowsT_len lb
    have s1 := same_new (o := .lst ((rowsT (bosses pl) ss).map V.str)) nl
    have el : (upd H l (.lst ((rowsT (bosses pl) ss).map V.str))) l = some (.lst ((rowsT (bosses pl) ss).map V.str)) := upd_same
    generalize upd H l _ = H1 at s1 el ⊢
    refine ⟨l, rfl, ⟨_, .inl (.inl el)⟩, fun D nD => ?_⟩
    refine lc_list (xs := (rowsT (bosses pl) ss).map V.str) (fun i G => Same H1 G ∧ ∃ rs : List Addr, G D = some (.lst (rs.map V.ref)) ∧ rs.length = i ∧ (∀ r ∈ rs, H1 r = none ∧ r ≠ D) ∧ ∀ (k : Nat) (r : Addr) (a : Str) (n : Int), rs[k]? = some r → (bosses pl)[k]? = some a → ss[k]? = some n → G r = some (.lst [.str a, .str (numT n)]))
      ⟨same_new nD, [], upd_same, rfl, fun r h => (by cases h), fun k r a n h => (by cases h)⟩ (fun i G _ p1 => .inl (.inl (p1.1 _ _ el))) (fun i x G ex p1 => ?_) (fun G p1 => ?_)
    · obtain ⟨sG, rs, eD, lrs, new, at_⟩ := p1
      have hi := (List.getElem?_eq_some_iff.mp ex).1
      rw [List.length_map, lr] at hi
      have e1 : (bosses pl)[i]? = some (bosses pl)[i] := List.getElem?_eq_getElem hi
      have e2 : ss[i]? = some ss[i] := List.getElem?_eq_getElem (by omega)
      have m1 : (bosses pl)[i] ∈ bosses pl := List.getElem_mem hi
      have m2 : ss[i] ∈ ss := List.getElem_mem (by omega)
      rw [List.getElem?_map, rowsT_get e1 e2] at ex
      cases ex
      generalize (bosses pl)[i] = a0 at e1 m1
      generalize ss[i] = n0 at e2 m2
      have lrow : (rowT a0 n0).length ≤ 200 := by
        have z1 := bosses_len (fun x hx => Nat.lt_trans (smP x hx) (by decide)) a0 m1
        have z2 := numT_len (i := n0) (Nat.lt_trans (sm n0 m2) (by decide))
        have z3 : spT.length = 1 := by decide
        unfold rowT
        rw [Str.length_append, Str.length_append]
        omega
      refine ⟨rfl, tyes_if ⟨.str (rowT a0 n0), rfl, rfl, rowT a0 n0, spT, rfl, rfl, by decide +kernel, by omega, fun r nr => ?_⟩⟩
      rw [row_split m1]
      have sr := same_new (o := .lst ([a0, numT n0].map V.str)) nr
      have eD2 := sr _ _ eD
      have rD : r ≠ D := Ne.symm (ne_of_none eD nr)
      have er : (upd G r (.lst ([a0, numT n0].map V.str))) r = some (.lst [.str a0, .str (numT n0)]) := upd_same
      have nr1 : H1 r = none := sG.free nr
      generalize upd G r _ = G2 at sr eD2 er ⊢
      refine ⟨_, eD2, ?_, fun c o hc => ?_, rs ++ [r], ?_, ?_, fun c hc => ?_, fun k c a n g1 g2 g3 => ?_⟩
      · rw [List.length_map]
        exact small300 (by omega)
      · rw [upd_ne (ne_of_none hc nD)]
        exact sr _ _ (sG _ _ hc)
      · rw [upd_same, List.map_append]
        rfl
      · rw [List.length_append, lrs]
        rfl
      · rcases List.mem_append.mp hc with z | z
        · exact new c z
        · rw [List.mem_singleton.mp z]
          exact ⟨nr1, rD⟩
      · rcases Nat.lt_trichotomy k i with z | z | z
        · rw [List.getElem?_append_left (by omega)] at g1
          rw [upd_ne (new c (List.mem_of_getElem? g1)).2]
          exact sr _ _ (at_ k c a n g1 g2 g3)
        · subst z
          rw [List.getElem?_append_right (by omega), lrs, Nat.sub_self] at g1
          cases g1
          rw [e1] at g2
          rw [e2] at g3
          cases g2
          cases g3
          rw [upd_ne rD]
          exact er
        · rw [List.getElem?_eq_none (by rw [List.length_append, lrs]; exact z)] at g1
          cases g1
    obtain ⟨sG, rs, eD, lrs, new, at_⟩ := p1
    rw [List.length_map, lr] at lrs
    have s2 := s1.trans sG
    clear sG el s1 nD nl
    have rrow : ∀ (k : Nat) (r : Addr), rs[k]? = some r → ∃ a n, (bosses pl)[k]? = some a ∧ ss[k]? = some n ∧ G r = some (.lst [.str a, .str (numT n)]) := fun k r e => by
      have hk := (List.getElem?_eq_some_iff.mp e).1
      have e1 : (bosses pl)[k]? = some (bosses pl)[k] := List.getElem?_eq_getElem (by omega)
      have e2 : ss[k]? = some ss[k] := List.getElem?_eq_getElem (by omega)
      exact ⟨_, _, e1, e2, at_ k r _ _ e e1 e2⟩
    refine ⟨.ref D, rfl, D, rfl, ⟨_, .inl (.inl eD)⟩, fun D2 nD2 => ?_⟩
    refine lc_list (xs := rs.map V.ref) (fun i G2 => Same G G2 ∧ G2 D2 = some (.lst ((List.replicate i true).map V.bl))) ⟨same_new nD2, upd_same⟩ (fun i G2 _ p1 => .inl (.inl (p1.1 _ _ eD))) (fun i x G2 ex p1 => ?_) (fun G2 p1 => ?_)
    · obtain ⟨sG, eD2⟩ := p1
      rw [List.getElem?_map] at ex
      cases er : rs[i]? with
      | none => rw [er] at ex; cases ex
      | some r =>
        rw [er] at ex
        cases ex
        have hi := (List.getElem?_eq_some_iff.mp er).1
        obtain ⟨a, n, e1, e2, e3⟩ := rrow i r er
        refine ⟨rfl, tyes_if ⟨.ref r, rfl, r, _, rfl, .inl (.inl (.inl (sG _ _ e3))), rfl, _, eD2, ?_, fun c o hc => ?_, ?_⟩⟩
        · rw [List.length_map, List.length_replicate]
          exact small300 (by omega)
        · rw [upd_ne (ne_of_none hc nD2)]
          exact sG _ _ hc
        · rw [upd_same, List.replicate_succ', List.map_append]
          rfl
    obtain ⟨sG, eD2⟩ := p1
    refine ⟨D2, _, rfl, .inl (.inl eD2), ?_⟩
    rw [show (List.replicate (rs.map V.ref).length true).all id = true from List.all_eq_true.mpr fun b hb => (List.mem_replicate.mp hb).2]
    refine ⟨_, rfl, iteT ?_⟩
    obtain ⟨r0, er0⟩ : ∃ r, rs[0]? = some r := ⟨_, List.getElem?_eq_getElem (by omega : 0 < rs.length)⟩
    obtain ⟨a0, n0, f1, f2, f3⟩ := rrow 0 r0 er0
    cases f1
    refine ⟨.ref D, rfl, D, _, 0, .ref r0, rfl, rfl, .inl (.inl (sG _ _ eD)), atI_nat (j := 0) (by rw [List.getElem?_map, er0]; rfl), r0, _, 0, .str (Str.ofString "shop"), rfl, rfl, .inl (.inl (sG _ _ f3)), atI_nat (j := 0) rfl, rfl, ?_⟩
    rw [decide_eq_true rfl]
    refine ⟨rfl, ?_⟩
    have s3 := s2.trans sG
    have eD := sG _ _ eD
    have rrow : ∀ (k : Nat) (r : Addr), rs[k]? = some r → ∃ a n, (bosses pl)[k]? = some a ∧ ss[k]? = some n ∧ G2 r = some (.lst [.str a, .str (numT n)]) := fun k r e => let ⟨a, n, e1, e2, e3⟩ := rrow k r e; ⟨a, n, e1, e2, sG _ _ e3⟩
    clear eD2 sG s2 at_ new nD2 f3
    -- plant
    refine ⟨.ref D, rfl, 1, rfl, D, _, rfl, .inl (.inl eD), fun c nc => ?_⟩
    have sc := same_new (o := .lst (cutV (rs.map V.ref) (some 1) none)) nc
    have ec : (upd G2 c (.lst (cutV (rs.map V.ref) (some 1) none))) c = some (.lst ((rs.drop 1).map V.ref)) := by
      rw [upd_same, show cutV (rs.map V.ref) (some 1) none = (rs.drop 1).map V.ref from (cutV_tail (rs.map V.ref)).trans List.map_drop.symm]
    have eD := sc _ _ eD
    have s4 := s3.trans sc
    have rrow : ∀ (k : Nat) (r : Addr), rs[k]? = some r → ∃ a n, (bosses pl)[k]? = some a ∧ ss[k]? = some n ∧ (upd G2 c (.lst (cutV (rs.map V.ref) (some 1) none))) r = some (.lst [.str a, .str (numT n)]) := fun k r e => let ⟨a, n, e1, e2, e3⟩ := rrow k r e; ⟨a, n, e1, e2, sc _ _ e3⟩
    clear sc nc
    generalize upd G2 c _ = G3 at ec eD s4 rrow ⊢
    refine ⟨c, rfl, ⟨_, .inl (.inl ec)⟩, fun D3 nD3 => ?_⟩
    refine lc_list (xs := (rs.drop 1).map V.ref) (fun i G => Same G3 G ∧ G D3 = some (.lst ((pl.take i).map V.int))) ⟨same_new nD3, upd_same⟩ (fun i G _ p1 => .inl (.inl (p1.1 _ _ ec))) (fun i x G ex p1 => ?_) (fun G p1 => ?_)
    · obtain ⟨sG, eD3⟩ := p1
      rw [List.getElem?_map, List.getElem?_drop] at ex
      cases er : rs[1 + i]? with
      | none => rw [er] at ex; cases ex
      | some r =>
        rw [er] at ex
        cases ex
        have hi := (List.getElem?_eq_some_iff.mp er).1
        obtain ⟨a, n, e1, e2, e3⟩ := rrow _ r er
        have ei : pl[i]? = some pl[i] := List.getElem?_eq_getElem (by omega)
        have ea : a = numT pl[i] := by
          rw [Nat.add_comm] at e1
          have z : (bosses pl)[i + 1]? = (pl.map numT)[i]? := rfl
          rw [z, List.getElem?_map, ei] at e1
          exact (Option.some.inj e1).symm
        have hx := num_ok (smP pl[i] (List.getElem_mem _))
        subst ea
        refine ⟨rfl, tyes_if ⟨.ref r, rfl, r, _, 0, .str (numT pl[i]), rfl, rfl, .inl (.inl (sG _ _ e3)), atI_nat (j := 0) rfl, numT pl[i], pl[i], rfl, hx.1, hx.2.1, Nat.le_trans hx.2.2 (by decide), _, eD3, ?_, fun c o hc => ?_, ?_⟩⟩
        · rw [List.length_map, List.length_take]
          exact small300 (by omega)
        · rw [upd_ne (ne_of_none hc nD3)]
          exact sG _ _ hc
        · rw [upd_same, take_next ei, List.map_append]
          rfl
    obtain ⟨sG, eD3⟩ := p1
    rw [List.length_map, List.length_drop, show rs.length - 1 = pl.length from by omega, List.take_length] at eD3
    refine ⟨D3, _, rfl, .inl ⟨.inl (.inl eD3), fun p2 np2 => ?_⟩⟩
    have sp := sG.trans (same_new (o := .tup (pl.map V.int)) np2)
    have ep : (upd G p2 (.tup (pl.map V.int))) p2 = some (.tup (pl.map V.int)) := upd_same
    have npH : H p2 = none := s4.free (sG.free np2)
    have eD := sp _ _ eD
    have s5 := s4.trans sp
    have rrow : ∀ (k : Nat) (r : Addr), rs[k]? = some r → ∃ a n, (bosses pl)[k]? = some a ∧ ss[k]? = some n ∧ (upd G p2 (.tup (pl.map V.int))) r = some (.lst [.str a, .str (numT n)]) := fun k r e => let ⟨a, n, e1, e2, e3⟩ := rrow k r e; ⟨a, n, e1, e2, sp _ _ e3⟩
    clear sp eD3 sG nD3 ec np2
    generalize upd G p2 _ = G4 at ep eD s5 rrow ⊢
    -- stock
    refine ⟨.ref D, rfl, D, rfl, ⟨_, .inl (.inl eD)⟩, fun D4 nD4 => ?_⟩
    refine lc_list (xs := rs.map V.ref) (fun i G => Same G4 G ∧ G D4 = some (.lst ((ss.take i).map V.int))) ⟨same_new nD4, upd_same⟩ (fun i G _ p1 => .inl (.inl (p1.1 _ _ eD))) (fun i x G ex p1 => ?_) (fun G p1 => ?_)
    · obtain ⟨sG, eD4⟩ := p1
      rw [List.getElem?_map] at ex
      cases er : rs[i]? with
      | none => rw [er] at ex; cases ex
      | some r =>
        rw [er] at ex
        cases ex
        have hi := (List.getElem?_eq_some_iff.mp er).1
        obtain ⟨a, n, e1, e2, e3⟩ := rrow _ r er
        have hx := num_ok (sm n (List.mem_of_getElem? e2))
        refine ⟨rfl, tyes_if ⟨.ref r, rfl, r, _, 1, .str (numT n), rfl, rfl, .inl (.inl (sG _ _ e3)), atI_nat (j := 1) rfl, numT n, n, rfl, hx.1, hx.2.1, Nat.le_trans hx.2.2 (by decide), _, eD4, ?_, fun c o hc => ?_, ?_⟩⟩
        · rw [List.length_map, List.length_take]
          exact small300 (by omega)
        · rw [upd_ne (ne_of_none hc nD4)]
          exact sG _ _ hc
        · rw [upd_same, take_next e2, List.map_append]
          rfl
    obtain ⟨sG, eD4⟩ := p1
    rw [List.length_map, lrs, lb, List.take_length] at eD4
    refine ⟨D4, _, rfl, .inl ⟨.inl (.inl eD4), fun q2 nq2 => ?_⟩⟩
    have sq := sG.trans (same_new (o := .tup (ss.map V.int)) nq2)
    have eq : (upd G q2 (.tup (ss.map V.int))) q2 = some (.tup (ss.map V.int)) := upd_same
    have nqH : H q2 = none := s5.free (sG.free nq2)
    have ep := sq _ _ ep
    have s6 := s5.trans sq
    clear sq eD4 sG nD4 nq2 rrow eD
    generalize upd G q2 _ = G5 at ep eq s6 ⊢
    -- the check
    have PA : PlantAt G5 p2 pl := ⟨ep, hP⟩
    refine ⟨.ref p2, rfl, _, true, rfl, PA.fits, fun G6 s7 => ⟨_, rfl, iteT ?_⟩⟩
    refine ⟨.ref p2, rfl, .ref q2, rfl, p2, q2, pl.map V.int, ss, rfl, (PA.same s7).seq, .inl (s7 _ _ eq), by rw [List.length_map]; exact ls, by omega, nd0, fun G7 s8 => ⟨rfl, ?_⟩⟩
    refine ⟨.ref p2, rfl, .ref q2, rfl, (by show 2 ≤ sizeLine; decide), fun t nt => ?_⟩
    have s9 := s7.trans (s8.trans (same_new (o := .tup [V.ref p2, .ref q2]) nt))
    exact q _ t p2 q2 (s6.trans s9) (s6.free (s7.free (s8.free nt))) npH nqH upd_same (s9 _ _ ep) (s9 _ _ eq)
end
end PT

/-! boxes laid from the oldest on, each below its customer's: what comes out is ordered -/
namespace PT
def supN (pl : List Int) (j : Nat) : List Nat := ((List.range pl.length).filter fun k => decide (pl.getD k 0 = (j : Int))).map (· + 1)
theorem supN_sup (pl : List Int) (j : Nat) : natI (supN pl j) = sup pl pl.length j := by
  unfold natI supN sup
  rw [List.map_map]
  rfl
theorem supN_mem {pl : List Int} (hP : Plant pl) {j k : Nat} : k ∈ supN pl j ↔ 0 < k ∧ k ≤ pl.length ∧ cu pl k = j := by
  rw [← sup_cu hP, ← supN_sup]
  unfold natI
  rw [List.mem_map]
  constructor
  · intro h
    exact ⟨k, h, rfl⟩
  · rintro ⟨a, ha, e⟩
    have : a = k := by omega
    rw [← this]
    exact ha
theorem supN_nodup (pl : List Int) (j : Nat) : (supN pl j).Nodup := by
  unfold supN
  rw [List.Nodup, List.pairwise_map]
  exact (List.nodup_range.sublist List.filter_sublist).imp fun h z => h (by omega)
theorem pick_perm {α : Type} : ∀ {l : List α} {i : Nat} {x : α}, l[i]? = some x → (x :: l.eraseIdx i).Perm l
  | [], _, _, h => by simp at h
  | y :: r, 0, x, h => by
    have e : y = x := Option.some.inj h
    subst e
    exact .refl _
  | y :: r, i + 1, x, h => (List.Perm.swap y x (r.eraseIdx i)).trans ((pick_perm (l := r) (i := i) (x := x) (by simpa using h)).cons y)
structure CalmSt (pl ns : List Int) (i : Nat) (val : Nat → Option Int) (fr : List Nat) : Prop where
  nd : fr.Nodup
  fm : ∀ k, k ∈ fr ↔ k ≤ pl.length ∧ val k = none ∧ (k = 0 ∨ ∃ y, val (cu pl k) = some y)
  vl : ∀ k x, val k = some x → k ≤ pl.length ∧ ∃ j, j < i ∧ ns[j]? = some x
  inj : ∀ k1 k2 x, val k1 = some x → val k2 = some x → k1 = k2
  up : ∀ k x, 0 < k → val k = some x → ∃ y, val (cu pl k) = some y ∧ y < x
  cnt : (List.range (pl.length + 1)).countP (fun k => (val k).isSome) = i
theorem CalmSt.start (pl ns : List Int) : CalmSt pl ns 0 (fun _ => none) [0] := by
  refine ⟨by simp, fun k => ?_, fun k x e => (by cases e), fun k1 k2 x e => (by cases e), fun k x _ e => (by cases e), countP_none (fun _ => rfl) _⟩
  constructor
  · intro h
    rw [List.mem_singleton.mp h]
    exact ⟨Nat.zero_le _, rfl, .inl rfl⟩
  · rintro ⟨_, _, rfl | ⟨y, e⟩⟩
    · exact List.mem_singleton.mpr rfl
    · cases e
theorem CalmSt.pos {pl ns : List Int} {i : Nat} {val : Nat → Option Int} {fr : List Nat} (h : CalmSt pl ns i val fr) (hi : i ≤ pl.length) : 0 < fr.length := by
  have ex : ∃ k, k ≤ pl.length ∧ val k = none := Classical.byContradiction fun no => by
    have all : (List.range (pl.length + 1)).countP (fun k => (val k).isSome) = (List.range (pl.length + 1)).length := List.countP_eq_length.mpr fun k hk => by
      have := List.mem_range.mp hk
      cases e : val k with
      | none => exact absurd ⟨k, by omega, e⟩ no
      | some x => rfl
    rw [h.cnt, List.length_range] at all
    omega
  have least : ∀ k, k ≤ pl.length → val k = none → ∃ m, m ∈ fr := by
    intro k
    induction k using Nat.strongRecOn with
    | ind k ih =>
      intro hk e
      by_cases k0 : k = 0
      · exact ⟨k, (h.fm k).mpr ⟨hk, e, .inl k0⟩⟩
      · have c := cu_lt pl (show 0 < k by omega)
        cases q : val (cu pl k) with
        | none => exact ih _ c (by omega) q
        | some y => exact ⟨k, (h.fm k).mpr ⟨hk, e, .inr ⟨y, q⟩⟩⟩
  obtain ⟨k, hk, e⟩ := ex
  obtain ⟨m, hm⟩ := least k hk e
  exact List.length_pos_of_mem hm
theorem CalmSt.len {pl ns : List Int} {i : Nat} {val : Nat → Option Int} {fr : List Nat} (h : CalmSt pl ns i val fr) : fr.length ≤ pl.length + 1 := by
  have p : fr.Perm ((List.range (pl.length + 1)).filter fun k => decide (k ∈ fr)) := (List.perm_ext_iff_of_nodup h.nd (List.nodup_range.sublist List.filter_sublist)).mpr fun k => by
    rw [List.mem_filter, decide_eq_true_iff, List.mem_range]
    exact ⟨fun z => ⟨by have := ((h.fm k).mp z).1; omega, z⟩, fun z => z.2⟩
  have e := p.length_eq
  have l := List.length_filter_le (fun k => decide (k ∈ fr)) (List.range (pl.length + 1))
  rw [List.length_range] at l
  omega
theorem CalmSt.next {pl ns : List Int} {i r k : Nat} {x : Int} {val : Nat → Option Int} {fr : List Nat} (hP : Plant pl) (h : CalmSt pl ns i val fr) (inc : ns.Pairwise (· < ·)) (hk : fr[r]? = some k) (hx : ns[i]? = some x) :
    CalmSt pl ns (i + 1) (fun j => if j = k then some x else val j) (fr.eraseIdx r ++ supN pl k) := by
  have hm := List.mem_of_getElem? hk
  obtain ⟨k1, k2, k3⟩ := (h.fm k).mp hm
  have pp : (k :: fr.eraseIdx r).Perm fr := pick_perm hk
  have nd2 := pp.nodup_iff.mpr h.nd
  obtain ⟨nk, ne⟩ := List.nodup_cons.mp nd2
  have em : ∀ j, j ∈ fr.eraseIdx r ↔ j ∈ fr ∧ j ≠ k := fun j => by
    constructor
    · intro z
      exact ⟨pp.mem_iff.mp (List.mem_cons_of_mem _ z), fun y => nk (y ▸ z)⟩
    · rintro ⟨z, y⟩
      rcases List.mem_cons.mp (pp.mem_iff.mpr z) with w | w
      · exact absurd w y
      · exact w
  have less : ∀ j y, val j = some y → y < x := fun j y e => by
    obtain ⟨_, m, hm, em⟩ := h.vl j y e
    obtain ⟨a1, a2⟩ := List.getElem?_eq_some_iff.mp em
    obtain ⟨b1, b2⟩ := List.getElem?_eq_some_iff.mp hx
    have := List.pairwise_iff_getElem.mp inc m i a1 b1 hm
    omega
  have kc : ∀ j, 0 < j → cu pl j = k → val j = none := fun j j0 e => by
    cases q : val j with
    | none => rfl
    | some y =>
      obtain ⟨z, hz, _⟩ := h.up j y j0 q
      rw [e, k2] at hz
      cases hz
  refine ⟨?_, fun j => ?_, fun j y e => ?_, fun a b y ea eb => ?_, fun j y j0 e => ?_, ?_⟩
  · refine List.nodup_append.mpr ⟨ne, supN_nodup pl k, fun a ha b hb => ?_⟩
    rintro rfl
    obtain ⟨a1, _⟩ := (em a).mp ha
    obtain ⟨_, a2, a3⟩ := (h.fm a).mp a1
    obtain ⟨b1, b2, b3⟩ := (supN_mem hP).mp hb
    rcases a3 with z | ⟨y, z⟩
    · omega
    · rw [b3, k2] at z
      cases z
  · rw [List.mem_append, em, h.fm, supN_mem hP]
    constructor
    · rintro (⟨⟨a1, a2, a3⟩, a4⟩ | ⟨b1, b2, b3⟩)
      · refine ⟨a1, by rw [if_neg a4]; exact a2, a3.imp id fun ⟨y, e⟩ => ⟨y, ?_⟩⟩
        rw [if_neg fun z => by rw [z, k2] at e; cases e]
        exact e
      · have c := cu_lt pl b1
        refine ⟨b2, by rw [if_neg (by omega)]; exact kc j b1 b3, .inr ⟨x, if_pos b3⟩⟩
    · rintro ⟨a1, a2, a3⟩
      by_cases jk : j = k
      · rw [if_pos jk] at a2
        cases a2
      · rw [if_neg jk] at a2
        by_cases j0 : j = 0
        · exact .inl ⟨⟨a1, a2, .inl j0⟩, jk⟩
        · by_cases ck : cu pl j = k
          · exact .inr ⟨by omega, a1, ck⟩
          · refine .inl ⟨⟨a1, a2, .inr ?_⟩, jk⟩
            rcases a3 with z | ⟨y, z⟩
            · exact absurd z j0
            · rw [if_neg ck] at z
              exact ⟨y, z⟩
  · by_cases jk : j = k
    · rw [if_pos jk] at e
      cases e
      exact ⟨by omega, i, by omega, hx⟩
    · rw [if_neg jk] at e
      obtain ⟨a, m, b, c⟩ := h.vl j y e
      exact ⟨a, m, by omega, c⟩
  · by_cases ak : a = k <;> by_cases bk : b = k
    · rw [ak, bk]
    · rw [if_pos ak] at ea
      rw [if_neg bk] at eb
      cases ea
      have := less b _ eb
      omega
    · rw [if_neg ak] at ea
      rw [if_pos bk] at eb
      cases eb
      have := less a _ ea
      omega
    · rw [if_neg ak] at ea
      rw [if_neg bk] at eb
      exact h.inj a b y ea eb
  · by_cases jk : j = k
    · rw [if_pos jk] at e
      cases e
      rcases k3 with z | ⟨w, z⟩
      · omega
      · have c := cu_lt pl j0
        refine ⟨w, ?_, less _ w z⟩
        rw [jk] at c ⊢
        rw [if_neg (by omega)]
        exact z
    · rw [if_neg jk] at e
      obtain ⟨w, z, l⟩ := h.up j y j0 e
      refine ⟨w, ?_, l⟩
      rw [if_neg fun q => by rw [q, k2] at z; cases z]
      exact z
  · have e := countP_or (p := fun j => (val j).isSome) (q := fun j => decide (j = k)) (r := fun j => (if j = k then some x else val j).isSome) (fun j => by
      by_cases jk : j = k
      · simp [jk]
      · simp [jk]) (fun j hj => by
      by_cases jk : j = k
      · rw [jk, k2] at hj
        cases hj
      · simp [jk]) (List.range (pl.length + 1))
    rw [e, h.cnt, countP_one, if_pos (by omega)]
/-- all are laid -/
def laidS (pl : List Int) (val : Nat → Option Int) : List Int := (List.range (pl.length + 1)).map fun k => (val k).getD 0
theorem CalmSt.all {pl ns : List Int} {val : Nat → Option Int} {fr : List Nat} (h : CalmSt pl ns (pl.length + 1) val fr) : ∀ k, k ≤ pl.length → ∃ x, val k = some x := by
  intro k hk
  have z : (List.range (pl.length + 1)).countP (fun k => (val k).isSome) = (List.range (pl.length + 1)).length := by
    rw [h.cnt, List.length_range]
  have := List.countP_eq_length.mp z k (List.mem_range.mpr (by omega))
  cases e : val k with
  | none => rw [e] at this; cases this
  | some x => exact ⟨x, rfl⟩
end PT

set_option maxHeartbeats 4000000
/-! the way to the shop -/
namespace PT
theorem path_self (pl : List Int) (k : Nat) : k ∈ path pl k := List.mem_of_getElem? (path_head pl k)
theorem path_iff (pl : List Int) {v k : Nat} (h : 0 < k) : v ∈ path pl k ↔ v = k ∨ v ∈ path pl (cu pl k) := by
  rw [path_pos pl h, List.mem_cons]
theorem path_tr {pl : List Int} {a b : Nat} (h : a ∈ path pl b) : ∀ c, b ∈ path pl c → a ∈ path pl c := by
  intro c
  induction c using Nat.strongRecOn with
  | ind c ih =>
    intro hb
    by_cases h0 : 0 < c
    · rcases (path_iff pl h0).mp hb with rfl | z
      · exact h
      · exact (path_iff pl h0).mpr (.inr (ih _ (cu_lt pl h0) z))
    · have : c = 0 := by omega
      subst this
      rw [path_zero, List.mem_singleton] at hb
      rw [hb] at h
      exact h
theorem path_lin {pl : List Int} {a b : Nat} (hab : a ≤ b) : ∀ c, a ∈ path pl c → b ∈ path pl c → a ∈ path pl b := by
  intro c
  induction c using Nat.strongRecOn with
  | ind c ih =>
    intro ha hb
    by_cases h0 : 0 < c
    · rcases (path_iff pl h0).mp hb with rfl | z
      · exact ha
      · have := path_le pl _ _ z
        have := cu_lt pl h0
        rcases (path_iff pl h0).mp ha with e | y
        · omega
        · exact ih _ (cu_lt pl h0) y z
    · have : c = 0 := by omega
      subst this
      rw [path_zero, List.mem_singleton] at ha hb
      rw [ha, hb]
      exact path_self pl 0
theorem path_root (pl : List Int) (k : Nat) : 0 ∈ path pl k := by
  induction k using Nat.strongRecOn with
  | ind k ih =>
    by_cases h0 : 0 < k
    · exact (path_iff pl h0).mpr (.inr (ih _ (cu_lt pl h0)))
    · have : k = 0 := by omega
      subst this
      exact path_self pl 0
theorem path_sup {pl : List Int} {v : Nat} : ∀ {s : Nat}, v ∈ path pl s → v ≠ s → ∃ u, 0 < u ∧ u ≤ s ∧ cu pl u = v ∧ u ∈ path pl s := by
  intro s
  induction s using Nat.strongRecOn with
  | ind s ih =>
    intro hv hne
    have := path_le pl _ _ hv
    have h0 : 0 < s := by omega
    rcases (path_iff pl h0).mp hv with e | z
    · exact absurd e hne
    · by_cases c : v = cu pl s
      · exact ⟨s, h0, Nat.le_refl _, c.symm, path_self pl s⟩
      · have hc := cu_lt pl h0
        obtain ⟨u, a, b, d, e⟩ := ih _ hc z c
        exact ⟨u, a, by omega, d, (path_iff pl h0).mpr (.inr e)⟩
end PT

set_option maxHeartbeats 4000000
/-! the first boxes, in the order in which they are sold -/
namespace PT
/-- this box stands at or below v -/
def inAt (pl ss : List Int) (v : Nat) (x : Int) : Prop := ∃ k : Nat, k ≤ pl.length ∧ v ∈ path pl k ∧ bx ss k = x
theorem chn_path {pl ss : List Int} (hP : Plant pl) {v : Nat} : ∀ k : Nat, k ∈ chn pl ss 0 → v ∈ path pl k → v ∈ chn pl ss 0 := by
  intro k
  induction k using Nat.strongRecOn with
  | ind k ih =>
    intro hk hv
    by_cases h0 : 0 < k
    · rcases (path_iff pl h0).mp hv with rfl | z
      · exact hk
      · exact ih _ (cu_lt pl h0) (chn_cu hP hk h0).1 z
    · have : k = 0 := by omega
      subst this
      rw [path_zero, List.mem_singleton] at hv
      rw [hv]
      exact hk
theorem inAt_out {pl ss : List Int} (hP : Plant pl) (hs : ss.length = pl.length + 1) {v : Nat} (hv : v ∉ chn pl ss 0) (x : Int) : inAt pl (day pl ss 0).2 v x ↔ inAt pl ss v x := by
  have e : ∀ k : Nat, k ≤ pl.length → v ∈ path pl k → bx (day pl ss 0).2 k = bx ss k := fun k hk hp => by
    rw [day_at hs hk, if_neg fun z => hv (chn_path hP k z hp)]
  constructor
  · rintro ⟨k, h1, h2, h3⟩
    exact ⟨k, h1, h2, by rw [← e k h1 h2]; exact h3⟩
  · rintro ⟨k, h1, h2, h3⟩
    exact ⟨k, h1, h2, by rw [e k h1 h2]; exact h3⟩
theorem inAt_in {pl ss : List Int} (hP : Plant pl) (hs : ss.length = pl.length + 1) (hn : ss.Nodup) {v : Nat} (hv : v ∈ chn pl ss 0) {x : Int} (hx : x ≠ mxv ss + 1) : inAt pl (day pl ss 0).2 v x ↔ inAt pl ss v x ∧ x ≠ bx ss v := by
  have hvl := (chn_le (ss := ss) _ 0 rfl (Nat.zero_le _) v hv).2
  constructor
  · rintro ⟨k, h1, h2, h3⟩
    have hvk := path_le pl _ _ h2
    rw [day_at hs h1] at h3
    by_cases hk : k ∈ chn pl ss 0
    · rw [if_pos hk] at h3
      unfold nxt at h3
      by_cases g : gives pl ss k
      · rw [if_pos g] at h3
        have gb := g
        unfold gives at gb
        refine ⟨⟨bst pl ss k, gb.2, (path_iff pl (by omega)).mpr (.inr (by rw [gives_cu hP g]; exact h2)), h3⟩, fun e => ?_⟩
        have := bx_inj hn (by omega) (by omega) (h3.trans e)
        omega
      · rw [if_neg g] at h3
        exact absurd h3.symm hx
    · rw [if_neg hk] at h3
      refine ⟨⟨k, h1, h2, h3⟩, fun e => ?_⟩
      have := bx_inj hn (by omega) (by omega) (h3.trans e)
      rw [this] at hk
      exact hk hv
  · rintro ⟨⟨k, h1, h2, h3⟩, h4⟩
    have hne : v ≠ k := fun e => h4 (by rw [e]; exact h3.symm)
    have hvk := path_le pl _ _ h2
    by_cases hk : k ∈ chn pl ss 0
    · have h0 : 0 < k := by omega
      obtain ⟨c1, c2, c3⟩ := chn_cu hP hk h0
      have := cu_lt pl h0
      refine ⟨cu pl k, by omega, ?_, ?_⟩
      · rcases (path_iff pl h0).mp h2 with e | z
        · exact absurd e hne
        · exact z
      · rw [day_at hs (by omega), if_pos c1]
        unfold nxt
        rw [if_pos c2, c3]
        exact h3
    · exact ⟨k, h1, h2, by rw [day_at hs h1, if_neg hk]; exact h3⟩
structure Sale (pl f b : List Int) : Prop where
  up : ∀ k s : Nat, k ≤ pl.length → s ≤ pl.length → bx b k = bx f s → k ∈ path pl s
  nw : ∀ k : Nat, k ≤ pl.length → (∃ s : Nat, s ≤ pl.length ∧ bx b k = bx f s) ∨ mxv f < bx b k
  lo : ∀ v s : Nat, s ≤ pl.length → v ∈ path pl s → inAt pl b v (bx f s) → (s = v ∨ ¬ inAt pl b v (bx f (cu pl s))) → bx b v ≤ bx f s
  fr : ∀ v s : Nat, s ≤ pl.length → v ≤ pl.length → bx b v = bx f s → s = v ∨ ¬ inAt pl b v (bx f (cu pl s))
  mx : mxv f ≤ mxv b
theorem Sale.start {pl f : List Int} (hs : f.length = pl.length + 1) (hn : f.Nodup) : Sale pl f f := by
  refine ⟨fun k s hk h e => ?_, fun k hk => .inl ⟨k, hk, rfl⟩, fun v s h hp hi hc => ?_, fun v s h hv e => .inl (bx_inj hn (by omega) (by omega) e).symm, Int.le_refl _⟩
  · rw [bx_inj hn (by omega) (by omega) e]
    exact path_self pl s
  · rcases hc with rfl | hc
    · exact Int.le_refl _
    · by_cases e : s = v
      · rw [e]
        exact Int.le_refl _
      · have := path_le pl _ _ hp
        have h0 : 0 < s := by omega
        rcases (path_iff pl h0).mp hp with z | z
        · exact absurd z.symm e
        · have := cu_lt pl h0
          exact absurd ⟨cu pl s, by omega, z, rfl⟩ hc
theorem Sale.next {pl f b : List Int} (hP : Plant pl) (hf : f.length = pl.length + 1) (hs : b.length = pl.length + 1) (hn : b.Nodup) (h : Sale pl f b) : Sale pl f (day pl b 0).2 := by
  have fm : ∀ s : Nat, s ≤ pl.length → bx f s ≠ mxv b + 1 := fun s hs2 e => by
    have := mxv_lt (ss := f) (k := s) (by omega)
    have := h.mx
    omega
  have up' : ∀ k s : Nat, k ≤ pl.length → s ≤ pl.length → bx (day pl b 0).2 k = bx f s → k ∈ path pl s := fun k s hk hs2 e => by
    rw [day_at hs hk] at e
    by_cases m : k ∈ chn pl b 0
    · rw [if_pos m] at e
      unfold nxt at e
      by_cases g : gives pl b k
      · rw [if_pos g] at e
        have gb := g
        unfold gives at gb
        have z := h.up _ _ gb.2 hs2 e
        exact path_tr ((path_iff pl (by omega)).mpr (.inr (by rw [gives_cu hP g]; exact path_self pl k))) s z
      · rw [if_neg g] at e
        exact absurd e.symm (fm s hs2)
    · rw [if_neg m] at e
      exact h.up k s hk hs2 e
  refine ⟨up', fun k hk => ?_, fun v s hs2 hp hi hc => ?_, fun v s hs2 hv e => ?_, ?_⟩
  · rw [day_at hs hk]
    by_cases m : k ∈ chn pl b 0
    · rw [if_pos m]
      unfold nxt
      by_cases g : gives pl b k
      · rw [if_pos g]
        unfold gives at g
        exact h.nw _ g.2
      · rw [if_neg g]
        have := h.mx
        exact .inr (by omega)
    · rw [if_neg m]
      exact h.nw k hk
  · have hvs := path_le pl _ _ hp
    by_cases m : v ∈ chn pl b 0
    · rw [day_at hs (by omega), if_pos m]
      obtain ⟨i1, i2⟩ := (inAt_in hP hs hn m (fm s hs2)).mp hi
      by_cases e : s = v
      · exfalso
        subst e
        obtain ⟨k, k1, k2, k3⟩ := i1
        have k4 := h.up k s k1 hs2 k3
        have := path_le pl _ _ k2
        have := path_le pl _ _ k4
        have : k = s := by omega
        subst this
        exact i2 k3.symm
      · have h0 : 0 < s := by omega
        have hc2 : ¬ inAt pl (day pl b 0).2 v (bx f (cu pl s)) := hc.resolve_left e
        have hcs := cu_lt pl h0
        rw [inAt_in hP hs hn m (fm _ (by omega))] at hc2
        -- the supplier of v that is above s
        obtain ⟨k, k1, k2, k3⟩ := i1
        have k4 := h.up k s k1 hs2 k3
        have kv : v ≠ k := fun z => i2 (by rw [z]; exact k3.symm)
        have kvl := path_le pl _ _ k2
        obtain ⟨u, u0, u1, u2, us⟩ := path_sup hp (fun q => e q.symm)
        have hul : u ≤ pl.length := by omega
        obtain ⟨gv, g2⟩ := gives_of (ss := b) hP u0 hul
        rw [u2] at gv g2
        -- k stands at or below u
        have uk : u ∈ path pl k := by
          have hvu : cu pl u < u := cu_lt pl u0
          by_cases c : u ≤ k
          · exact path_lin c s us k4
          · exfalso
            have z := path_lin (Nat.le_of_lt (Nat.lt_of_not_le c)) s k4 us
            rcases (path_iff pl u0).mp z with y | y
            · omega
            · have := path_le pl _ _ y
              omega
        unfold nxt
        rw [if_pos gv]
        have l1 : bx b u ≤ bx f s := h.lo u s hs2 us ⟨k, k1, uk, k3⟩ (by
          by_cases es : s = u
          · exact .inl es
          · refine .inr fun z => hc2 ⟨?_, ?_⟩
            · obtain ⟨q, q1, q2, q3⟩ := z
              exact ⟨q, q1, path_tr ((path_iff pl u0).mpr (.inr (by rw [u2]; exact path_self pl v))) q q2, q3⟩
            · obtain ⟨q, q1, q2, q3⟩ := z
              intro y
              have := bx_inj hn (by omega) (by omega) (q3.trans y)
              have := path_le pl _ _ q2
              have := cu_lt pl u0
              omega)
        omega
    · rw [day_at hs (by omega), if_neg m]
      exact h.lo v s hs2 hp ((inAt_out hP hs m _).mp hi) (hc.imp id fun z y => z ((inAt_out hP hs m _).mpr y))
  · by_cases m : v ∈ chn pl b 0
    · rw [day_at hs hv, if_pos m] at e
      unfold nxt at e
      by_cases g : gives pl b v
      · rw [if_pos g] at e
        have gb := g
        unfold gives at gb
        have gc := gives_cu hP g
        have z := h.up _ _ gb.2 hs2 e
        have h0 : 0 < s := by have := path_le pl _ _ z; omega
        have hcs := cu_lt pl h0
        refine .inr ?_
        rw [inAt_in hP hs hn m (fm _ (by omega))]
        rintro ⟨⟨q, q1, q2, q3⟩, y⟩
        have qv : v ≠ q := fun w => y (by rw [w]; exact q3.symm)
        have qs := h.up q (cu pl s) q1 (by omega) q3
        have qvl := path_le pl _ _ q2
        rcases h.fr _ s hs2 gb.2 e with w | w
        · rw [w, gc] at qs
          have := path_le pl _ _ qs
          omega
        · refine w ⟨q, q1, ?_, q3⟩
          have qs2 : q ∈ path pl s := (path_iff pl h0).mpr (.inr qs)
          have b0 : 0 < bst pl b v := by omega
          by_cases c : bst pl b v ≤ q
          · exact path_lin c s z qs2
          · exfalso
            have z2 := path_lin (Nat.le_of_lt (Nat.lt_of_not_le c)) s qs2 z
            rcases (path_iff pl b0).mp z2 with y2 | y2
            · omega
            · rw [gc] at y2
              have := path_le pl _ _ y2
              omega
      · rw [if_neg g] at e
        exact absurd e.symm (fm s hs2)
    · rw [day_at hs hv, if_neg m] at e
      exact (h.fr v s hs2 hv e).imp id fun z y => z ((inAt_out hP hs m _).mp y)
  · have := day_mxv (pl := pl) hs
    have := h.mx
    omega
theorem sale_dyn {pl f : List Int} (hP : Plant pl) (hs : f.length = pl.length + 1) (hn : f.Nodup) : ∀ n, Sale pl f (dyn pl f n)
  | 0 => .start hs hn
  | n + 1 => (sale_dyn hP hs hn n).next hP hs (dyn_len hs hn n).1 (dyn_len hs hn n).2
/-- what the program keeps: the stations that wait, and those whose boxes are sold -/
structure Sel (pl f : List Int) (i : Nat) (ws M : List Nat) : Prop where
  wn : ws.Nodup
  wm : ∀ s, s ∈ ws ↔ s ≤ pl.length ∧ s ∉ M ∧ (s = 0 ∨ cu pl s ∈ M)
  mn : M.Nodup
  ml : M.length = i
  mm : ∀ s ∈ M, s ≤ pl.length
  cl : ∀ s ∈ M, s = 0 ∨ cu pl s ∈ M
  ms : ∀ s : Nat, s ≤ pl.length → (s ∈ M ↔ ¬ inAt pl (dyn pl f i) 0 (bx f s))
  sl : sold pl f i = M.map fun s : Nat => bx f s
theorem Sel.start (pl f : List Int) : Sel pl f 0 [0] [] := by
  refine ⟨by simp, fun s => ⟨fun h => ?_, fun h => ?_⟩, List.nodup_nil, rfl, fun s h => (by cases h), fun s h => (by cases h), fun s hs => ⟨fun h => (by cases h), fun h => absurd ⟨s, hs, path_root pl s, rfl⟩ h⟩, rfl⟩
  · rw [List.mem_singleton.mp h]
    exact ⟨Nat.zero_le _, (by simp), .inl rfl⟩
  · rcases h.2.2 with z | z
    · rw [z]
      simp
    · cases z
theorem Sel.next {pl f : List Int} {i m : Nat} {ws M : List Nat} (hP : Plant pl) (hs : f.length = pl.length + 1) (hn : f.Nodup) (h : Sel pl f i ws M) (hm : m ∈ ws) (lo : ∀ s ∈ ws, bx f m ≤ bx f s) :
    bx (dyn pl f i) 0 = bx f m ∧ Sel pl f (i + 1) (ws.filter (fun s => decide (s ≠ m)) ++ supN pl m) (M ++ [m]) := by
  obtain ⟨m1, m2, m3⟩ := (h.wm m).mp hm
  have S := sale_dyn hP hs hn i
  obtain ⟨dl, dn⟩ := dyn_len hs hn i
  have inM : ∀ s : Nat, s ≤ pl.length → s ∉ M → inAt pl (dyn pl f i) 0 (bx f s) := fun s h1 h2 => Classical.byContradiction fun z => h2 ((h.ms s h1).mpr z)
  have ub : bx (dyn pl f i) ((0 : Nat) : Int) ≤ bx f m := S.lo 0 m m1 (path_root pl m) (inM m m1 m2) (by
    rcases m3 with z | z
    · exact .inl z
    · exact .inr ((h.ms _ (by by_cases e : m = 0; (· rw [e]; unfold cu; omega); (have := cu_lt pl (show 0 < m by omega); omega))).mp z))
  have e0 : bx (dyn pl f i) ((0 : Nat) : Int) = bx f m := by
    rcases S.nw 0 (Nat.zero_le _) with ⟨s, s1, s2⟩ | z
    · have sw : s ∈ ws := by
        refine (h.wm s).mpr ⟨s1, fun y => (h.ms s s1).mp y ⟨0, Nat.zero_le _, path_self pl 0, s2⟩, ?_⟩
        rcases S.fr 0 s s1 (Nat.zero_le _) s2 with y | y
        · exact .inl y
        · by_cases q : s = 0
          · exact .inl q
          · have := cu_lt pl (show 0 < s by omega)
            exact .inr ((h.ms _ (by omega)).mpr y)
      have := lo s sw
      omega
    · have := mxv_lt (ss := f) (k := m) (by omega)
      omega
  refine ⟨by rw [← bx0]; exact e0, ?_⟩
  have fm : ∀ s : Nat, s ≤ pl.length → bx f s ≠ mxv (dyn pl f i) + 1 := fun s h2 e => by
    have := mxv_lt (ss := f) (k := s) (by omega)
    have := S.mx
    omega
  refine ⟨List.nodup_append.mpr ⟨h.wn.filter _, supN_nodup pl m, fun a ha b hb e => ?_⟩, fun s => ?_, List.nodup_append.mpr ⟨h.mn, by simp, fun a ha b hb e => ?_⟩, by rw [List.length_append, h.ml]; rfl, fun s h1 => ?_, fun s h1 => ?_, fun s h1 => ?_, ?_⟩
  · subst e
    obtain ⟨b1, b2, b3⟩ := (supN_mem hP).mp hb
    obtain ⟨a1, a2⟩ := List.mem_filter.mp ha
    obtain ⟨_, _, a3⟩ := (h.wm a).mp a1
    rcases a3 with z | z
    · omega
    · rw [b3] at z
      exact m2 z
  · rw [List.mem_append, List.mem_filter, decide_eq_true_eq, h.wm, supN_mem hP]
    constructor
    · rintro (⟨⟨a1, a2, a3⟩, a4⟩ | ⟨b1, b2, b3⟩)
      · refine ⟨a1, fun z => ?_, a3.imp id fun z => List.mem_append.mpr (.inl z)⟩
        rcases List.mem_append.mp z with z | z
        · exact a2 z
        · exact a4 (List.mem_singleton.mp z)
      · refine ⟨b2, fun z => ?_, .inr (List.mem_append.mpr (.inr (by rw [b3]; simp)))⟩
        rcases List.mem_append.mp z with z | z
        · rcases h.cl s z with q | q
          · omega
          · rw [b3] at q
            exact m2 q
        · have := List.mem_singleton.mp z
          have := cu_lt pl b1
          omega
    · rintro ⟨a1, a2, a3⟩
      have a2' : s ∉ M ∧ s ≠ m := ⟨fun z => a2 (List.mem_append.mpr (.inl z)), fun z => a2 (List.mem_append.mpr (.inr (by rw [z]; simp)))⟩
      rcases a3 with z | z
      · exact .inl ⟨⟨a1, a2'.1, .inl z⟩, a2'.2⟩
      · rcases List.mem_append.mp z with z | z
        · exact .inl ⟨⟨a1, a2'.1, .inr z⟩, a2'.2⟩
        · by_cases q : s = 0
          · exact .inl ⟨⟨a1, a2'.1, .inl q⟩, a2'.2⟩
          · exact .inr ⟨by omega, a1, List.mem_singleton.mp z⟩
  · subst e
    rw [List.mem_singleton.mp hb] at ha
    exact m2 ha
  · rcases List.mem_append.mp h1 with z | z
    · exact h.mm s z
    · rw [List.mem_singleton.mp z]
      exact m1
  · rcases List.mem_append.mp h1 with z | z
    · exact (h.cl s z).imp id fun q => List.mem_append.mpr (.inl q)
    · rw [List.mem_singleton.mp z]
      exact m3.imp id fun q => List.mem_append.mpr (.inl q)
  · show _ ↔ ¬ inAt pl (day pl (dyn pl f i) 0).2 0 (bx f s)
    rw [inAt_in hP dl dn (chn_self 0) (fm s h1), List.mem_append, List.mem_singleton]
    constructor
    · rintro (z | z)
      · exact fun y => (h.ms s h1).mp z y.1
      · exact fun y => y.2 (by rw [z]; exact e0.symm)
    · intro z
      by_cases q : s ∈ M
      · exact .inl q
      · refine .inr ?_
        have q2 := inM s h1 q
        have q3 : bx f s = bx (dyn pl f i) ((0 : Nat) : Int) := Classical.byContradiction fun y => z ⟨q2, y⟩
        exact bx_inj hn (by omega) (by omega) (q3.trans e0)
  · rw [sold_step, h.sl, List.map_append, ← bx0, e0]
    rfl
theorem Sel.le {pl f : List Int} {i : Nat} {ws M : List Nat} (h : Sel pl f i ws M) : i ≤ pl.length + 1 := by
  have z := h.mn.length_le_of_subset (l₂ := List.range (pl.length + 1)) fun s hs => List.mem_range.mpr (by have := h.mm s hs; omega)
  rw [List.length_range, h.ml] at z
  exact z
theorem Sel.end {pl f : List Int} {i : Nat} {ws M : List Nat} (h : Sel pl f i ws M) : ws = [] ↔ i = pl.length + 1 := by
  constructor
  · intro e
    have all : ∀ s, s ≤ pl.length → s ∈ M := by
      intro s
      induction s using Nat.strongRecOn with
      | ind s ih =>
        intro hs
        refine Classical.byContradiction fun z => ?_
        have : s ∈ ws := (h.wm s).mpr ⟨hs, z, by
          by_cases q : s = 0
          · exact .inl q
          · have := cu_lt pl (show 0 < s by omega)
            exact .inr (ih _ this (by omega))⟩
        rw [e] at this
        cases this
    have z := (List.nodup_range (n := pl.length + 1)).length_le_of_subset (l₂ := M) fun s hs => all s (by have := List.mem_range.mp hs; omega)
    rw [List.length_range, h.ml] at z
    have := h.le
    omega
  · intro e
    cases hw : ws with
    | nil => rfl
    | cons a r =>
      exfalso
      obtain ⟨a1, a2, _⟩ := (h.wm a).mp (by rw [hw]; simp)
      have z := (List.nodup_cons.mpr ⟨a2, h.mn⟩).length_le_of_subset (l₂ := List.range (pl.length + 1)) fun s hs => by
        rcases List.mem_cons.mp hs with y | y
        · exact List.mem_range.mpr (by omega)
        · exact List.mem_range.mpr (by have := h.mm s y; omega)
      rw [List.length_range, List.length_cons, h.ml] at z
      omega
theorem Sel.wl {pl f : List Int} {i : Nat} {ws M : List Nat} (h : Sel pl f i ws M) : ws.length ≤ pl.length + 1 := by
  have z := h.wn.length_le_of_subset (l₂ := List.range (pl.length + 1)) fun s hs => List.mem_range.mpr (by have := ((h.wm s).mp hs).1; omega)
  rw [List.length_range] at z
  exact z
end PT

set_option maxHeartbeats 4000000
/-! every new box is sold n days after it was made -/
namespace PT
end PT

set_option maxHeartbeats 4000000
/-! ints among ints -/
namespace PT
open PySem PySem.Spec PyProof.Rows L2
end PT


set_option maxHeartbeats 4000000
/-! the checks where they raise, the context none -/
namespace PT
open PySem PySem.Spec PyProof.Rows L2 LamX NdefX
/-- is it a stock of a plant with m stations? -/
inductive StIs (H : Hp) (m : Nat) : V → Bool → Prop
  | no {v : V} {n : String} : Kd H v n → n ≠ "tuple" → StIs H m v false
  | tup {a : Addr} {xs : List V} {r : Bool} : H a = some (.tup xs) → xs.length ≤ 250 → (∀ x ∈ xs, ∃ n, Kd H x n) → (r = true ↔ xs.length = m ∧ ∃ ns : List Int, xs = ns.map V.int ∧ ns.Nodup) → StIs H m (.ref a) r
theorem ints_all : ∀ {xs : List V}, xs.all isI = true → ∃ ns : List Int, xs = ns.map V.int
  | [], _ => ⟨[], rfl⟩
  | x :: xs, h => by
    rw [List.all_cons, Bool.and_eq_true] at h
    obtain ⟨ns, rfl⟩ := ints_all h.2
    cases x with
    | int i => exact ⟨i :: ns, rfl⟩
    | _ => simp [isI] at h

theorem Kd.ext {H H' : Hp} (e : ExtN H H') {v : V} {n : String} (h : Kd H v n) : Kd H' v n := by
  cases h with
  | non => exact .non
  | bl b => exact .bl b
  | int i => exact .int i
  | str x => exact .str x
  | lst q => exact .lst (extN_lst e q)
  | tup q => exact .tup (extN_tup e q)
  | dic q => exact .dic (e _ _ q fun _ z => by cases z)
theorem FitsIs.ext {H H' : Hp} (e : ExtN H H') {v : V} {r : Bool} (h : FitsIs H v r) : FitsIs H' v r := by
  cases h with
  | no k n => exact .no (k.ext e) n
  | tup a b c => exact .tup (extN_tup e a) b fun x hx => let ⟨m, k⟩ := c x hx; ⟨m, k.ext e⟩
theorem StIs.ext {H H' : Hp} (e : ExtN H H') {m : Nat} {v : V} {r : Bool} (h : StIs H m v r) : StIs H' m v r := by
  cases h with
  | no hk hn => exact .no (hk.ext e) hn
  | tup ha hl hx hr => exact .tup (extN_tup e ha) hl (fun x h => let ⟨n, k⟩ := hx x h; ⟨n, k.ext e⟩) hr
/-- what is wrong with a value that should be one of a plant -/
def NotStock (H : Hp) (pl : List Int) (v : V) : Prop := StIs H (pl.length + 1) v false
def NotStation (H : Hp) (pl : List Int) (v : V) : Prop := ∃ n, Kd H v n ∧ okV 0 (pl.length : Nat) v = false
def NotDays (lo hi : Int) (H : Hp) (pl : List Int) (v : V) : Prop := ∃ n, Kd H v n ∧ okV lo hi v = false
def NotMaker (H : Hp) (pl : List Int) (v : V) : Prop := NotStation H pl v ∨ ∃ m : Nat, v = .int (m : Int) ∧ m ≤ pl.length ∧ ((m : Nat) : Int) ∈ pl
/-- the first argument is no plant -/
def spB0 (C : Addr) (n : Nat) : Sp := fun vs H Q E => ∃ (v : V) (rest : List V), vs = v :: rest ∧ rest.length = n ∧ FitsIs H v false ∧ ∀ H', Same H H' → E (.ref C) none H'
/-- the second one is wrong -/
def spB1 (bad : Hp → List Int → V → Prop) (C : Addr) (n : Nat) : Sp := fun vs H Q E => ∃ (p : Addr) (pl : List Int) (v : V) (rest : List V), vs = .ref p :: v :: rest ∧ rest.length = n ∧ PlantAt H p pl ∧ bad H pl v ∧ ∀ H', Same H H' → E (.ref C) none H'
/-- the third one is wrong, behind a stock -/
def spB2 (bad : Hp → List Int → V → Prop) (C : Addr) (n : Nat) : Sp := fun vs H Q E => ∃ (p q : Addr) (pl ss : List Int) (v : V) (rest : List V), vs = .ref p :: .ref q :: v :: rest ∧ rest.length = n ∧ PlantAt H p pl ∧ StkAt H q ss ∧ ss.length = pl.length + 1 ∧ ss.Nodup ∧ bad H pl v ∧ ∀ H', Same H H' → E (.ref C) none H'
section
variable {P : Program} {w : World} {K : PySem.W.Frag} {mg : Str → Option Value} {base : Heap}
def spFitsStockG : Sp := fun vs H Q _ => ∃ (p : Addr) (ps : List V) (v : V) (r : Bool), vs = [.ref p, v] ∧ SqT K H p ps ∧ StIs H (ps.length + 1) v r ∧ ∀ H', Same H H' → Q (.bl r) H'
theorem Tx.fitsStockG (T : Tx K mg) {k : Nat} : FnOk P w K mg base CX0 (k + 2) T.f_fits_stock T.d_fits_stock ["plant", "value"] (spFitsStockG (K := K)) := by
  refine T.F_fits_stock.ok scFitsStock (fun vs H Q E h => ?_) (fun cdv A outer s H vs Q E hr h => ?_)
  · obtain ⟨p, ps, v, r, rfl, _⟩ := h
    rfl
  · obtain ⟨p, ps, v, r, rfl, hT, hv, qq⟩ := h
    refine ⟨_, pss_cons (ps_if (PW.pt (pw_or (pt_not (pt_val (pe_callB call_isi (by rfl) T.n_isinstance (by decide +kernel) (pa_cons (pv 1) (pa_cons (pe_bltn (v := .ty "tuple") (by rfl) T.n_tuple (by decide +kernel) rfl) pa_nil)))))
        (pw_or1 (pt_cmpR op_ne (pe_callB call_len_seq (by rfl) T.n_len PySem.boot_len (pa_cons (pv 1) pa_nil)) (pe_op op_add (pe_callB call_len_seq (by rfl) T.n_len PySem.boot_len (pa_cons (pv 0) pa_nil)) pe_int) (nomark _)))))
        (pss_one (ps_ret pe_bl)) pss_nil)
      (pss_cons (ps_if (pt_not (pt_val (pe_callB (cr_all rfl) (by rfl) T.n_all (by decide +kernel) (pa_cons
          (pe_lc (own := [("box", 2)]) (g := gName 2) (tt := tYes) (te := tCall spIsInteger [] E0 (tCons (tVar 2) tNil)) rfl scFitsStock.nd (pi_tup (pv 1)) (blkOk_by (N := ["plant", "value", "box"]) (sc := defScope sFitsStock) (by decide +kernel))
            (fun _ _ _ _ _ => pg_name (i := 2) scFitsStock.nd rfl (.inl rfl)) (fun _ _ _ _ _ => pts_nil)
            (fun _ _ _ _ _ => pe_call T.isInteger hr (by rfl) T.g_is_integer T.F_is_integer.kp T.b_is_integer .nil pass0 (pa_cons (pv 2) pa_nil))) pa_nil)))) (pss_one (ps_ret pe_bl)) pss_nil)
      (pss_one (ps_ret (pe_cmpR op_eq (pe_lenSetG (by rfl) T.n_len (by rfl) T.n_set (pv 1)) (pe_callB call_len_seq (by rfl) T.n_len PySem.boot_len (pa_cons (pv 1) pa_nil)) (nomark _))))), ?_⟩
    cases hv with
    | no hk hn =>
      refine ⟨_, rfl, _, .ty "tuple", _, _, _, rfl, .ty _, hk.tyx, kd_tuple hk, _, rfl, ?_⟩
      rw [show (_ == "tuple") = false from beq_eq_false_iff_ne.mpr hn]
      exact iteT (iteT (qq _ (Same.refl H)))
    | @tup a xs r ha hl hx hrr =>
      have hv : SqT K H a xs := .inl (.inl ha)
      refine ⟨_, rfl, _, .ty "tuple", _, _, _, rfl, .ty _, (Kd.tup ha).tyx, kd_tuple (.tup ha), _, rfl, ?_⟩
      refine iteF ⟨_, rfl, a, _, rfl, .inr hv, .ref p, rfl, p, ps, rfl, .inr hT, _, 1, rfl, rfl, rfl, _, rfl, ?_⟩
      by_cases c : xs.length = ps.length + 1
      · rw [show (!decide (V.int (xs.length : Int) = V.int ((ps.length : Int) + 1))) = false by rw [decide_eq_true (congrArg V.int (by omega))]; rfl]
        refine iteF ⟨.ref a, rfl, a, rfl, ⟨_, hv⟩, fun D nD => ?_⟩
        refine lc_tup (xs := xs) (fun i H' => Same H H' ∧ H' D = some (.lst (((xs.take i).map isI).map V.bl))) ⟨same_new nD, upd_same⟩ (fun i H' _ p1 => seqT p1.1 hv) (fun i x H1 ex p1 => ?_) (fun H' p1 => ?_)
        · obtain ⟨sm, eD⟩ := p1
          obtain ⟨n, hn⟩ := hx x (List.mem_of_getElem? ex)
          have hi := (List.getElem?_eq_some_iff.mp ex).1
          refine ⟨rfl, tyes_if ⟨x, rfl, x, n, rfl, hn.same sm, _, eD, ?_, fun b o hb => ?_, ?_⟩⟩
          · rw [List.length_map, List.length_map, List.length_take]
            exact small300 (by omega)
          · rw [upd_ne (ne_of_none hb nD)]
            exact sm _ _ hb
          · rw [upd_same, take_next ex, List.map_append, List.map_append]
            rfl
        · obtain ⟨sm, eD⟩ := p1
          rw [List.take_length] at eD
          refine ⟨D, _, rfl, .inl (.inl eD), _, rfl, ?_⟩
          have ea : (xs.map isI).all id = xs.all isI := by rw [List.all_map]; rfl
          rw [ea]
          cases z : xs.all isI with
          | false =>
            refine iteT ?_
            have e : r = false := by
              cases r with
              | false => rfl
              | true =>
                obtain ⟨_, ns, e1, _⟩ := hrr.mp rfl
                rw [e1, List.all_map] at z
                have z2 : (ns.all fun _ => true) = false := z
                simp at z2
            rw [e] at qq
            exact qq H' sm
          | true =>
            obtain ⟨ns, rfl⟩ := ints_all z
            rw [List.length_map] at c hl
            refine iteF ⟨.ref a, rfl, a, ns, rfl, seqT sm hv, by omega, fun k hk => ⟨.ref a, rfl, a, _, rfl, .inr (seqT sm hv), rfl, ?_⟩⟩
            have e : decide (V.int (k : Int) = V.int (((ns.map V.int).length : Nat) : Int)) = r := by
              rw [List.length_map]
              by_cases nd : ns.Nodup
              · rw [decide_eq_true (congrArg V.int (by have := hk.mpr nd; omega)), hrr.mpr ⟨by rw [List.length_map]; exact c, ns, rfl, nd⟩]
              · rw [decide_eq_false fun y => nd (hk.mp (by have := V.int.inj y; omega))]
                cases r with
                | false => rfl
                | true =>
                  obtain ⟨_, ms, e1, e2⟩ := hrr.mp rfl
                  have e3 : ns = ms := by
                    have f : Function.Injective V.int := fun _ _ y => V.int.inj y
                    exact (List.map_inj_right fun _ _ y => V.int.inj y).mp e1
                  exact absurd (e3 ▸ e2) nd
            rw [e]
            exact qq H' sm
      · rw [show (!decide (V.int (xs.length : Int) = V.int ((ps.length : Int) + 1))) = true by rw [decide_eq_false fun y => c (by have := V.int.inj y; omega)]; rfl]
        refine iteT ?_
        have e : r = false := by
          cases r with
          | false => rfl
          | true => exact absurd (hrr.mp rfl).1 c
        rw [e] at qq
        exact qq _ (Same.refl H)

def spChkPlant (C : Addr) : Sp := fun vs H Q E => ∃ v r, vs = [v] ∧ FitsIs H v r ∧ ∀ H', Same H H' → if r = true then Q .non H' else E (.ref C) none H'
def spChkStation (C : Addr) : Sp := fun vs H Q E => ∃ (p : Addr) (xs : List V) (v : V) (n : String), vs = [.ref p, v] ∧ SqT K H p xs ∧ Kd H v n ∧ if okV 0 (xs.length : Nat) v = true then Q .non H else E (.ref C) none H
def spChkDays (C : Addr) : Sp := fun vs H Q E => ∃ (v : V) (n : String) (lo hi : Int), vs = [v, .int lo, .int hi] ∧ Kd H v n ∧ if okV lo hi v = true then Q .non H else E (.ref C) none H
/-- a stock known to its object is told by StkAt -/
def spChkStock (C : Addr) : Sp := fun vs H Q E => ∃ (p : Addr) (ps : List V) (v : V) (r : Bool), vs = [.ref p, v] ∧ SqT K H p ps ∧ StIs H (ps.length + 1) v r ∧ ∀ H', Same H H' → if r = true then Q .non H' else E (.ref C) none H'
/-- any value that is none, or a stock -/
def spChkStockA (C : Addr) : Sp := fun vs H Q E => ∃ (p : Addr) (pl : List Int) (v : V), vs = [.ref p, v] ∧ PlantAt H p pl ∧ ((NotStock H pl v ∧ ∀ H', Same H H' → E (.ref C) none H') ∨ (∃ q ss, v = .ref q ∧ StkAt H q ss ∧ ss.length = pl.length + 1 ∧ ss.Nodup ∧ ∀ H', Same H H' → Q .non H'))
def spChkMaker (C : Addr) : Sp := fun vs H Q E => ∃ (p : Addr) (pl : List Int) (v : V), vs = [.ref p, v] ∧ PlantAt H p pl ∧ ((NotMaker H pl v ∧ E (.ref C) none H) ∨ (∃ m : Nat, v = .int (m : Int) ∧ m ≤ pl.length ∧ ((m : Nat) : Int) ∉ pl ∧ Q .non H))
end
end PT


/-! a check that raises, and values that are no texts -/
namespace PT
open PySem PySem.Spec PyProof.Rows L2
/-- a value that is no text -/
def NoStr (K : PySem.W.Frag) (H : Hp) (v : V) : Prop := ∃ n : String, TyOf K H v (.type n) ∧ kitB n "str" = some false
def spChkRowN (C : Addr) : Sp := fun vs H Q E => ∃ b : Bool, vs = [.bl b] ∧ if b = true then Q .non H else E (.ref C) none H
end PT

set_option maxHeartbeats 4000000
/-! a list comprehension out of which an exception may go -/
namespace PT
open PySem PySem.Spec PyProof.Rows L2

/-- the block's context, with its own end for exceptions -/
abbrev blkE (X : Cx) (s : Shared) (H : Hp) (scope : Scope) (ce : Env) (fp : List Addr) (xe : Value → Shared → Prop) : Cx := { X.blk s H scope ce fp with xe := xe }
/-- a call's exception goes out of the block -/
def LetsOut (X : Cx) (E : XK) : Prop := ∀ (pins : List (Addr × Obj)) (σ : L2.St) (H : Hp) (s : Shared) (e : Value) (s' : Shared), Inv X pins σ H s → L2N.CX X.prog X.w X.stack H s E e s' → X.xe e s'
section
variable {X : Cx} {pins : List (Addr × Obj)} {σ : L2.St} {H : Hp} {s : Shared}
theorem blk_exc {scope : Scope} {own : List (Str × Nat)} {fp : List Addr} (xe : Value → Shared → Prop) (I : Inv X pins σ H s) (ok : BlkOk X.N X.env.scope scope own) (nd : X.N.Nodup) (hf : ∀ b ∈ fp, FpOk X pins H b ∧ b < s.heap.objs.size) :
    Inv (blkE X s H scope (compEnvC scope (cellsFrom (s.heap.objs.size + 1) scope.names (cloFrom X.env.cells scope.names [])) s.heap.objs.size X.env) fp xe) [] (wipe σ (own.map Prod.snd)) H
      { s with heap := pushCells (s.heap.push { cls := .type "dict", data := .dict #[] }) scope.names } := by
  have B := block_start I ok nd hf
  have o := B.ok
  exact ⟨⟨o.mod, o.kind, o.glob, o.blt, o.above, o.inj, o.has, o.cab, o.hd, o.frames, o.stk, o.exf, o.bs, o.bsz, o.noex, o.exfs, o.funs, o.frf⟩, B.os, B.bare, B.base, B.loc, B.cell, B.free, B.freeC, B.pin, B.hok, B.len⟩
theorem frames_less {h h2 B G : Heap} (kn : ∀ b, B.get? b = none → G.get? b = none) (k : ∀ b o, h.get? b = some o → B.get? b = none → h2.get? b = some o) : ∀ {l : List Env}, h.FunFrames B l → h2.FunFrames G l
  | [], _ => trivial
  | _ :: _, ⟨hk, ⟨L, o, e, hb, ho, nd⟩, r⟩ => ⟨hk, ⟨L, o, e, kn L hb, k L o ho hb, nd⟩, frames_less kn k r⟩
/-- the way out: noted by the def's frame, the block's names let go, on its way again -/
theorem out_of_block {E : XK} {H3 : Hp} {s3 s0 s' : Shared} {scope : Scope} {ce : Env} {fp : List Addr} {xe : Value → Shared → Prop} {pins0 : List (Addr × Obj)} {σ0 : L2.St} {H0 : Hp} {e : Value}
    (hs : X.stack = X.env :: X.outer) (hf : X.env.frame = some X.env.locals) (tk : L2N.Takes X (fun cls d _ H => E cls d H)) (I3 : Inv X pins σ H3 s3)
    (fpo : ∀ b ∈ fp, FpOk X pins H3 b) (cf : ce.frame = X.env.frame) (cl : ce.locals = s3.heap.objs.size)
    (I0 : Inv (blkE X s3 H3 scope ce fp xe) pins0 σ0 H0 s0) (cx : L2N.CX X.prog X.w X.stack H0 s0 E e s') :
    notedBy (model X.prog X.w) X.A ce (CompFails (model X.prog X.w) X.A X.xe ce) e s' := by
  obtain ⟨a, B, H1, cls, d, rfl, fl, hok, ub, na, os, ag, hE⟩ := cx
  have hfr : X.A.frames = some (X.env :: X.outer) := by rw [I3.ok.frames, hs]
  have C0 : s3.heap.get? ce.locals = none := by
    cases q : s3.heap.get? ce.locals with
    | none => rfl
    | some o => exact absurd (Heap.lt_size q) (by rw [cl]; exact Nat.lt_irrefl _)
  have Cn : ce.locals ∉ frs X.stack := fun hm => by
    have := (I3.stack.mem hm).2
    obtain ⟨o, q, _⟩ := this
    rw [C0] at q
    cases q
  -- the block's names stand in the ground
  obtain ⟨m, ns, _⟩ := I0.loc
  have HC : H0 ce.locals = none := I0.free
  have H1C : H1 ce.locals = none := by
    obtain ⟨o, es, ep, q, r⟩ := ns
    exact ub.free _ o q HC
  have nsB : B.Ns ce.locals m := by
    obtain ⟨o, es, ep, q, r⟩ := ns
    exact ⟨o, es, ep, ub.keep _ _ q HC Cn, r⟩
  have up : ∀ {h : Heap}, B.StaysIn h → h.Ns ce.locals m := fun k => by
    obtain ⟨o, es, ep, q, r⟩ := nsB
    exact ⟨o, es, ep, k _ _ q, r⟩
  show wpAny (model X.prog X.w) X.A (noteFrame (.ref a) ce) _ _ _
  rw [noteFrame_env _ cf]
  rw [hs] at fl
  refine PXN.looks_onZ L2N.Zn.steady hfr hf fl fun h1 held up1 => ?_
  obtain ⟨b1, b0, f1, t1⟩ := held
  refine ⟨m, up b1, fun h2 m2 n2 sb => ?_⟩
  -- the ground without the block's names
  obtain ⟨G, g1, g2⟩ := restrict B fun b => !decide (b = ce.locals)
  have gB : ∀ b o, G.get? b = some o → B.get? b = some o ∧ b ≠ ce.locals := fun b o q => by
    by_cases z : b = ce.locals
    · rw [g2 b (by simp [z])] at q
      cases q
    · rw [g1 b (by simp [z])] at q
      exact ⟨q, z⟩
  have Bg : ∀ b o, B.get? b = some o → b ≠ ce.locals → G.get? b = some o := fun b o q z => by
    rw [g1 b (by simp [z])]
    exact q
  have Gn : ∀ b, B.get? b = none → G.get? b = none := fun b q => by
    cases z : G.get? b with
    | none => rfl
    | some o => rw [(gB b o z).1] at q; cases q
  obtain ⟨oC, _, _, qC, _⟩ := nsB
  have ne : ∀ b, B.get? b = none → b ≠ ce.locals := fun b q z => by rw [z, qC] at q; cases q
  have G2 : G.StaysIn h2 := fun b o q => (sb.2 b (gB b o q).2).trans (b1 b o (gB b o q).1)
  have keep2 : ∀ b o, h1.get? b = some o → B.get? b = none → h2.get? b = some o := fun b o q z => (sb.2 b (ne b z)).trans q
  have f2 := frames_less Gn keep2 f1
  obtain ⟨oe, vs, T, oT, ts, he, hz, hd, hv, hnT, hTe, hT, hdT, h3⟩ := t1
  have he2 := keep2 a oe he b0
  have t2 : HandSPX.TracedZ h2 G a (L2N.Zn cls d) (rawInt X.env.locals) := ⟨oe, vs, T, oT, ts, he2, hz, hd, hv, Gn T hnT, hTe, keep2 T oT hT hnT, hdT, h3⟩
  unfold PySem.passOn
  refine wpAny_bind (wpAny_field he2 hd hv ?_)
  rw [if_neg (show ¬ ((Value.ref T == Value.none) = true) from by simp), cf, hf]
  refine wpAny_bind (HandSPX.setFlight_anyZ G2 f2 t2 fun h4 k1 k2 k3 up3 => wpAny_throw (tk _ _ ?_))
  -- the state without the exception
  obtain ⟨F, r1, r2⟩ := restrict h4 fun b => (G.get? b).isSome || decide (b ∈ frs X.stack)
  have inF : ∀ b o, G.get? b = some o → F.get? b = some o := fun b o q => by
    rw [r1 b (by simp [q])]
    exact k1 b o q
  have frF : ∀ b, b ∈ frs X.stack → F.get? b = h4.get? b := fun b hb => r1 b (by simp [hb])
  have ofF : ∀ b o, F.get? b = some o → h4.get? b = some o ∧ (b ∉ frs X.stack → G.get? b = some o) := fun b o q => by
    by_cases z : ((G.get? b).isSome || decide (b ∈ frs X.stack)) = true
    · rw [r1 b z] at q
      refine ⟨q, fun nb => ?_⟩
      have y : (G.get? b).isSome = true := by simpa [nb] using z
      obtain ⟨o', e'⟩ := Option.isSome_iff_exists.mp y
      have := k1 b o' e'
      rw [q] at this
      cases this
      exact e'
    · rw [r2 b (by simpa using z)] at q
      cases q
  have hokF : HOk X.prog X.w H1 F := fun b o q => by
    refine (hok b o q).stay (fun c u hc r => inF c u (Bg c u r ?_)) (fun _ y => y) fun _ _ y => y
    rintro rfl
    rcases hc with hc | hc
    · rw [hc, q] at H1C
      cases H1C
    · rw [hc] at H1C
      cases H1C
  have J : Inv X pins σ H1 { s0 with heap := F, gens := s'.gens, drawn := s'.drawn, toks := s'.toks } := by
    refine I3.call' (ch := fp) I0.os ?_ hokF ag fun b hb => ?_
    · have toF : ∀ b o, B.get? b = some o → s3.heap.get? b ≠ none → F.get? b = some o := fun b o q z => inF b o (Bg b o q fun y => z (by rw [y]; exact C0))
      have slot : ∀ b o, s3.heap.get? b = some o → H3 b = none → b ∈ frs X.stack → b ∉ fp → ∃ sl, F.get? b = some { o with slots := sl } := fun b o q n hb hx => by
        obtain ⟨sl, e0⟩ := I0.base.slot b o q n hb hx
        obtain ⟨sl2, e1⟩ := ub.slot b _ e0 hb
        obtain ⟨_, o', e', nf⟩ := I3.stack.mem hb
        rw [q] at e'
        cases e'
        obtain ⟨sl3, e2⟩ := up1 b _ e1 nf
        have e3 := (sb.2 b fun y => Cn (y ▸ hb)).trans e2
        obtain ⟨sl4, e4⟩ := up3 b _ e3 nf
        exact ⟨sl4, (frF b hb).trans e4⟩
      refine ⟨fun b o q n hb hx => toF b o (ub.keep b o (I0.base.keep b o q n hb hx) (I0.base.free b o q n hx) hb) (by rw [q]; simp), slot, fun b o q n hx => ?_, fun b o q hx => ?_, fun b xs q => ub.tups b xs (I0.base.tups b xs q), fun b o xs q => ub.frzs b o xs (I0.base.frzs b o xs q), fun b ps q => ?_⟩
      · obtain ⟨o', e0⟩ := I0.base.there b o q hx
        exact ub.free b o' e0 (I0.base.free b o q n hx)
      · by_cases hb : b ∈ frs X.stack
        · obtain ⟨sl, e⟩ := slot b o q (I3.stkFree b hb) hb hx
          exact ⟨_, e⟩
        · obtain ⟨o', e0⟩ := I0.base.there b o q hx
          obtain ⟨o2, e1⟩ := ub.there b o' e0 hb
          exact ⟨o2, toF b o2 e1 (by rw [q]; simp)⟩
      · obtain ⟨more, e0⟩ := I0.base.tbls b ps q
        obtain ⟨more2, e1⟩ := ub.tbls b _ e0
        exact ⟨more ++ more2, by rw [e1, Array.append_assoc]⟩
    · have z := fpo b hb
      exact ⟨z.2.2.2.1, z.2.1, z.2.2.2.2.1, z.2.2.2.2.2⟩
  exact ⟨a, G, _, pins, σ, H1, cls, d, rfl, J, fun b o q nb => (ofF b o q).2 nb, Heap.UpToSlots.of_keeps fun b o q => (ofF b o q).1, .inr (.inr ⟨k1, Gn a b0, by rw [hs]; exact k2, k3⟩), na, os, ag, hE⟩
/-- the core: the block over a walk; a call within may raise -/
theorem lc_exc {E : XK} {Q : VK} {elt tg iter : Expr} {ifs : List Expr} {scope : Scope} {own : List (Str × Nat)} {pos pos' : Pos} {wi : TI} {g : TG} {tt : TT} {te : TE} {Qf : Value → Shared → Prop}
    (hs : X.stack = X.env :: X.outer) (hf : X.env.frame = some X.env.locals) (tk : L2N.Takes X (fun cls d _ H => E cls d H)) (calm : X.calm = true) (nd : X.N.Nodup) (I : Inv X pins σ H s) (walk : PI X tg iter wi) (ok : BlkOk X.N X.env.scope scope own)
    (pg : ∀ (s : Shared) (H : Hp) (C : Addr) (cl : List (Str × Addr)) (fp : List Addr) (xe : Value → Shared → Prop), PG (blkE X s H scope (compEnvC scope cl C X.env) fp xe) tg g)
    (pt : ∀ (s : Shared) (H : Hp) (C : Addr) (cl : List (Str × Addr)) (fp : List Addr) (xe : Value → Shared → Prop), PTs (blkE X s H scope (compEnvC scope cl C X.env) fp xe) ifs tt)
    (pe : ∀ (s : Shared) (H : Hp) (C : Addr) (cl : List (Str × Addr)) (fp : List Addr) (xe : Value → Shared → Prop), LetsOut (blkE X s H scope (compEnvC scope cl C X.env) fp xe) E → PE (blkE X s H scope (compEnvC scope cl C X.env) fp xe) elt te)
    (fold : ∀ x, foldedSetIterable iter X.env x = pure x) (rd : tLc wi g tt te (own.map Prod.snd) σ H Q)
    (back : ∀ D C s' m H', Inv X pins σ H' s' → Q (.ref D) H' → s'.heap.Ns C m → FpOk X pins H' C → ∃ m, s'.heap.Ns C m ∧ ∀ h', Heap.SameBut C s'.heap h' → Qf (.ref D) { s' with heap := h' }) :
    wpAny (model X.prog X.w) X.A (comprehension (.ListComp elt [⟨tg, iter, ifs, 0⟩] scope pos) scope X.env pos' (newList []) false (eval iter X.env) none) Qf X.xe s := by
  have caught : ∀ y ∈ scope.names, y.2 = .free → ∃ c, X.env.cells.lookup y.1 = some c := fun y hy e => (ok.free y hy e).elim (fun k => I.ok.has _ (.inl k)) fun k => I.ok.has _ (.inr k)
  refine comprehension_at (use := none) rfl fold (closure_ok caught) ok.kind (fun y hy e => by rw [ok.uniq y hy, e]) (thn (walk.run pins s σ H _ I rd) fun xv s1 h1 => thn h1 fun iv s2 h2 => ?_)
  obtain ⟨it, fp, tn, J, H2, rfl, I2, T, at2, fp2, rest⟩ := h2
  refine wpAny_newObj_type (newEnv_comp ?_) (Nat.zero_le sizeLine)
  -- the list that grows
  obtain ⟨D, eD⟩ : ∃ D, D = s2.heap.objs.size := ⟨_, rfl⟩
  rw [← eD]
  have freeD : H2 D = none := I2.hok.fresh (Nat.le_of_eq eD.symm)
  obtain ⟨W, ⟨m0, w0⟩, turn⟩ := rest D freeD
  obtain ⟨s3, e3⟩ : ∃ s3 : Shared, s3 = { s2 with heap := s2.heap.push { cls := .type "list", data := .seq ([] : List Value).toArray } } := ⟨_, rfl⟩
  have I3 : Inv X pins σ (upd H2 D (.lst [])) s3 := by
    subst e3
    refine I2.laid (t' := s2.toks) (fun b o e => Heap.get?_push_of_some _ e) (Nat.le_of_eq eD.symm) ⟨Nat.zero_le _, [], 0, .nil, ?_⟩
    subst eD
    exact Heap.get?_push_size _ rfl
  have h3 : s3.heap = s2.heap.push { cls := .type "list", data := .seq ([] : List Value).toArray } := congrArg Shared.heap e3
  have below : ∀ b ∈ fp, b < s2.heap.objs.size := fun b hb => (T.obj _ _ at2 b hb).elim fun o ho => Heap.lt_size ho.1
  have fp3 : ∀ b ∈ fp, FpOk X pins (upd H2 D (.lst [])) b ∧ b < s3.heap.objs.size := fun b hb =>
    ⟨⟨(upd_ne (by rw [eD]; exact Nat.ne_of_lt (below b hb))).trans (fp2 b hb).1, (fp2 b hb).2⟩, by rw [h3, Heap.size_push]; exact Nat.lt_succ_of_lt (below b hb)⟩
  have at3 : tn 0 s3.heap := T.keep _ _ _ at2 fun b _ o e => by rw [h3]; exact Heap.get?_push_of_some _ e
  have I4 := fun xe => blk_exc xe I3 ok nd fp3
  have pg := pg s3 (upd H2 D (.lst [])) s3.heap.objs.size (cellsFrom (s3.heap.objs.size + 1) scope.names (cloFrom X.env.cells scope.names [])) fp
  have pt := pt s3 (upd H2 D (.lst [])) s3.heap.objs.size (cellsFrom (s3.heap.objs.size + 1) scope.names (cloFrom X.env.cells scope.names [])) fp
  have pe := pe s3 (upd H2 D (.lst [])) s3.heap.objs.size (cellsFrom (s3.heap.objs.size + 1) scope.names (cloFrom X.env.cells scope.names [])) fp
  subst e3
  show codeAny _ _ (.compStart _ 0 (.ref it) (.ref D) (compEnvC scope (cellsFrom (({ s2 with heap := s2.heap.push { cls := .type "list", data := .seq ([] : List Value).toArray } } : Shared).heap.objs.size + 1) scope.names (cloFrom X.env.cells scope.names []))
    ({ s2 with heap := s2.heap.push { cls := .type "list", data := .seq ([] : List Value).toArray } } : Shared).heap.objs.size X.env)) (compEnds (model X.prog X.w) X.A X.xe none Qf (.ref D) (compEnvC scope (cellsFrom (({ s2 with heap := s2.heap.push { cls := .type "list", data := .seq ([] : List Value).toArray } } : Shared).heap.objs.size + 1) scope.names (cloFrom X.env.cells scope.names []))
      ({ s2 with heap := s2.heap.push { cls := .type "list", data := .seq ([] : List Value).toArray } } : Shared).heap.objs.size X.env))
    { s2 with heap := pushCells (({ s2 with heap := s2.heap.push { cls := .type "list", data := .seq ([] : List Value).toArray } } : Shared).heap.push { cls := .type "dict", data := .dict #[] }) scope.names }
  obtain ⟨s3, e3⟩ : ∃ s3 : Shared, s3 = { s2 with heap := s2.heap.push { cls := .type "list", data := .seq ([] : List Value).toArray } } := ⟨_, rfl⟩
  rw [← e3] at I3 I4 pg pt pe h3 fp3 at3 ⊢
  obtain ⟨C, eC⟩ : ∃ C, C = s3.heap.objs.size := ⟨_, rfl⟩
  rw [← eC] at I4 pg pt pe ⊢
  obtain ⟨ce, ee⟩ : ∃ ce, ce = compEnvC scope (cellsFrom (C + 1) scope.names (cloFrom X.env.cells scope.names [])) C X.env := ⟨_, rfl⟩
  have cL : ce.locals = C := by rw [ee]; rfl
  rw [← ee] at I4 pg pt pe ⊢
  obtain ⟨H3, eH⟩ : ∃ H3, H3 = upd H2 D (.lst []) := ⟨_, rfl⟩
  rw [← eH] at I3 I4 pg pt pe w0 fp3
  have nfp : ∀ b ∈ fp, H3 b = none := fun b hb => (fp3 b hb).1.1
  have es : ({ s2 with heap := pushCells (s3.heap.push { cls := .type "dict", data := .dict #[] }) scope.names } : Shared) = { s3 with heap := pushCells (s3.heap.push { cls := .type "dict", data := .dict #[] }) scope.names } := by rw [e3]
  rw [es]
  obtain ⟨s4, e4⟩ : ∃ s4 : Shared, s4 = { s3 with heap := pushCells (s3.heap.push { cls := .type "dict", data := .dict #[] }) scope.names } := ⟨_, rfl⟩
  rw [← e4] at I4 ⊢
  obtain ⟨xe, ex⟩ : ∃ xe, xe = notedBy (model X.prog X.w) X.A ce (CompFails (model X.prog X.w) X.A X.xe ce) := ⟨_, rfl⟩
  have I4 := I4 xe
  have pg := pg xe
  have pt := pt xe
  have pe := pe xe fun pins0 σ0 H0 s0 e s' J cx => by
    show xe e s'
    rw [ex]
    exact out_of_block hs hf tk I3 (fun b hb => (fp3 b hb).1) (by rw [ee]; rfl) (cL.trans eC) J cx
  subst ex
  have at4 : tn 0 s4.heap := T.keep _ _ _ at3 fun b _ o e => by rw [e4]; exact pushCells_keeps _ _ _ _ (Heap.get?_push_of_some _ e)
  -- the walk's own objects, anywhere in the block
  have own4 : ∀ {H' : Hp}, (∀ b ∈ fp, H' b = none) → ∀ b ∈ fp, FpOk (blkE X s3 H3 scope ce fp (notedBy (model X.prog X.w) X.A ce (CompFails (model X.prog X.w) X.A X.xe ce))) [] H' b := fun {H'} n b hb =>
    ⟨n b hb, (I4.ok.exf b hb).1, I4.ok.exfs b hb, .inl hb, fun x c e => (I4.ok.exf b hb).2 x c e, fun q hq => by simp at hq⟩
  have loop : codeAny (model X.prog X.w) X.A (.compLoop (.ListComp elt [⟨tg, iter, ifs, 0⟩] scope pos) 0 (.ref it) (.ref D) ce) (compEnds (model X.prog X.w) X.A X.xe none Qf (.ref D) ce) s4 := by
    refine compLoop_any (fun n s' => ∃ i H', Inv (blkE X s3 H3 scope ce fp (notedBy (model X.prog X.w) X.A ce (CompFails (model X.prog X.w) X.A X.xe ce))) [] (wipe σ (own.map Prod.snd)) H' s' ∧ tn i s'.heap ∧ (∀ b ∈ fp, H' b = none) ∧ W i n H') ?_ m0 ⟨0, H3, I4, at4, nfp, w0⟩
    rintro n s5 ⟨i, H5, I5, at5, n5, w5⟩
    rcases turn i n H5 w5 with ⟨stop, q⟩ | ⟨go, Nx, next, step⟩
    · refine thnF (T.done (blkE X s3 H3 scope ce fp (notedBy (model X.prog X.w) X.A ce (CompFails (model X.prog X.w) X.A X.xe ce))) rfl rfl rfl calm i [] s5 _ H5 (fun _ _ => False) I5 (own4 n5) at5 stop) fun r s6 ⟨hr, I6⟩ => ?_
      subst hr
      have I7 : Inv X pins σ H5 s6 := I3.call' (ch := fp) I6.os I6.base I6.hok I6.bare fun b hb =>
        let z := (fp3 b hb).1
        ⟨z.2.2.2.1, z.2.1, z.2.2.2.2.1, z.2.2.2.2.2⟩
      have nC : H5 C = none := by rw [← cL]; exact I6.free
      obtain ⟨m, ns, _⟩ := I6.loc
      have ns : s6.heap.Ns ce.locals m := ns
      rw [cL] at ns
      have z := back D C s6 m H5 I7 q ns (I3.fpOk (Nat.le_of_eq eC.symm) nC)
      rw [← cL] at z
      exact z
    · refine thnF (T.item (blkE X s3 H3 scope ce fp (notedBy (model X.prog X.w) X.A ce (CompFails (model X.prog X.w) X.A X.xe ce))) rfl rfl rfl calm i [] s5 _ H5 (fun _ _ => False) I5 (own4 n5) at5 go) fun r s6 ⟨u, hr, h6⟩ => ?_
      subst hr
      refine thnF h6 fun _ s7 ⟨x, H7, I7, r7, y7, at7, n7⟩ => ?_
      refine thn (pg.run _ s7 _ H7 x u _ (I7.pinned (own4 n7) (T.obj _ _ at7)) r7 (step x H7 y7)) fun _ s8 ⟨σ8, H8, I8, hw, q8⟩ => ?_
      refine thn (pt.run _ s8 σ8 H8 _ I8 q8) fun b s9 ⟨H9, I9, q9⟩ => ?_
      have close : ∀ {s' : Shared} {H' : Hp}, Inv (blkE X s3 H3 scope ce fp (notedBy (model X.prog X.w) X.A ce (CompFails (model X.prog X.w) X.A X.xe ce))) ([] ++ pinsAt fp s7.heap) σ8 H' s' → Nx H' → ∃ m, m < n ∧ ∃ i H', Inv (blkE X s3 H3 scope ce fp (notedBy (model X.prog X.w) X.A ce (CompFails (model X.prog X.w) X.A X.xe ce))) [] (wipe σ (own.map Prod.snd)) H' s' ∧ tn i s'.heap ∧ (∀ b ∈ fp, H' b = none) ∧ W i m H' := by
        intro s' H' I' nx
        obtain ⟨m', less, w'⟩ := next H' nx
        have pinned : ∀ b ∈ fp, ∀ o, s7.heap.get? b = some o → s'.heap.get? b = some o ∧ H' b = none := fun b hb o e =>
          have z := I'.pin (b, o) (List.mem_append.mpr (.inr (List.mem_append.mpr (.inr (mem_pinsAt hb e)))))
          ⟨z.1, z.2.1⟩
        refine ⟨m', less, i + 1, H', (I'.unpinned (pins := [])).weak ?_ (fun j v e => ?_), T.keep _ _ _ at7 fun b hb o e => (pinned b hb o e).1, fun b hb => ?_, w'⟩
        · rw [← hw, wipe_length]
        · rw [← hw] at e
          exact (wipe_some e).1
        · obtain ⟨o, e, _⟩ := T.obj _ _ at7 b hb
          exact (pinned b hb o e).2
      cases b with
      | false =>
        rw [if_neg (by decide)]
        rw [if_neg (by decide)] at q9
        exact close I9 q9
      | true =>
        rw [if_pos rfl]
        rw [if_pos rfl] at q9
        refine thn (pe.run _ s9 σ8 H9 _ I9 q9) fun z sA ⟨yv, HA, IA, rA, acc, eA, small, nx⟩ => ?_
        exact app_ok (X := blkE X s3 H3 scope ce fp (notedBy (model X.prog X.w) X.A ce (CompFails (model X.prog X.w) X.A X.xe ce))) IA eA small rA fun sB IB => close IB nx
  exact codeAny_compStart_list loop (T.self X.A 0 _ _ _ at4 loop)
/-- as a value -/
theorem pe_lcX {E : XK} {elt tg iter : Expr} {ifs : List Expr} {scope : Scope} {own : List (Str × Nat)} {pos : Pos} {wi : TI} {g : TG} {tt : TT} {te : TE} (hs : X.stack = X.env :: X.outer) (hf : X.env.frame = some X.env.locals) (tk : L2N.Takes X (fun cls d _ H => E cls d H)) (calm : X.calm = true) (nd : X.N.Nodup) (walk : PI X tg iter wi) (ok : BlkOk X.N X.env.scope scope own)
    (pg : ∀ (s : Shared) (H : Hp) (C : Addr) (cl : List (Str × Addr)) (fp : List Addr) (xe : Value → Shared → Prop), PG (blkE X s H scope (compEnvC scope cl C X.env) fp xe) tg g)
    (pt : ∀ (s : Shared) (H : Hp) (C : Addr) (cl : List (Str × Addr)) (fp : List Addr) (xe : Value → Shared → Prop), PTs (blkE X s H scope (compEnvC scope cl C X.env) fp xe) ifs tt)
    (pe : ∀ (s : Shared) (H : Hp) (C : Addr) (cl : List (Str × Addr)) (fp : List Addr) (xe : Value → Shared → Prop), LetsOut (blkE X s H scope (compEnvC scope cl C X.env) fp xe) E → PE (blkE X s H scope (compEnvC scope cl C X.env) fp xe) elt te) (fold : ∀ x, foldedSetIterable iter X.env x = pure x := by intro _; rfl) :
    PE X (.ListComp elt [⟨tg, iter, ifs, 0⟩] scope pos) (tLc wi g tt te (own.map Prod.snd)) := by
  refine ⟨fun ps s σ H Q I rd => ?_⟩
  rw [eval_ListComp]
  refine lc_exc hs hf tk calm nd I walk ok pg pt pe fold rd fun D C s' m H' I' q ns ⟨f0, f1, f2, f3, f4, f5⟩ => ⟨m, ns, fun h'' sb => ?_⟩
  exact ⟨.ref D, H', I'.turned (t' := s'.toks) (fun b o ne e => (sb.2 b ne).trans e) f0 f1 f3 f4 f5, rfl, q⟩
end
end PT

set_option maxHeartbeats 1000000
/-! a text with one sign for another, behind a docstring -/
namespace PT
open PySem PySem.Spec PyProof.Rows L2 CwR TL
section
variable {X : Cx}
end
/-! ### ; for the ends of lines -/
def scT : Str := Str.ofString ";"
/-- the row that opens a plant, without its first word -/
def openT (pl ss : List Int) : Str := Str.join scT (rowsT (bosses pl) ss)
def opT : Str := Str.ofString "open "
end PT

/-! a text split at blanks: how long its parts are -/
namespace PT
open PySem PySem.Spec PyProof.Rows L2 TL
theorem spl32_len : ∀ (l acc : List Nat), spl [32] 0 acc l ≠ [] ∧ ∀ y ∈ spl [32] 0 acc l, y.length ≤ acc.length + l.length
  | [], acc => by
    rw [spl_nil]
    exact ⟨by simp, fun y hy => by rw [List.mem_singleton.mp hy]; exact Nat.le_refl _⟩
  | c :: r, acc => by
    cases h : pre [32] (c :: r) with
    | true =>
      rw [spl_hit h]
      obtain ⟨_, z⟩ := spl32_len r []
      refine ⟨by simp, fun y hy => ?_⟩
      rcases List.mem_cons.mp hy with rfl | hy
      · omega
      · have := z y hy
        rw [List.length_cons]
        have e : ([] : List Nat).length = 0 := rfl
        omega
    | false =>
      rw [spl_miss h]
      obtain ⟨n, z⟩ := spl32_len r (acc ++ [c])
      refine ⟨n, fun y hy => ?_⟩
      have := z y hy
      rw [List.length_append] at this
      rw [List.length_cons]
      have e : [c].length = 1 := rfl
      omega
theorem split_tl (t : Str) : (Txt.split t spT).map tl = spl [32] 0 [] (tl t) := by
  have h := split_spl t spT (by rw [tl_sp]; simp) (kind_ok (by decide +kernel))
  rw [tl_sp] at h
  exact h
theorem split_ne (t : Str) : Txt.split t spT ≠ [] := fun e => by
  have h := split_tl t
  rw [e] at h
  exact (spl32_len (tl t) []).1 h.symm
theorem split_len {t y : Str} (h : y ∈ Txt.split t spT) : y.length ≤ t.length := by
  have z := (spl32_len (tl t) []).2 (tl y) (by rw [← split_tl]; exact List.mem_map_of_mem h)
  rw [len_tl, len_tl]
  have e : ([] : List Nat).length = 0 := rfl
  omega
theorem spl32_mem : ∀ (l acc : List Nat), ∀ y ∈ spl [32] 0 acc l, ∀ c ∈ y, c ∈ acc ∨ c ∈ l
  | [], acc, y, hy, c, hc => by
    rw [spl_nil] at hy
    rw [List.mem_singleton.mp hy] at hc
    exact .inl hc
  | d :: r, acc, y, hy, c, hc => by
    cases h : pre [32] (d :: r) with
    | true =>
      rw [spl_hit h] at hy
      rcases List.mem_cons.mp hy with rfl | hy
      · exact .inl hc
      · rcases spl32_mem r [] y hy c hc with z | z
        · cases z
        · exact .inr (List.mem_cons_of_mem _ z)
    | false =>
      rw [spl_miss h] at hy
      rcases spl32_mem r (acc ++ [d]) y hy c hc with z | z
      · rcases List.mem_append.mp z with z | z
        · exact .inl z
        · rw [List.mem_singleton.mp z]
          exact .inr List.mem_cons_self
      · exact .inr (List.mem_cons_of_mem _ z)
/-- signs of seven bits -/
def Asc (t : Str) : Prop := ∀ c ∈ tl t, c < 128
theorem Asc.split {t y : Str} (h : Asc t) (hy : y ∈ Txt.split t spT) : Asc y := fun c hc => by
  rcases spl32_mem (tl t) [] (tl y) (by rw [← split_tl]; exact List.mem_map_of_mem hy) c hc with z | z
  · cases z
  · exact h c z
theorem Asc.append {a b : Str} (h : Asc a) (g : Asc b) : Asc (a ++ b) := fun c hc => by
  rw [tl_append] at hc
  rcases List.mem_append.mp hc with z | z
  · exact h c z
  · exact g c z
end PT

/-! a text split at its ends of lines: how long its lines are -/
namespace PT
open PySem PySem.Spec PyProof.Rows L2 TL
theorem spl10_len : ∀ (l acc : List Nat), spl [10] 0 acc l ≠ [] ∧ ∀ y ∈ spl [10] 0 acc l, y.length ≤ acc.length + l.length := by
  intro l
  induction l with
  | nil =>
    intro acc
    rw [spl_nil]
    exact ⟨by simp, fun y hy => by rw [List.mem_singleton.mp hy]; exact Nat.le_refl _⟩
  | cons c r ih =>
    intro acc
    have lc : (c :: r).length = r.length + 1 := rfl
    cases h : pre [10] (c :: r) with
    | true =>
      rw [spl_hit h]
      refine ⟨by simp, fun y hy => ?_⟩
      rcases List.mem_cons.mp hy with rfl | hy
      · omega
      · have := (ih []).2 y hy
        simp only [List.length_nil] at this
        omega
    | false =>
      rw [spl_miss h]
      refine ⟨(ih (acc ++ [c])).1, fun y hy => ?_⟩
      have := (ih (acc ++ [c])).2 y hy
      simp only [List.length_append, List.length_cons, List.length_nil] at this
      omega
theorem lines_tl (t : Str) : (Txt.split t nlT).map tl = spl [10] 0 [] (tl t) := by
  have h := split_spl t nlT (by rw [tl_nl]; simp) (kind_ok (by decide +kernel))
  rw [tl_nl] at h
  exact h
theorem lines_ne (t : Str) : Txt.split t nlT ≠ [] := fun e => by
  have h := lines_tl t
  rw [e] at h
  exact (spl10_len (tl t) []).1 h.symm
theorem lines_len {t y : Str} (h : y ∈ Txt.split t nlT) : y.length ≤ t.length := by
  have z := (spl10_len (tl t) []).2 (tl y) (by rw [← lines_tl]; exact List.mem_map_of_mem h)
  rw [len_tl, len_tl]
  simp only [List.length_nil] at z
  omega
theorem spl10_mem : ∀ (l acc : List Nat), ∀ y ∈ spl [10] 0 acc l, ∀ c ∈ y, c ∈ acc ∨ c ∈ l := by
  intro l
  induction l with
  | nil =>
    intro acc y hy c hc
    rw [spl_nil] at hy
    rw [List.mem_singleton.mp hy] at hc
    exact .inl hc
  | cons d r ih =>
    intro acc y hy c hc
    cases h : pre [10] (d :: r) with
    | true =>
      rw [spl_hit h] at hy
      rcases List.mem_cons.mp hy with rfl | hy
      · exact .inl hc
      · rcases ih [] y hy c hc with z | z
        · cases z
        · exact .inr (List.mem_cons_of_mem _ z)
    | false =>
      rw [spl_miss h] at hy
      rcases ih (acc ++ [d]) y hy c hc with z | z
      · rcases List.mem_append.mp z with z | z
        · exact .inl z
        · rw [List.mem_singleton.mp z]
          exact .inr List.mem_cons_self
      · exact .inr (List.mem_cons_of_mem _ z)
theorem lines_asc {t y : Str} (h : Asc t) (hy : y ∈ Txt.split t nlT) : Asc y := fun c hc => by
  rcases spl10_mem (tl t) [] (tl y) (by rw [← lines_tl]; exact List.mem_map_of_mem hy) c hc with z | z
  · cases z
  · exact h c z
theorem lines_few (t : Str) : (Txt.split t nlT).length ≤ t.length + 1 := by
  have key : ∀ (l acc : List Nat), (spl [10] 0 acc l).length ≤ l.length + 1 := by
    intro l
    induction l with
    | nil => intro acc; rw [spl_nil]; exact Nat.le_refl _
    | cons c r ih =>
      intro acc
      have lc : (c :: r).length = r.length + 1 := rfl
      cases h : pre [10] (c :: r) with
      | true =>
        rw [spl_hit h, lc, List.length_cons]
        exact Nat.succ_le_succ (ih [])
      | false =>
        rw [spl_miss h, lc]
        exact Nat.le_succ_of_le (ih (acc ++ [c]))
  have := key (tl t) []
  rw [← lines_tl, List.length_map, ← len_tl] at this
  exact this
theorem rmsuf_len (t s : Str) : (Txt.removesuffix t s).length ≤ t.length := by
  rw [len_tl, rmsuf_tl, len_tl]
  split
  · exact List.length_take_le' _ _
  · exact Nat.le_refl _
end PT


set_option maxHeartbeats 4000000
/-! read_plant of a text that is none of a plant -/
namespace PT
open PySem PySem.Spec PyProof.Rows L2 L2H HotX LamX NdefX TL
section
variable {P : Program} {w : World} {K : PySem.W.Frag} {mg : Str → Option Value} {base : Heap}
theorem ok_checkTextX (T : Tx K mg) {k : Nat} : FnOk P w K mg base (L2N.CX P w) (k + 1) T.f_check_text T.d_check_text ["holds"] (spChkRowN T.x_NoText) := by
  refine Fun.okN T.F_check_text scCheckText (fun vs H Q E h => ?_) (fun cdv A outer s H vs Q E hr h => ?_)
  · obtain ⟨b, rfl, _⟩ := h
    rfl
  · obtain ⟨b, rfl, q⟩ := h
    refine ⟨_, pss_cons (ps_if (pt_not (pt_val (pv 0))) (pss_one (L2N.ps_raise rfl (L2N.takes_of rfl rfl rfl rfl) (L2N.pmk_own PySem.F.excBase_ValueError T.X_NoText.e T.X_NoText.g T.X_NoText.k (raises_own T.X_NoText.s T.X_NoText.t) (by rfl)))) pss_nil) pss_nil, ?_⟩
    cases b with
    | true => exact ⟨.bl true, rfl, true, rfl, iteF q⟩
    | false => exact ⟨.bl false, rfl, false, rfl, iteT q⟩
theorem small7 {n : Nat} (h : n ≤ 7000) : n < sizeLine := Nat.lt_of_le_of_lt h (by decide)
/-- a number out of any text, or NoText -/
def spNumberX (C : Addr) : Sp := fun vs H Q E => ∃ x : Str, vs = [.str x] ∧ x.length ≤ 10000 ∧ (∀ i : Int, i.natAbs < 10 ^ 40 → x = numT i → Q (.int i) H) ∧ (¬ numB x → E (.ref C) none H)
theorem ok_numberX (T : Tx K mg) {k : Nat} : FnOk P w K mg base (L2N.CX P w) (k + 2) T.f_number_in T.d_number_in ["text"] (spNumberX T.x_NoText) := by
  refine Fun.okN T.F_number_in scNumberIn (fun vs H Q E h => ?_) (fun cdv A outer s H vs Q E hr h => ?_)
  · obtain ⟨x, rfl, _⟩ := h
    rfl
  · obtain ⟨x, rfl, hl, good, bad⟩ := h
    have nd := scNumberIn.nd
    refine ⟨_, (pss_cons (ps_expr (pe_call (ok_checkTextX T (k := 0)) (hr.mono (by omega)) (by rfl) T.g_check_text T.F_check_text.kp T.b_check_text .nil (L2N.passes_call (L2N.takes_of rfl rfl rfl rfl) fun _ _ _ _ z => z) (pa_cons (pe_and (pe_call (PT.FnOk.quiet (T.isDecimal (k := 0))) (hr.mono (by omega)) (by rfl) T.g_is_decimal T.F_is_decimal.kp T.b_is_decimal .nil (L2N.passes_call (L2N.takes_of rfl rfl rfl rfl) fun _ _ _ _ z => z) (pa_cons (pe_bm PySem.F.plainAttrs_str PySem.F.slot_str_removeprefix PySem.F.type_str_removeprefix mt_removeprefix (pv 0) (pa_cons pe_str pa_nil)) (pa_cons (pe_glob (v := .int 40) (by rfl) T.g_MOST_DIGITS ⟨_, rfl⟩) pa_nil))) (pe_one (pe_cmpR op_ne (pv 0) pe_str (nomark _)))) pa_nil)))
(pss_one (ps_ret (pe_callTy call_int_str (by rfl) T.n_int (by decide +kernel) (pa_cons (pv 0) pa_nil))))), ?_⟩
    have big : 20000 ≤ sizeLine := (by decide)
    have l2 : (Txt.removeprefix x minus).length ≤ sizeLine := by
      rw [len_tl, rmpre_tl]
      split
      · rw [List.length_drop, ← len_tl]; omega
      · rw [← len_tl]; omega
    refine ⟨.str x, rfl, rfl, x, minus, rfl, rfl, by omega, _, _, rfl, l2, ?_⟩
    cases d : decT (Txt.removeprefix x minus) ((40 : Nat) : Int) with
    | false =>
      exact ⟨false, rfl, iteF ⟨false, rfl, bad fun z => by have := z.1; rw [d] at this; cases this⟩⟩
    | true =>
      refine ⟨true, rfl, iteT ⟨.str x, rfl, rfl, ?_⟩⟩
      by_cases m0 : x = Str.ofString "-0"
      · rw [decide_eq_true (congrArg V.str m0)]
        exact ⟨false, rfl, bad fun z => z.2 m0⟩
      · rw [decide_eq_false (fun z => m0 (V.str.inj z))]
        obtain ⟨i, hi, e⟩ := num_of ⟨d, m0⟩
        have ok := num_ok hi
        rw [← e] at ok
        exact ⟨true, rfl, .str x, rfl, x, i, rfl, ok.2.1, by have := ok.2.2; omega, good i hi e⟩
theorem ints_inj : ∀ a b : List Int, a.map V.int = b.map V.int → a = b
  | [], [], _ => rfl
  | [], _ :: _, e => by simp at e
  | _ :: _, [], e => by simp at e
  | x :: a, y :: b, e => by
    simp only [List.map_cons, List.cons.injEq, V.int.injEq] at e
    rw [e.1, ints_inj a b e.2]
/-- the rows of a plant's text -/
def rowsOf (pl ss : List Int) : List (List Str) := List.zipWith (fun a b => [a, b]) (bosses pl) (ss.map numT)
def NoRows (R : List (List Str)) : Prop := ∀ pl ss : List Int, R = rowsOf pl ss → ss.length = pl.length + 1 → (∀ n ∈ ss, n.natAbs < 10 ^ 40) → Plant pl → ¬ ss.Nodup
def textRows (t : Str) : List (List Str) := (Txt.split (Txt.removesuffix t nlT) nlT).map fun l => Txt.split l spT
theorem plant_fits {pl : List Int} (h : fitsV (pl.map V.int) = true) : Plant pl := by
  refine ⟨?_, fun i x e => ?_⟩
  · unfold fitsV at h
    rw [Bool.and_eq_true, List.length_map] at h
    have := of_decide_eq_true h.1
    omega
  · by_cases c : 0 ≤ x ∧ x ≤ i
    · exact c
    · have z : okV 0 (i : Nat) (.int x) = false := by
        show (decide (0 ≤ x) && decide (x ≤ (i : Nat))) = false
        rw [← Bool.decide_and]
        exact decide_eq_false c
      rw [fitsV_no (i := i) (x := .int x) (by rw [List.getElem?_map, e]; rfl) z] at h
      cases h
def spFitsL : Sp := fun vs H Q _ => ∃ (p : Addr) (xs : List V), vs = [.ref p] ∧ H p = some (.tup xs) ∧ 40 ≤ xs.length ∧ Q (.bl false) H
theorem ok_fitsL (T : Tx K mg) {k : Nat} : FnOk P w K mg base CX0 (k + 1) T.f_fits_plant T.d_fits_plant ["value"] spFitsL := by
  refine T.F_fits_plant.ok scFitsPlant (fun vs H Q E h => ?_) (fun cdv A outer s H vs Q E hr h => ?_)
  · obtain ⟨p, xs, rfl, _⟩ := h
    rfl
  · obtain ⟨p, xs, rfl, ep, l40, q⟩ := h
    have nd := scFitsPlant.nd
    refine ⟨_, pss_cons (ps_if (PW.pt (pw_or (pt_not (pt_val (pe_callB call_isi (by rfl) T.n_isinstance (by decide +kernel) (pa_cons (pv 0) (pa_cons (pe_bltn (v := .ty "tuple") (by rfl) T.n_tuple (by decide +kernel) rfl) pa_nil)))))
        (pw_or1 (pt_cmpR op_ge (pe_callB call_len_seq (by rfl) T.n_len PySem.boot_len (pa_cons (pv 0) pa_nil)) (pe_glob (v := .int 40) rfl T.g_MOST_STATIONS ⟨_, rfl⟩) (nomark _)))))
        (pss_one (ps_ret pe_bl)) pss_nil) pss_never, ?_⟩
    refine ⟨_, rfl, _, .ty "tuple", _, _, _, rfl, .ty _, (Kd.tup ep).tyx, kd_tuple (.tup ep), _, rfl, ?_⟩
    refine iteF ⟨_, rfl, p, xs, rfl, .inr (.inl (.inl ep)), (xs.length : Int), 40, rfl, rfl, _, rfl, ?_⟩
    rw [decide_eq_true (by omega : (40 : Int) ≤ (xs.length : Int))]
    exact iteT q
def spReadX (C : Addr) : Sp := fun vs H _ E => ∃ t : Str, vs = [.str t] ∧ t.length ≤ 6000 ∧ Txt.endswith t nlT = true ∧ (textRows t).length ≤ 6100 ∧ NoRows (textRows t) ∧ ∀ H', Same H H' → E (.ref C) none H'
theorem ok_readPlantX (T : Tx K mg) : FnOk P w K mg base (L2N.CX P w) 4 T.f_read_plant T.d_read_plant ["text"] (spReadX T.x_NoText) := by
  refine Fun.okN T.F_read_plant scReadPlant (fun vs H Q E h => ?_) (fun cdv A outer s H vs Q E hr h => ?_)
  · obtain ⟨t, rfl, _⟩ := h
    rfl
  · obtain ⟨t, rfl, lt, et, few, bad, k⟩ := h
    have nd := scReadPlant.nd
    refine ⟨_, (pss_cons (ps_expr (pe_call (ok_checkTextX T (k := 0)) (hr.mono (by omega)) (by rfl) T.g_check_text T.F_check_text.kp T.b_check_text .nil (L2N.passes_call (L2N.takes_of rfl rfl rfl rfl) fun _ _ _ _ z => z) (pa_cons (pe_and (pe_callB call_isi (by rfl) T.n_isinstance (by decide +kernel) (pa_cons (pv 0) (pa_cons (pe_bltn (v := .ty "str") (by rfl) T.n_str (by decide +kernel) rfl) pa_nil))) (pe_one (pe_bm PySem.F.plainAttrs_str PySem.F.slot_str_endswith PySem.F.type_str_endswith mt_endswith (pv 0) (pa_cons pe_str pa_nil)))) pa_nil)))
(pss_cons (ps_setLc (i := 1) (own := [("line", 4)]) (g := gName 4) (tt := tYes) (te := (tBM K "str" rSplit (tVar 4) (tCons (tC (.str " ")) tNil))) (by rfl) nd rfl rfl (sw_true rfl rfl rfl (by decide +kernel)) (pi_list (pe_bm PySem.F.plainAttrs_str PySem.F.slot_str_split PySem.F.type_str_split mt_split (pe_bm PySem.F.plainAttrs_str PySem.F.slot_str_removesuffix PySem.F.type_str_removesuffix mt_removesuffix (pv 0) (pa_cons pe_str pa_nil)) (pa_cons pe_str pa_nil)))
(blkOk_by (N := ["text", "rows", "plant", "stock", "line", "row"]) (sc := defScope sReadPlant) (by decide +kernel)) (fun _ _ _ _ _ => (pg_name (i := 4) nd rfl (.inl rfl))) (fun _ _ _ _ _ => pts_nil) (fun _ _ _ _ _ => (pe_bm PySem.F.plainAttrs_str PySem.F.slot_str_split PySem.F.type_str_split mt_split (pv 4) (pa_cons pe_str pa_nil))))
(pss_cons (ps_expr (pe_call (ok_checkTextX T (k := 0)) (hr.mono (by omega)) (by rfl) T.g_check_text T.F_check_text.kp T.b_check_text .nil (L2N.passes_call (L2N.takes_of rfl rfl rfl rfl) fun _ _ _ _ z => z) (pa_cons (pe_and (pe_callB (cr_all rfl) (by rfl) T.n_all (by decide +kernel) (pa_cons (pe_lc (own := [("row", 5)]) (g := gName 5) (tt := tYes) (te := (tOp rEq (tCB (fun xs H Q => ∃ p ys, xs = [.ref p] ∧ (SqL K H p ys ∨ SqT K H p ys) ∧ Q (.int (ys.length : Int)) H) (tCons (tVar 5) tNil)) (tC (.int 2)))) rfl nd (pi_list (pv 1))
(blkOk_by (N := ["text", "rows", "plant", "stock", "line", "row"]) (sc := defScope sReadPlant) (by decide +kernel)) (fun _ _ _ _ _ => (pg_name (i := 5) nd rfl (.inl rfl))) (fun _ _ _ _ _ => pts_nil) (fun _ _ _ _ _ => (pe_cmpR op_eq (pe_callB call_len_seq (by rfl) T.n_len PySem.boot_len (pa_cons (pv 5) pa_nil)) pe_int (nomark _)))) pa_nil)) (pe_one (pe_cmpR op_eq (pe_ix ix_list (pe_ix ix_list (pv 1) pe_int (fun _ _ => rfl)) pe_int (fun _ _ => rfl)) pe_str (nomark _)))) pa_nil)))
(pss_cons (ps_set (i := 2) nd rfl (.inl rfl) (pe_callTy call_tuple_of (by rfl) T.n_tuple (by decide +kernel) (pa_cons (pe_lcX (E := E) (own := [("row", 5)]) (g := gName 5) (tt := tYes) (te := (tCall (spNumberX T.x_NoText) [] E (tCons (tOp (rIxL K) (tVar 5) (tC (.int 0))) tNil))) rfl rfl (L2N.takes_of rfl rfl rfl rfl) rfl nd (pi_list (pe_slice sl_list (pv 1) (po_some pe_int) po_none))
(blkOk_by (N := ["text", "rows", "plant", "stock", "line", "row"]) (sc := defScope sReadPlant) (by decide +kernel)) (fun _ _ _ _ _ _ => (pg_name (i := 5) nd rfl (.inl rfl))) (fun _ _ _ _ _ _ => pts_nil) (fun _ _ _ _ _ _ out => (pe_call (ok_numberX T (k := 0)) (hr.mono (by omega)) (by rfl) T.g_number_in T.F_number_in.kp T.b_number_in .nil out (pa_cons (pe_ix ix_list (pv 5) pe_int (fun _ _ => rfl)) pa_nil)))) pa_nil)))
(pss_cons (ps_set (i := 3) nd rfl (.inl rfl) (pe_callTy call_tuple_of (by rfl) T.n_tuple (by decide +kernel) (pa_cons (pe_lcX (E := E) (own := [("row", 5)]) (g := gName 5) (tt := tYes) (te := (tCall (spNumberX T.x_NoText) [] E (tCons (tOp (rIxL K) (tVar 5) (tC (.int 1))) tNil))) rfl rfl (L2N.takes_of rfl rfl rfl rfl) rfl nd (pi_list (pv 1))
(blkOk_by (N := ["text", "rows", "plant", "stock", "line", "row"]) (sc := defScope sReadPlant) (by decide +kernel)) (fun _ _ _ _ _ _ => (pg_name (i := 5) nd rfl (.inl rfl))) (fun _ _ _ _ _ _ => pts_nil) (fun _ _ _ _ _ _ out => (pe_call (ok_numberX T (k := 0)) (hr.mono (by omega)) (by rfl) T.g_number_in T.F_number_in.kp T.b_number_in .nil out (pa_cons (pe_ix ix_list (pv 5) pe_int (fun _ _ => rfl)) pa_nil)))) pa_nil)))
(pss_cons (ps_expr (pe_call (ok_checkTextX T (k := 0)) (hr.mono (by omega)) (by rfl) T.g_check_text T.F_check_text.kp T.b_check_text .nil (L2N.passes_call (L2N.takes_of rfl rfl rfl rfl) fun _ _ _ _ z => z) (pa_cons (pe_and (pe_call (PT.FnOk.quiet (FnOk.or (T.fits (k := 0)) (ok_fitsL T (k := 0)))) (hr.mono (by omega)) (by rfl) T.g_fits_plant T.F_fits_plant.kp T.b_fits_plant .nil (L2N.passes_call (L2N.takes_of rfl rfl rfl rfl) fun _ _ _ _ z => z) (pa_cons (pv 2) pa_nil)) (pe_one (pe_call (PT.FnOk.quiet (T.fitsStockG (k := 0))) (hr.mono (by omega)) (by rfl) T.g_fits_stock T.F_fits_stock.kp T.b_fits_stock .nil (L2N.passes_call (L2N.takes_of rfl rfl rfl rfl) fun _ _ _ _ z => z) (pa_cons (pv 2) (pa_cons (pv 3) pa_nil))))) pa_nil)))
(pss_one (ps_ret (pe_tup (pa_cons (pv 2) (pa_cons (pv 3) pa_nil))))))))))), ?_⟩
    refine ⟨.str t, rfl, .str t, .ty "str", _, _, true, rfl, .ty _, .base (.str _), kit_ty (by decide +kernel), _, rfl, iteT ?_⟩
    refine ⟨.str t, rfl, rfl, t, nlT, rfl, rfl, ?_⟩
    rw [et]
    refine ⟨true, rfl, ?_⟩
    refine iteT ?_
    have big : 20000 ≤ sizeLine := (by decide)
    have lu := rmsuf_len t nlT
    refine ⟨.str t, rfl, rfl, t, nlT, rfl, rfl, by omega, rfl, Txt.removesuffix t nlT, nlT, rfl, rfl, by decide +kernel, by omega, fun l nl => ?_⟩
    obtain ⟨L, eL⟩ : ∃ L, L = Txt.split (Txt.removesuffix t nlT) nlT := ⟨_, rfl⟩
    have ll : ∀ y ∈ L, y.length ≤ 6000 := fun y hy => by
      rw [eL] at hy
      have := lines_len hy
      omega
    have neL : L ≠ [] := by rw [eL]; exact lines_ne _
    unfold textRows at few bad
    rw [← eL] at few bad ⊢
    rw [List.length_map] at few
    obtain ⟨R, eR⟩ : ∃ R, R = L.map fun l => Txt.split l spT := ⟨_, rfl⟩
    rw [← eR] at bad
    have lR : R.length = L.length := by rw [eR, List.length_map]
    have smR : ∀ row ∈ R, row ≠ [] ∧ ∀ y ∈ row, y.length ≤ 6000 := fun row hr => by
      rw [eR] at hr
      obtain ⟨y, hy, rfl⟩ := List.mem_map.mp hr
      exact ⟨split_ne y, fun z hz => Nat.le_trans (split_len hz) (ll y hy)⟩
    have s1 := same_new (o := .lst (L.map V.str)) nl
    have el : (upd H l (.lst (L.map V.str))) l = some (.lst (L.map V.str)) := upd_same
    generalize upd H l _ = H1 at s1 el ⊢
    refine ⟨l, rfl, ⟨_, .inl (.inl el)⟩, fun D nD => ?_⟩
    refine lc_list (xs := L.map V.str) (fun i G => Same H1 G ∧ ∃ rs : List Addr, G D = some (.lst (rs.map V.ref)) ∧ rs.length = i ∧ (∀ r ∈ rs, r ≠ D) ∧ ∀ (k : Nat) (r : Addr) (row : List Str), rs[k]? = some r → R[k]? = some row → G r = some (.lst (row.map V.str)))
      ⟨same_new nD, [], upd_same, rfl, fun r h => (by cases h), fun k r row h => (by cases h)⟩ (fun i G _ p1 => .inl (.inl (p1.1 _ _ el))) (fun i x G ex p1 => ?_) (fun G p1 => ?_)
    · obtain ⟨sG, rs, eD, lrs, new, at_⟩ := p1
      rw [List.getElem?_map] at ex
      cases ey : L[i]? with
      | none => rw [ey] at ex; cases ex
      | some y =>
        rw [ey] at ex
        cases ex
        have hi := (List.getElem?_eq_some_iff.mp ey).1
        have ly := ll y (List.mem_of_getElem? ey)
        have eRi : R[i]? = some (Txt.split y spT) := by rw [eR, List.getElem?_map, ey]; rfl
        refine ⟨rfl, tyes_if ⟨.str y, rfl, rfl, y, spT, rfl, rfl, by decide +kernel, by omega, fun r nr => ?_⟩⟩
        have sr := same_new (o := .lst ((Txt.split y spT).map V.str)) nr
        have eD2 := sr _ _ eD
        have rD : r ≠ D := Ne.symm (ne_of_none eD nr)
        have er : (upd G r (.lst ((Txt.split y spT).map V.str))) r = some (.lst ((Txt.split y spT).map V.str)) := upd_same
        generalize upd G r _ = G2 at sr eD2 er ⊢
        refine ⟨_, eD2, ?_, fun c o hc => ?_, rs ++ [r], ?_, ?_, fun c hc => ?_, fun k c row g1 g2 => ?_⟩
        · rw [List.length_map]
          exact small7 (by omega)
        · rw [upd_ne (ne_of_none hc nD)]
          exact sr _ _ (sG _ _ hc)
        · rw [upd_same, List.map_append]
          rfl
        · rw [List.length_append, lrs]
          rfl
        · rcases List.mem_append.mp hc with z | z
          · exact new c z
          · rw [List.mem_singleton.mp z]
            exact rD
        · by_cases z : k < i
          · rw [List.getElem?_append_left (by omega)] at g1
            rw [upd_ne (new c (List.mem_of_getElem? g1))]
            exact sr _ _ (at_ k c row g1 g2)
          · have kl : k < rs.length + 1 := by
              have := (List.getElem?_eq_some_iff.mp g1).1
              rw [List.length_append] at this
              exact this
            have ki : k = i := by omega
            subst ki
            rw [List.getElem?_append_right (by omega), lrs, Nat.sub_self] at g1
            cases g1
            rw [eRi] at g2
            cases g2
            rw [upd_ne rD]
            exact er
    obtain ⟨sG, rs, eD, lrs, _, at_⟩ := p1
    rw [List.length_map, ← lR] at lrs
    have s2 := s1.trans sG
    have rrow : ∀ (k : Nat) (r : Addr), rs[k]? = some r → ∃ row, R[k]? = some row ∧ G r = some (.lst (row.map V.str)) := fun k r e => by
      have hk := (List.getElem?_eq_some_iff.mp e).1
      have e1 : R[k]? = some R[k] := List.getElem?_eq_getElem (by omega)
      exact ⟨_, e1, at_ k r _ e e1⟩
    clear sG el s1 nD nl at_
    refine ⟨.ref D, rfl, D, rfl, ⟨_, .inl (.inl eD)⟩, fun D2 nD2 => ?_⟩
    refine lc_list (xs := rs.map V.ref) (fun i G2 => Same G G2 ∧ G2 D2 = some (.lst (((R.take i).map fun row => decide (row.length = 2)).map V.bl))) ⟨same_new nD2, upd_same⟩ (fun i G2 _ p1 => .inl (.inl (p1.1 _ _ eD))) (fun i x G2 ex p1 => ?_) (fun G2 p1 => ?_)
    · obtain ⟨sG, eD2⟩ := p1
      rw [List.getElem?_map] at ex
      cases er : rs[i]? with
      | none => rw [er] at ex; cases ex
      | some r =>
        rw [er] at ex
        cases ex
        have hi := (List.getElem?_eq_some_iff.mp er).1
        obtain ⟨row, e1, e3⟩ := rrow i r er
        refine ⟨rfl, tyes_if ⟨.ref r, rfl, r, _, rfl, .inl (.inl (.inl (sG _ _ e3))), rfl, _, eD2, ?_, fun c o hc => ?_, ?_⟩⟩
        · rw [List.length_map, List.length_map, List.length_take]
          exact small7 (by omega)
        · rw [upd_ne (ne_of_none hc nD2)]
          exact sG _ _ hc
        · rw [upd_same, take_next e1, List.map_append, List.map_append, List.length_map]
          congr 3
          have : decide (V.int (row.length : Int) = V.int 2) = decide (row.length = 2) := by
            by_cases z : row.length = 2
            · rw [decide_eq_true z, z]
              rfl
            · rw [decide_eq_false z, decide_eq_false fun y => z (by have := V.int.inj y; omega)]
          rw [this]
          rfl
    obtain ⟨sG, eD2⟩ := p1
    rw [List.length_map, lrs, List.take_length] at eD2
    refine ⟨D2, _, rfl, .inl (.inl eD2), ?_⟩
    have s3 := s2.trans sG
    have eD := sG _ _ eD
    have rrow : ∀ (k : Nat) (r : Addr), rs[k]? = some r → ∃ row, R[k]? = some row ∧ G2 r = some (.lst (row.map V.str)) := fun k r e => let ⟨a, e1, e2⟩ := rrow k r e; ⟨a, e1, sG _ _ e2⟩
    clear eD2 sG s2 nD2
    cases hall : (R.map fun row => decide (row.length = 2)).all id with
    | false => exact ⟨false, rfl, iteF ⟨false, rfl, iteF (k _ s3)⟩⟩
    | true =>
    have two : ∀ (j : Nat) (row : List Str), R[j]? = some row → ∃ a b, row = [a, b] ∧ a.length ≤ 6000 ∧ b.length ≤ 6000 := fun j row e => by
      have z := List.all_eq_true.mp hall (decide (row.length = 2)) (List.mem_map_of_mem (f := fun row : List Str => decide (row.length = 2)) (List.mem_of_getElem? e))
      have z : row.length = 2 := of_decide_eq_true z
      have y := (smR row (List.mem_of_getElem? e)).2
      match row, z with
      | [a, b], _ => exact ⟨a, b, rfl, y a (by simp), y b (by simp)⟩
    have posR : 0 < R.length := by
      rw [lR]
      exact List.length_pos_iff.mpr neL
    obtain ⟨r0, er0⟩ : ∃ r, rs[0]? = some r := ⟨_, List.getElem?_eq_getElem (by omega : 0 < rs.length)⟩
    obtain ⟨row0, f1, f3⟩ := rrow 0 r0 er0
    obtain ⟨a0, b0, rfl, _, _⟩ := two 0 row0 f1
    refine ⟨true, rfl, iteT ?_⟩
    refine ⟨.ref D, rfl, D, _, 0, .ref r0, rfl, rfl, .inl (.inl eD), atI_nat (j := 0) (by rw [List.getElem?_map, er0]; rfl), r0, _, 0, .str a0, rfl, rfl, .inl (.inl f3), atI_nat (j := 0) rfl, rfl, ?_⟩
    by_cases hsh : a0 = Str.ofString "shop"
    case neg =>
      rw [decide_eq_false fun z => hsh (V.str.inj z)]
      exact ⟨false, rfl, iteF (k _ s3)⟩
    rw [decide_eq_true (congrArg V.str hsh)]
    refine ⟨true, rfl, iteT ?_⟩
    -- plant
    refine ⟨.ref D, rfl, 1, rfl, D, _, rfl, .inl (.inl eD), fun c nc => ?_⟩
    have sc := same_new (o := .lst (cutV (rs.map V.ref) (some 1) none)) nc
    have ec : (upd G2 c (.lst (cutV (rs.map V.ref) (some 1) none))) c = some (.lst ((rs.drop 1).map V.ref)) := by
      rw [upd_same, show cutV (rs.map V.ref) (some 1) none = (rs.drop 1).map V.ref from (cutV_tail (rs.map V.ref)).trans List.map_drop.symm]
    have eD := sc _ _ eD
    have s4 := s3.trans sc
    have rrow : ∀ (k : Nat) (r : Addr), rs[k]? = some r → ∃ row, R[k]? = some row ∧ (upd G2 c (.lst (cutV (rs.map V.ref) (some 1) none))) r = some (.lst (row.map V.str)) := fun k r e => let ⟨a, e1, e2⟩ := rrow k r e; ⟨a, e1, sc _ _ e2⟩
    clear sc nc s3 f3
    generalize upd G2 c _ = G3 at ec eD s4 rrow ⊢
    refine ⟨c, rfl, ⟨_, .inl (.inl ec)⟩, fun D3 nD3 => ?_⟩
    refine lc_list (xs := (rs.drop 1).map V.ref) (fun i G => Same G3 G ∧ ∃ pl : List Int, G D3 = some (.lst (pl.map V.int)) ∧ pl.length = i ∧ ∀ j n, pl[j]? = some n → ∃ b, R[j + 1]? = some [numT n, b]) ⟨same_new nD3, [], upd_same, rfl, fun j n h => (by cases h)⟩ (fun i G _ p1 => .inl (.inl (p1.1 _ _ ec))) (fun i x G ex p1 => ?_) (fun G p1 => ?_)
    · obtain ⟨sG, pl, eD3, lpl, at_⟩ := p1
      rw [List.getElem?_map, List.getElem?_drop] at ex
      cases er : rs[1 + i]? with
      | none => rw [er] at ex; cases ex
      | some r =>
        rw [er] at ex
        cases ex
        have hi := (List.getElem?_eq_some_iff.mp er).1
        obtain ⟨row, e1, e3⟩ := rrow _ r er
        obtain ⟨a, b, rfl, la, _⟩ := two _ _ e1
        refine ⟨rfl, tyes_if ⟨.ref r, rfl, r, _, 0, .str a, rfl, rfl, .inl (.inl (sG _ _ e3)), atI_nat (j := 0) rfl, a, rfl, by omega, fun n hn e => ⟨_, eD3, ?_, fun c o hc => ?_, pl ++ [n], ?_, ?_, fun j m hj => ?_⟩, fun _ => k _ (s4.trans sG)⟩⟩
        · rw [List.length_map]
          exact small7 (by omega)
        · rw [upd_ne (ne_of_none hc nD3)]
          exact sG _ _ hc
        · rw [upd_same, List.map_append]
          rfl
        · rw [List.length_append, lpl]
          rfl
        · by_cases z : j < pl.length
          · rw [List.getElem?_append_left z] at hj
            exact at_ j m hj
          · rw [List.getElem?_append_right (by omega)] at hj
            have jz : j - pl.length = 0 := by
              cases y : j - pl.length with
              | zero => rfl
              | succ q => rw [y] at hj; cases hj
            rw [jz] at hj
            cases hj
            exact ⟨b, by rw [show j + 1 = 1 + i by omega, ← e]; exact e1⟩
    obtain ⟨sG, pl, eD3, lpl, atP⟩ := p1
    rw [List.length_map, List.length_drop, lrs] at lpl
    refine ⟨D3, _, rfl, .inl ⟨.inl (.inl eD3), fun p2 np2 => ?_⟩⟩
    have sp := sG.trans (same_new (o := .tup (pl.map V.int)) np2)
    have ep : (upd G p2 (.tup (pl.map V.int))) p2 = some (.tup (pl.map V.int)) := upd_same
    have eD := sp _ _ eD
    have s5 := s4.trans sp
    have rrow : ∀ (k : Nat) (r : Addr), rs[k]? = some r → ∃ row, R[k]? = some row ∧ (upd G p2 (.tup (pl.map V.int))) r = some (.lst (row.map V.str)) := fun k r e => let ⟨a, e1, e2⟩ := rrow k r e; ⟨a, e1, sp _ _ e2⟩
    clear sp eD3 sG nD3 ec np2 s4
    generalize upd G p2 _ = G4 at ep eD s5 rrow ⊢
    -- stock
    refine ⟨.ref D, rfl, D, rfl, ⟨_, .inl (.inl eD)⟩, fun D4 nD4 => ?_⟩
    have h0 : ∀ (j : Nat) (n : Int), ([] : List Int)[j]? = some n → ∃ a, R[j]? = some [a, numT n] := fun j n h => by simp at h
    refine lc_list (xs := rs.map V.ref) (fun i G => Same G4 G ∧ ∃ ss : List Int, G D4 = some (.lst (ss.map V.int)) ∧ ss.length = i ∧ (∀ n ∈ ss, n.natAbs < 10 ^ 40) ∧ ∀ j n, ss[j]? = some n → ∃ a, R[j]? = some [a, numT n]) ⟨same_new nD4, [], upd_same, rfl, (fun n hn => by cases hn), h0⟩ (fun i G _ p1 => .inl (.inl (p1.1 _ _ eD))) (fun i x G ex p1 => ?_) (fun G p1 => ?_)
    · obtain ⟨sG, ss, eD4, lss, bd, at_⟩ := p1
      rw [List.getElem?_map] at ex
      cases er : rs[i]? with
      | none => rw [er] at ex; cases ex
      | some r =>
        rw [er] at ex
        cases ex
        have hi := (List.getElem?_eq_some_iff.mp er).1
        obtain ⟨row, e1, e3⟩ := rrow _ r er
        obtain ⟨a, b, rfl, _, lb⟩ := two _ _ e1
        refine ⟨rfl, tyes_if ⟨.ref r, rfl, r, _, 1, .str b, rfl, rfl, .inl (.inl (sG _ _ e3)), atI_nat (j := 1) rfl, b, rfl, by omega, fun n hn e => ⟨_, eD4, ?_, fun c o hc => ?_, ss ++ [n], ?_, ?_, (fun m hm => ?_), fun j m hj => ?_⟩, fun _ => k _ (s5.trans sG)⟩⟩
        · rw [List.length_map]
          exact small7 (by omega)
        · rw [upd_ne (ne_of_none hc nD4)]
          exact sG _ _ hc
        · rw [upd_same, List.map_append]
          rfl
        · rw [List.length_append, lss]
          rfl
        · rcases List.mem_append.mp hm with z | z
          · exact bd m z
          · rw [List.mem_singleton.mp z]
            exact hn
        · by_cases z : j < ss.length
          · rw [List.getElem?_append_left z] at hj
            exact at_ j m hj
          · rw [List.getElem?_append_right (by omega)] at hj
            have jz : j - ss.length = 0 := by
              cases y : j - ss.length with
              | zero => rfl
              | succ q => rw [y] at hj; cases hj
            rw [jz] at hj
            cases hj
            exact ⟨a, by rw [show j = i by omega, ← e]; exact e1⟩
    obtain ⟨sG, ss, eD4, lss, bdS, atS⟩ := p1
    rw [List.length_map, lrs] at lss
    refine ⟨D4, _, rfl, .inl ⟨.inl (.inl eD4), fun q2 nq2 => ?_⟩⟩
    have sq := sG.trans (same_new (o := .tup (ss.map V.int)) nq2)
    have eq : (upd G q2 (.tup (ss.map V.int))) q2 = some (.tup (ss.map V.int)) := upd_same
    have ep := sq _ _ ep
    have s6 := s5.trans sq
    clear sq eD4 sG nD4 nq2 rrow eD s5
    generalize upd G q2 _ = G5 at ep eq s6 ⊢
    -- the rows are those of the two
    have lb : (bosses pl).length = R.length := by
      show (pl.map numT).length + 1 = _
      rw [List.length_map]
      omega
    have eRows : R = rowsOf pl ss := by
      refine List.ext_getElem? fun j => ?_
      unfold rowsOf
      rw [List.getElem?_zipWith, List.getElem?_map]
      by_cases hj : j < R.length
      · have e2 : ss[j]? = some ss[j] := List.getElem?_eq_getElem (by omega)
        obtain ⟨a, ea⟩ := atS j _ e2
        rw [ea, e2]
        cases j with
        | zero =>
          rw [f1] at ea
          have y := (List.cons.inj (Option.some.inj ea)).1
          rw [← y, hsh]
          rfl
        | succ i =>
          have e3 : pl[i]? = some pl[i] := List.getElem?_eq_getElem (by omega)
          obtain ⟨b, eb⟩ := atP i _ e3
          rw [ea] at eb
          have e4 : (bosses pl)[i + 1]? = some (numT pl[i]) := by
            show (pl.map numT)[i]? = _
            rw [List.getElem?_map, e3]
            rfl
          rw [e4]
          have := (List.cons.inj (Option.some.inj eb)).1
          rw [this]
          rfl
      · rw [List.getElem?_eq_none (by omega), List.getElem?_eq_none (l := bosses pl) (by omega)]
    have kd : ∀ ns : List Int, ∀ x ∈ ns.map V.int, ∃ n, Kd G5 x n := fun ns x hx => by
      obtain ⟨n, _, rfl⟩ := List.mem_map.mp hx
      exact ⟨_, .int n⟩
    by_cases big4 : 40 ≤ pl.length
    · exact ⟨.ref p2, rfl, .inr ⟨p2, pl.map V.int, rfl, ep, by rw [List.length_map]; exact big4, false, rfl, iteF ⟨false, rfl, iteF (k _ s6)⟩⟩⟩
    refine ⟨.ref p2, rfl, .inl ⟨_, fitsV (pl.map V.int), rfl, FitsIs.tup ep (by rw [List.length_map]; omega) (kd pl), fun G6 s7 => ⟨_, rfl, ?_⟩⟩⟩
    cases hf : fitsV (pl.map V.int) with
    | false => exact iteF ⟨false, rfl, iteF (k _ (s6.trans s7))⟩
    | true =>
      have nnd := bad pl ss eRows (by omega) bdS (plant_fits hf)
      refine iteT ⟨.ref p2, rfl, .ref q2, rfl, p2, pl.map V.int, .ref q2, false, rfl, .inl (.inl (s7 _ _ ep)), StIs.tup (s7 _ _ eq) (by rw [List.length_map]; omega) (fun x hx => ?_) ⟨fun z => (by cases z), fun z => ?_⟩, fun G7 s8 => ⟨false, rfl, iteF (k _ (s6.trans (s7.trans s8)))⟩⟩
      · obtain ⟨n, _, rfl⟩ := List.mem_map.mp hx
        exact ⟨_, .int n⟩
      · obtain ⟨_, ns, e, n2⟩ := z
        have : ss = ns := ints_inj ss ns e
        rw [← this] at n2
        exact absurd n2 nnd
end
end PT

/-! texts as data -/
namespace PT
open PySem PySem.Spec PyProof.Rows L2 TL
theorem strOk_iff {x : Str} : PyData.strOk x = true ↔ ∀ c ∈ tl x, c < 0x110000 := by
  unfold PyData.strOk tl
  rw [Array.all_eq_true_iff_forall_mem]
  constructor
  · intro h c hc
    exact of_decide_eq_true (h c (Array.mem_toList_iff.mp hc))
  · intro h c hc
    exact decide_eq_true (h c (Array.mem_toList_iff.mpr hc))
theorem mem_joinL {c : Nat} {s : List Nat} : ∀ {ls : List (List Nat)}, c ∈ joinL s ls → c ∈ s ∨ ∃ y ∈ ls, c ∈ y
  | [], h => by simp [joinL] at h
  | [a], h => .inr ⟨a, List.mem_singleton.mpr rfl, h⟩
  | a :: b :: r, h => by
    have h : c ∈ a ++ (s ++ joinL s (b :: r)) := h
    rcases List.mem_append.mp h with z | z
    · exact .inr ⟨a, List.mem_cons_self, z⟩
    · rcases List.mem_append.mp z with z | z
      · exact .inl z
      · rcases mem_joinL z with z | ⟨y, hy, z⟩
        · exact .inl z
        · exact .inr ⟨y, List.mem_cons_of_mem _ hy, z⟩
theorem dp_texts {K : PySem.W.Frag} {H : Hp} : ∀ ts : List Str, DpAll K H (ts.map V.str) (ts.map PyData.str)
  | [] => .nil
  | t :: ts => .cons (.str t) (dp_texts ts)
theorem lay_texts : ∀ {ts : List Str}, (∀ t ∈ ts, PyData.strOk t = true) → PyData.canLayAll0 (ts.map PyData.str) = true
  | [], _ => by simp [PyData.canLayAll0]
  | t :: ts, h => by
    rw [List.map_cons]
    simp only [PyData.canLayAll0, PyData.canLay0, h t List.mem_cons_self, lay_texts fun u hu => h u (List.mem_cons_of_mem _ hu), Bool.and_self]
theorem depth_texts : ∀ ts : List Str, PyData.depthAll (ts.map PyData.str) = 0
  | [] => by simp [PyData.depthAll]
  | t :: ts => by
    rw [List.map_cons]
    simp only [PyData.depthAll, PyData.depth, depth_texts ts]
    rfl
theorem shaped_texts {ts : List Str} (h : ∀ t ∈ ts, PyData.strOk t = true) : SeqAt.shaped (.list (ts.map PyData.str)) = true := by
  unfold SeqAt.shaped
  simp only [PyData.canLay0, PyData.depth, lay_texts h, depth_texts]
  decide
end PT

set_option maxHeartbeats 4000000
/-! texts put together; zip of two tuples -/
namespace PT
open PySem PySem.Spec PyProof.Rows L2
abbrev rCatS : R2 := fun x y H Q => ∃ i j, x = .str i ∧ y = .str j ∧ i.length + j.length ≤ sizeLine ∧ Q (.str (i ++ j)) H
theorem walk_TT {K : PySem.W.Frag} {a b : Addr} {xs ys : List V} {n : Nat} (hx : xs.length = n) (hy : ys.length = n) : Walk (RZ.ItzT K a b) n (fun H => SqT K H a xs ∧ SqT K H b ys) (YPair (fun i => xs[i]?) (fun i => ys[i]?)) := by
  refine ⟨fun i H lt g => ?_, fun H g => ⟨xs, ys, g.1, g.2, .inl (by omega)⟩, fun i H v H' lt g y => ?_⟩
  · exact ⟨xs, ys, xs[i]'(by omega), ys[i]'(by omega), g.1, g.2, List.getElem?_eq_getElem _, List.getElem?_eq_getElem _⟩
  · obtain ⟨T, x, y, rfl, nT, rfl, hx, hy⟩ := y
    exact ⟨T, x, y, rfl, nT, rfl, hx xs g.1, hy ys g.2⟩
theorem shop_row (i : Int) : Str.ofString "shop " ++ numT i = rowT (Str.ofString "shop") i := by
  refine TL.ext_tl ?_
  unfold rowT
  rw [TL.tl_append, TL.tl_append, TL.tl_append, tl_sp, show TL.tl (Str.ofString "shop ") = [115, 104, 111, 112, 32] from tl_lit (by decide), show TL.tl (Str.ofString "shop") = [115, 104, 111, 112] from tl_lit (by decide)]
  rfl
/-- line by line -/
theorem lines_rows : ∀ (as : List Str) (is : List Int), (rowsT as is).map (fun r => r ++ Str.ofString "\n") = linesT as is
  | [], _ => rfl
  | _ :: _, [] => rfl
  | a :: as, i :: is => by
    rw [rowsT, List.map_cons, lines_rows as is]
    rfl
end PT

set_option maxHeartbeats 4000000
/-! a text any number of times -/
namespace PT
open PySem PySem.Spec PyProof.Rows L2
def repS (x : Str) (k : Int) : Str := ⟨(List.replicate k.toNat x.cps).foldl (· ++ ·) #[]⟩
theorem fold_len (a : Array Nat) : ∀ (n : Nat) (b : Array Nat), ((List.replicate n a).foldl (· ++ ·) b).size = b.size + n * a.size
  | 0, b => by simp
  | n + 1, b => by
    rw [List.replicate_succ, List.foldl_cons, fold_len a n, Array.size_append, Nat.succ_mul]
    omega
theorem repS_len (x : Str) (k : Int) : (repS x k).length = k.toNat * x.length := by
  unfold repS Str.length
  rw [fold_len]
  simp
abbrev rRepS : R2 := fun x y H Q => ∃ z k, x = .str z ∧ y = .int k ∧ 0 ≤ k ∧ k ≤ 1000 ∧ z.length ≤ 1000 ∧ Q (.str (repS z k)) H
theorem op_repS {X : Cx} : OpR X (binaryOp .Mult) rRepS := by
  intro pins st σ H x y v u Q I rx ry hh
  obtain ⟨z, k, rfl, rfl, k0, k1, lz, q⟩ := hh
  obtain ⟨t, rfl⟩ := rx
  obtain ⟨t', rfl⟩ := ry
  have big : z.length * k.toNat ≤ 1000 * 1000 := Nat.mul_le_mul lz (by omega)
  refine P.mul_str (by rw [decide_eq_false (by omega), decide_eq_false (by omega)]; rfl) (fun h1 h2 => ?_) (fun h1 h2 => ?_) ?_
  · have hk : 1 ≤ k := by omega
    have d : (2 ^ 63 - 1) / 1000 ≤ ((2 ^ 63 - 1) / k : Int) := by
      refine (Int.le_ediv_iff_mul_le (by omega)).mpr ?_
      have : (2 ^ 63 - 1) / 1000 * k ≤ (2 ^ 63 - 1) / 1000 * (1000 : Int) := Int.mul_le_mul_of_nonneg_left k1 (by decide)
      exact Int.le_trans this (by decide)
    have e : (1000 : Int) ≤ (2 ^ 63 - 1) / 1000 := by decide
    omega
  · exact decide_eq_false (fun z => absurd (Nat.lt_of_lt_of_le z big) (by decide))
  · have lim : (repS z k).length ≤ sizeLine := by
      rw [repS_len, Nat.mul_comm]
      exact Nat.le_trans big (by decide)
    by_cases c1 : k < 1
    · obtain rfl : k = 0 := by omega
      rw [if_pos c1]
      exact ⟨by decide, .str (repS z 0), H, I.tok _, ⟨_, rfl⟩, q⟩
    · rw [if_neg c1]
      by_cases c2 : (k == 1 || z.length == 0) = true
      · rw [if_pos c2]
        have ez : repS z k = z := by
          refine TL.ext_tl ?_
          rw [Bool.or_eq_true] at c2
          rcases c2 with c2 | c2
          · have : k = 1 := by simpa using c2
            subst this
            show ((List.replicate 1 z.cps).foldl (· ++ ·) #[]).toList = z.cps.toList
            simp
          · have e0 : z.length = 0 := by simpa using c2
            have e1 : (repS z k).length = 0 := by rw [repS_len, e0, Nat.mul_zero]
            rw [TL.len_tl] at e0 e1
            rw [List.length_eq_zero_iff.mp e0, List.length_eq_zero_iff.mp e1]
        rw [ez] at q
        exact ⟨.str z, H, I.tok _, ⟨_, rfl⟩, q⟩
      · rw [if_neg c2]
        exact ⟨lim, .str (repS z k), H, I.tok _, ⟨_, rfl⟩, q⟩
end PT

set_option maxHeartbeats 4000000
/-! a text any number of times -/
namespace PT
open PySem PySem.Spec PyProof.Rows L2
abbrev rRepB : R2 := fun x y H Q => ∃ z k, x = .str z ∧ y = .int k ∧ 0 ≤ k ∧ k ≤ 10000 ∧ z.length ≤ 100 ∧ Q (.str (repS z k)) H
theorem op_repB {X : Cx} : OpR X (binaryOp .Mult) rRepB := by
  intro pins st σ H x y v u Q I rx ry hh
  obtain ⟨z, k, rfl, rfl, k0, k1, lz, q⟩ := hh
  obtain ⟨t, rfl⟩ := rx
  obtain ⟨t', rfl⟩ := ry
  have big : z.length * k.toNat ≤ 100 * 10000 := Nat.mul_le_mul lz (by omega)
  refine P.mul_str (by rw [decide_eq_false (by omega), decide_eq_false (by omega)]; rfl) (fun h1 h2 => ?_) (fun h1 h2 => ?_) ?_
  · have hk : 1 ≤ k := by omega
    have d : (2 ^ 63 - 1) / 10000 ≤ ((2 ^ 63 - 1) / k : Int) := by
      refine (Int.le_ediv_iff_mul_le (by omega)).mpr ?_
      have : (2 ^ 63 - 1) / 10000 * k ≤ (2 ^ 63 - 1) / 10000 * (10000 : Int) := Int.mul_le_mul_of_nonneg_left k1 (by decide)
      exact Int.le_trans this (by decide)
    have e : (10000 : Int) ≤ (2 ^ 63 - 1) / 10000 := by decide
    omega
  · exact decide_eq_false (fun z => absurd (Nat.lt_of_lt_of_le z big) (by decide))
  · have lim : (repS z k).length ≤ sizeLine := by
      rw [repS_len, Nat.mul_comm]
      exact Nat.le_trans big (by decide)
    by_cases c1 : k < 1
    · obtain rfl : k = 0 := by omega
      rw [if_pos c1]
      exact ⟨by decide, .str (repS z 0), H, I.tok _, ⟨_, rfl⟩, q⟩
    · rw [if_neg c1]
      by_cases c2 : (k == 1 || z.length == 0) = true
      · rw [if_pos c2]
        have ez : repS z k = z := by
          refine TL.ext_tl ?_
          rw [Bool.or_eq_true] at c2
          rcases c2 with c2 | c2
          · have : k = 1 := by simpa using c2
            subst this
            show ((List.replicate 1 z.cps).foldl (· ++ ·) #[]).toList = z.cps.toList
            simp
          · have e0 : z.length = 0 := by simpa using c2
            have e1 : (repS z k).length = 0 := by rw [repS_len, e0, Nat.mul_zero]
            rw [TL.len_tl] at e0 e1
            rw [List.length_eq_zero_iff.mp e0, List.length_eq_zero_iff.mp e1]
        rw [ez] at q
        exact ⟨.str z, H, I.tok _, ⟨_, rfl⟩, q⟩
      · rw [if_neg c2]
        exact ⟨lim, .str (repS z k), H, I.tok _, ⟨_, rfl⟩, q⟩
open TL
theorem Asc.rep {z : Str} (h : Asc z) (k : Int) : Asc (repS z k) := by
  intro c hc
  have key : ∀ (n : Nat) (b : Array Nat), (∀ c ∈ b.toList, c < 128) → ∀ c ∈ ((List.replicate n z.cps).foldl (· ++ ·) b).toList, c < 128 := by
    intro n
    induction n with
    | zero => intro b hb c hc; exact hb c (by simpa using hc)
    | succ n ih =>
      intro b hb c hc
      rw [List.replicate_succ, List.foldl_cons] at hc
      refine ih (b ++ z.cps) (fun d hd => ?_) c hc
      rw [Array.toList_append] at hd
      rcases List.mem_append.mp hd with y | y
      · exact hb d y
      · exact h d y
  exact key k.toNat #[] (fun c hc => by simp at hc) c hc
theorem Asc.cut {z : Str} (h : Asc z) (lo hi : Option Int) : Asc (cutS z lo hi) := by
  intro c hc
  unfold cutS at hc
  rw [tl_mk] at hc
  exact h c (List.mem_of_mem_drop (List.mem_of_mem_take hc))
theorem Asc.lit {s : String} (h : (s.toList.map Char.toNat).all (· < 128) = true) : Asc (Str.ofString s) := fun c hc => by
  rw [tl_ofString] at hc
  exact of_decide_eq_true (List.all_eq_true.mp h c hc)
end PT


set_option maxHeartbeats 4000000
/-! the law's reading of numbers (law 53) -/
namespace PT
open PySem PySem.Spec PyProof.Rows L2 LamX NdefX TL
abbrev rNotSign : R2 := fun x y H Q => ∃ (c : Nat) (z : Str), x = .str ⟨#[c]⟩ ∧ y = .str z ∧ Q (.bl (!decide (c ∈ z.cps.toList))) H
theorem Asc.strOk {t : Str} (h : Asc t) : PyData.strOk t = true := strOk_iff.mpr fun c hc => by have := h c hc; omega
theorem dig_mem (c : Nat) : c ∈ (Str.ofString "0123456789").cps.toList ↔ 48 ≤ c ∧ c ≤ 57 := by
  have z : (Str.ofString "0123456789").cps.toList = [48, 49, 50, 51, 52, 53, 54, 55, 56, 57] := tl_lit (s := "0123456789") (by decide)
  rw [z]
  simp only [List.mem_cons, List.not_mem_nil, or_false]
  omega
section
variable {P : Program} {w : World} {K : PySem.W.Frag} {mg : Str → Option Value} {base : Heap}
def spNum53 : Sp := fun vs H Q _ => ∃ (t : Str) (m : Nat), vs = [.str t, .int (m : Int)] ∧ t.length ≤ 6000 ∧ Asc t ∧ 1 ≤ m ∧ m ≤ 40 ∧ (∀ (n : Nat) H', Same H H' → decT t (m : Int) = true → t = numT (n : Int) → n < 10 ^ 40 → Q (.int (n : Int)) H') ∧ (decT t (m : Int) = false → ∀ H', Same H H' → Q .non H')
theorem ok_num53 (T : Tx K mg) : FnOk P w K mg base CX0 1 T.f__law_number T.d__law_number ["signs", "most"] spNum53 := by
  refine T.F__law_number.ok scLawNumber (fun vs H Q E h => ?_) (fun cdv A outer s0 H vs Q E hr h => ?_)
  · obtain ⟨t, m, rfl, _⟩ := h
    rfl
  · obtain ⟨t, m, rfl, lt, as, m1, hm, k1, k2⟩ := h
    have nd := scLawNumber.nd
    refine ⟨_, (pss_cons (ps_if (PW.pt (pw_or (pt_not (pt_chain op_le op_le pe_int (pe_callB call_len_str (by rfl) T.n_len PySem.boot_len (pa_cons (pv 0) pa_nil)) (pv 1))) (pw_or1 (pt_cmpR (op_neD hr.units) (pe_lc (own := [("sign", 2)]) (g := gName 2) (tt := (tTest (tOp rNotSign (tVar 2) (tC (.str "0123456789"))))) (te := (tVar 2)) rfl nd (pi_str (pv 0))
(blkOk_by (N := ["signs", "most", "sign"]) (sc := defScope sLawNumber) (by decide +kernel)) (fun _ _ _ _ _ => (pg_name (i := 2) nd rfl (.inl rfl))) (fun _ _ _ _ _ => (pts_one (pt_cmpR op_notIn_sign (pv 2) pe_str (by rfl)))) (fun _ _ _ _ _ => (pv 2))) (pe_lst pa_nil) (nomark _)))))
(pss_one (ps_ret pe_non)) pss_nil)
(pss_one (ps_ret (pe_ifExp (PW.pt (pw_or (pt_cmpR op_eq (pv 0) pe_str (nomark _)) (pw_or1 (pt_cmpR op_ne (pe_ix ix_str (pv 0) pe_int (fun _ _ => rfl)) pe_str (nomark _))))) (pe_callTy call_int_str (by rfl) T.n_int (by decide +kernel) (pa_cons (pv 0) pa_nil)) pe_non)))), ?_⟩
    have big : 20000 ≤ sizeLine := (by decide)
    have lz : t.cps.size = (tl t).length := rfl
    have lt2 : (tl t).length ≤ 10000 := by rw [← len_tl]; omega
    have d40 : decT t (m : Int) = true ↔ decL (tl t) m := decT_iff t m
    have no : ¬ decL (tl t) m → decT t (m : Int) = false := fun n => by
      cases e : decT t (m : Int) with
      | false => rfl
      | true => exact absurd (d40.mp e) n
    have lz2 : t.length = (tl t).length := len_tl t
    refine ⟨.str t, rfl, t, rfl, by omega, _, _, rfl, rfl, ?_⟩
    by_cases h1 : (1 : Int) ≤ (t.length : Int)
    case neg =>
      exact ⟨false, congrArg V.bl (decide_eq_false h1), iteF ⟨false, rfl, iteT (iteT (k2 (no fun z => absurd z.2.1 (by
        intro y
        apply y
        exact List.length_eq_zero_iff.mp (by omega))) H (Same.refl H)))⟩⟩
    refine ⟨true, congrArg V.bl (decide_eq_true h1), iteT ⟨.int (m : Int), rfl, _, _, rfl, rfl, ?_⟩⟩
    by_cases h2 : (t.length : Int) ≤ (m : Int)
    case neg =>
      exact ⟨false, congrArg V.bl (decide_eq_false h2), iteT (iteT (k2 (no fun z => absurd z.2.2.1 (by omega)) H (Same.refl H)))⟩
    refine ⟨true, congrArg V.bl (decide_eq_true h2), iteF ⟨.str t, rfl, t, rfl, fun D nD => ?_⟩⟩
    refine lc_it walk_str (fun i G => Same H G ∧ ∃ us : List Str, G D = some (.lst (us.map V.str)) ∧ us.length ≤ i ∧ (∀ u ∈ us, Asc u) ∧ (us = [] ↔ ∀ c ∈ (tl t).take i, 48 ≤ c ∧ c ≤ 57)) ⟨same_new nD, [], upd_same, Nat.le_refl _, (fun u hu => by simp at hu), ⟨fun _ c hc => by simp at hc, fun _ => rfl⟩⟩ (fun i G _ _ => trivial) (fun i v G G2 hi p1 y => ?_) (fun G p1 => ?_)
    · obtain ⟨sG, us, eD, lu, au, hu⟩ := p1
      obtain ⟨rfl, c, ec, rfl⟩ := y
      have ec2 : (tl t)[i]? = some c := by rw [← ec]; exact Array.getElem?_toList ..
      have tk : (tl t).take (i + 1) = (tl t).take i ++ [c] := by rw [List.take_add_one, ec2]; rfl
      have hc : c < 128 := as c (List.mem_of_getElem? ec2)
      refine ⟨rfl, .str ⟨#[c]⟩, rfl, c, _, rfl, rfl, _, rfl, ?_⟩
      by_cases hd : c ∈ (Str.ofString "0123456789").cps.toList
      · rw [decide_eq_true hd]
        refine iteF ⟨sG, us, eD, by omega, au, hu.trans ?_⟩
        rw [tk]
        have := (dig_mem c).mp hd
        constructor
        · intro h d hm
          rcases List.mem_append.mp hm with z | z
          · exact h d z
          · rw [List.mem_singleton.mp z]
            exact this
        · exact fun h d hm => h d (List.mem_append_left _ hm)
      · rw [decide_eq_false hd]
        refine iteT ⟨.str ⟨#[c]⟩, rfl, _, eD, by rw [List.length_map]; omega, fun a o h => (upd_ne (ne_of_none h nD)).trans (sG _ _ h), us ++ [⟨#[c]⟩], ?_, by rw [List.length_append]; exact Nat.succ_le_succ lu, ?_, ?_⟩
        · rw [upd_same, List.map_append]
          rfl
        · intro u hu
          rcases List.mem_append.mp hu with z | z
          · exact au u z
          · rw [List.mem_singleton.mp z]
            intro d hd
            rw [List.mem_singleton.mp (show d ∈ [c] from hd)]
            exact hc
        · constructor
          · intro h
            simp at h
          · intro h
            exact absurd ((dig_mem c).mpr (h c (by rw [tk]; exact List.mem_append_right _ List.mem_cons_self))) hd
    obtain ⟨sG, us, eD, lu, au, hu⟩ := p1
    rw [lz, List.take_length] at hu
    refine ⟨Nat.zero_le _, fun e0 ne0 => ?_⟩
    have s0 := same_new (o := .lst []) ne0
    have aok : ∀ u ∈ us, PyData.strOk u = true := fun u hu => (au u hu).strOk
    refine ⟨.list (us.map .str), .list [], .lst (.inl (.inl (s0 _ _ eD))) (dp_texts us), .lst (.inl (.inl upd_same)) .nil, shaped_texts aok, by decide, ?_⟩
    cases us with
    | cons u us =>
      have n : ¬ decL (tl t) m := fun z => by
        have := hu.mpr z.1
        cases this
      exact ⟨_, rfl, iteT (k2 (no n) _ (sG.trans s0))⟩
    | nil =>
      have ad := hu.mp rfl
      refine ⟨_, rfl, iteF ?_⟩
      have hz : (Str.ofString "0").cps.toList = [48] := tl_lit (s := "0") (by decide)
      have e0 : decide (V.str t = V.str (Str.ofString "0")) = decide (tl t = [48]) := by
        by_cases h : tl t = [48]
        · rw [decide_eq_true h, decide_eq_true (congrArg V.str (ext_tl (h.trans hz.symm)))]
        · rw [decide_eq_false h, decide_eq_false fun z => h (by rw [V.str.inj z]; exact hz)]
      have ne : tl t ≠ [] := fun y => by rw [y] at lz2; simp at lz2; omega
      have sH := sG.trans s0
      have isN : ∀ z : tl t = [48] ∨ (tl t).head? ≠ some 48, ∃ n : Nat, decT t (m : Int) = true ∧ t = numT (n : Int) ∧ PySem.intText? t = some (n : Int) ∧ n < 10 ^ 40 := fun z => by
        have dl : decL (tl t) m := ⟨ad, ne, by omega, z⟩
        have e := dec_numL _ (tl t) rfl ad ne z
        have lt : NumText.digitsVal (tl t) < 10 ^ 40 := Nat.lt_of_lt_of_le (val_lt _ _ rfl ad) (Nat.pow_le_pow_right (by decide) (by omega))
        have et : t = numT ((NumText.digitsVal (tl t) : Nat) : Int) := ext_tl (by rw [numT_pos (by omega), Int.natAbs_natCast]; exact e)
        refine ⟨NumText.digitsVal (tl t), d40.mpr dl, et, ?_, lt⟩
        have := (num_ok (i := ((NumText.digitsVal (tl t) : Nat) : Int)) (by rw [Int.natAbs_natCast]; exact lt)).2.1
        rw [← et] at this
        exact this
      by_cases h3 : tl t = [48]
      · obtain ⟨n, dn, en, hn, ln⟩ := isN (.inl h3)
        refine ⟨.str t, rfl, rfl, _, rfl, ?_⟩
        rw [e0, decide_eq_true h3]
        exact iteT (iteT ⟨.str t, rfl, t, (n : Int), rfl, hn, by omega, k1 n _ sH dn en ln⟩)
      · obtain ⟨c, r, ec⟩ : ∃ c r, tl t = c :: r := by
          cases h : tl t with
          | nil => exact absurd h ne
          | cons c r => exact ⟨c, r, rfl⟩
        refine ⟨.str t, rfl, rfl, _, rfl, ?_⟩
        rw [e0, decide_eq_false h3]
        have ex : (!decide (V.str ⟨#[c]⟩ = V.str (Str.ofString "0"))) = !decide (c = 48) := by
          congr 1
          by_cases h : c = 48
          · rw [decide_eq_true h, decide_eq_true]
            rw [h]
            exact congrArg V.str (ext_tl hz.symm)
          · rw [decide_eq_false h, decide_eq_false]
            intro z
            have y := congrArg tl (V.str.inj z)
            have y : [c] = tl (Str.ofString "0") := y
            rw [show tl (Str.ofString "0") = [48] from hz] at y
            exact h (List.cons.inj y).1
        refine iteF ⟨.str t, rfl, t, 0, c, rfl, rfl, by omega, (by show atI (tl t) 0 = some c; rw [ec]; exact atI_nat (j := 0) rfl), rfl, _, rfl, ?_⟩
        rw [ex]
        by_cases h4 : c = 48
        · rw [decide_eq_true h4]
          exact iteF (k2 (no fun z => by
            rcases z.2.2.2 with y | y
            · exact h3 y
            · rw [ec, h4] at y
              exact y rfl) _ sH)
        · obtain ⟨n, dn, en, hn, ln⟩ := isN (.inr (by rw [ec]; intro y; exact h4 (Option.some.inj y)))
          rw [decide_eq_false h4]
          exact iteT ⟨.str t, rfl, t, (n : Int), rfl, hn, by omega, k1 n _ sH dn en ln⟩
def spBox53 : Sp := fun vs H Q _ => ∃ t : Str, vs = [.str t] ∧ t.length ≤ 6000 ∧ Asc t ∧ (∀ (i : Int) H', Same H H' → i.natAbs < 10 ^ 40 → t = numT i → Q (.int i) H') ∧ (¬ numB t → ∀ H', Same H H' → Q .non H')
theorem cutK (t : Str) (k : Nat) : tl (cutS t none (some (k : Int))) = (tl t).take k := by
  unfold cutS
  rw [tl_mk, show HT.sIx t.length 0 none = 0 from rfl, show HT.sIx t.length t.length (some (k : Int)) = min k t.length from HT.sIx_nat t.length t.length k, List.drop_zero, Nat.sub_zero]
  show (tl t).take (min k t.length) = _
  rw [len_tl, ← List.take_take, List.take_length]
theorem ok_box53 (T : Tx K mg) : FnOk P w K mg base CX0 2 T.f__law_box T.d__law_box ["signs"] spBox53 := by
  refine T.F__law_box.ok scLawBox (fun vs H Q E h => ?_) (fun cdv A outer s0 H vs Q E hr h => ?_)
  · obtain ⟨t, rfl, _⟩ := h
    rfl
  · obtain ⟨t, rfl, lt, as, k1, k2⟩ := h
    have nd := scLawBox.nd
    refine ⟨_, (pss_cons (ps_if (pt_cmpR op_ne (pe_slice sl_str (pv 0) po_none (po_some pe_int)) pe_str (nomark _))
(pss_one (ps_ret (pe_call (ok_num53 T) (hr.mono (by omega)) (by rfl) T.g__law_number T.F__law_number.kp T.b__law_number .nil pass0 (pa_cons (pv 0) (pa_cons pe_int pa_nil))))) pss_nil)
(pss_cons (ps_set (i := 1) nd rfl (.inl rfl) (pe_call (ok_num53 T) (hr.mono (by omega)) (by rfl) T.g__law_number T.F__law_number.kp T.b__law_number .nil pass0 (pa_cons (pe_slice sl_str (pv 0) (po_some pe_int) po_none) (pa_cons pe_int pa_nil))))
(pss_one (ps_ret (pe_ifExp (PW.pt (pw_or (pt_cmpR op_isN (pv 1) pe_non (nomark _)) (pw_or1 (pt_cmpR op_eq (pv 1) pe_int (nomark _))))) pe_non (pe_op op_sub pe_int (pv 1))))))), ?_⟩
    have big : 20000 ≤ sizeLine := (by decide)
    have tm : tl (Str.ofString "-") = [45] := tl_lit (by decide)
    have cut1 : decide (V.str (cutS t none (some 1)) = V.str (Str.ofString "-")) = pre [45] (tl t) := by
      have e : tl (cutS t none (some 1)) = (tl t).take 1 := cutK t 1
      unfold pre
      by_cases h : (tl t).take 1 = [45]
      · rw [decide_eq_true (congrArg V.str (ext_tl (e.trans (h.trans tm.symm))))]
        show true = ((tl t).take 1 == _)
        rw [h]
        rfl
      · rw [decide_eq_false fun z => h (e.symm.trans ((congrArg tl (V.str.inj z)).trans tm))]
        exact (beq_false_of_ne h).symm
    have d0 : ∀ n : Nat, n < 10 ^ 40 → ((n : Nat) : Int).natAbs < 10 ^ 40 := fun n h => by rw [Int.natAbs_natCast]; exact h
    refine ⟨.str t, rfl, 1, rfl, t, rfl, by omega, rfl, _, rfl, ?_⟩
    rw [cut1]
    cases hp : pre [45] (tl t) with
    | false =>
      have er : Txt.removeprefix t minus = t := ext_tl (by rw [rmpre_tl, tl_minus, if_neg (by rw [hp]; decide)])
      refine iteT ⟨.str t, rfl, t, 40, rfl, lt, as, by decide, by decide, fun n H1 s1 d e ln => k1 (n : Int) H1 s1 (d0 n ln) e, fun d H1 s1 => k2 (fun z => ?_) H1 s1⟩
      have := z.1
      rw [er] at this
      rw [show decT t ((40 : Nat) : Int) = false from d] at this
      cases this
    | true =>
      obtain ⟨r, et⟩ : ∃ r, tl t = 45 :: r := by
        unfold pre at hp
        cases q : tl t with
        | nil => rw [q] at hp; exact absurd hp (by decide)
        | cons a r =>
          rw [q] at hp
          have := eq_of_beq hp
          exact ⟨r, by rw [(List.cons.inj this).1]⟩
      obtain ⟨u, eu⟩ : ∃ u, u = cutS t (some 1) none := ⟨_, rfl⟩
      have tu : tl u = r := by
        rw [eu]
        have e : tl (cutS t (some ((1 : Nat) : Int)) none) = (tl t).drop 1 := by
          unfold cutS
          rw [tl_mk, show HT.sIx t.length t.length none = t.length from rfl, show HT.sIx t.length 0 (some ((1 : Nat) : Int)) = min 1 t.length from HT.sIx_nat t.length 0 1]
          have l1 : 1 ≤ (tl t).length := by rw [et]; simp
          have l2 : t.length = (tl t).length := len_tl t
          have l3 : min 1 t.length = 1 := by omega
          show ((tl t).drop (min 1 t.length)).take (t.length - min 1 t.length) = _
          rw [l3]
          exact List.take_of_length_le (by rw [List.length_drop]; omega)
        exact e.trans (by rw [et]; rfl)
      have er : Txt.removeprefix t minus = u := ext_tl (by rw [rmpre_tl, tl_minus, if_pos hp, et, tu]; rfl)
      have lu : u.length ≤ t.length := by rw [eu]; exact cutS_length ..
      refine iteF ⟨.str t, rfl, 1, rfl, t, rfl, by omega, ?_⟩
      rw [← eu]
      refine ⟨u, 40, rfl, by omega, by rw [eu]; exact as.cut _ _, by decide, by decide, fun n H1 s1 d e ln => ?_, fun d H1 s1 => ?_⟩
      · by_cases n0 : n = 0
        · subst n0
          refine ⟨.int 0, rfl, rfl, _, rfl, ?_⟩
          refine ite2 (fun c => absurd (of_decide_eq_true c) (by intro z; cases z)) fun _ => ⟨.int 0, rfl, rfl, _, rfl, iteT (k2 (fun z => z.2 ?_) H1 s1)⟩
          refine ext_tl ?_
          have hu : tl u = [48] := by rw [e]; decide +kernel
          rw [et, ← tu, hu]
          exact (tl_lit (by decide)).symm
        · refine ⟨.int (n : Int), rfl, rfl, _, rfl, ?_⟩
          refine ite2 (fun c => absurd (of_decide_eq_true c) (by intro z; cases z)) fun _ => ⟨.int (n : Int), rfl, rfl, _, rfl, ?_⟩
          rw [decide_eq_false fun z => n0 (by have := V.int.inj z; omega)]
          refine iteF ⟨.int (n : Int), rfl, 0, (n : Int), rfl, rfl, ?_⟩
          have ei : (0 : Int) - (n : Int) = -(n : Int) := by omega
          show Q (.int (0 - (n : Int))) H1
          rw [ei]
          refine k1 _ H1 s1 (by rw [Int.natAbs_neg]; exact d0 n ln) (ext_tl ?_)
          rw [et, numT_neg (by omega), Int.natAbs_neg, Int.natAbs_natCast, ← tu, e, numT_pos (by omega), Int.natAbs_natCast]
      · refine ⟨.non, rfl, rfl, _, rfl, ?_⟩
        rw [decide_eq_true rfl]
        refine iteT (iteT (k2 (fun z => ?_) H1 s1))
        have := z.1
        rw [er] at this
        rw [show decT u ((40 : Nat) : Int) = false from d] at this
        cases this
end
end PT

/-! a page out of its rows -/
namespace PT
open PySem PySem.Spec PyProof.Rows L2 TL
theorem spl1_ne (s : Nat) : ∀ (l acc : List Nat), spl [s] 0 acc l ≠ [] := by
  intro l
  induction l with
  | nil => intro acc; rw [spl_nil]; simp
  | cons d r ih =>
    intro acc
    cases h : pre [s] (d :: r) with
    | true => rw [spl_hit h]; simp
    | false => rw [spl_miss h]; exact ih _
theorem join_spl (s : Nat) : ∀ (l acc : List Nat), joinL [s] (spl [s] 0 acc l) = acc ++ l := by
  intro l
  induction l with
  | nil => intro acc; rw [spl_nil]; simp [joinL]
  | cons d r ih =>
    intro acc
    cases h : pre [s] (d :: r) with
    | true =>
      have e : d = s := by
        unfold pre at h
        have := eq_of_beq h
        exact (List.cons.inj this).1
      rw [spl_hit h]
      show joinL [s] (acc :: spl [s] 0 [] r) = _
      have i := ih []
      cases q : spl [s] 0 [] r with
      | nil => exact absurd q (spl1_ne s r [])
      | cons a b =>
        rw [q] at i
        show acc ++ ([s] ++ joinL [s] (a :: b)) = _
        rw [i, e]
        rfl
    | false =>
      rw [spl_miss h, ih, List.append_assoc]
      rfl
theorem line_back {y a : Str} {i : Int} (h : Txt.split y spT = [a, numT i]) : y = rowT a i := by
  refine ext_tl ?_
  have e := split_tl y
  rw [h] at e
  have j := join_spl 32 (tl y) []
  rw [← e] at j
  have j : tl a ++ ([32] ++ tl (numT i)) = [] ++ tl y := j
  unfold rowT
  rw [tl_append, tl_append, tl_sp, List.append_assoc]
  exact j.symm
theorem lines_back : ∀ {L : List Str} {as : List Str} {is : List Int}, as.length = is.length → (L.map fun y => Txt.split y spT) = List.zipWith (fun a b => [a, b]) as (is.map numT) → L = rowsT as is
  | [], [], [], _, _ => rfl
  | [], a :: as, i :: is, _, h => by simp at h
  | y :: L, [], [], _, h => by simp at h
  | y :: L, a :: as, i :: is, l, h => by
    rw [List.map_cons, List.map_cons, List.zipWith_cons_cons] at h
    obtain ⟨h1, h2⟩ := List.cons.inj h
    show y :: L = rowT a i :: rowsT as is
    rw [line_back h1, lines_back (by simpa using l) h2]
  | _, [], _ :: _, l, _ => by simp at l
  | _, _ :: _, [], l, _ => by simp at l
theorem page_back {t : Str} {pl ss : List Int} (en : Txt.endswith t nlT = true) (l : ss.length = pl.length + 1) (h : ((Txt.split (Txt.removesuffix t nlT) nlT).map fun y => Txt.split y spT) = List.zipWith (fun a b => [a, b]) (bosses pl) (ss.map numT)) : t = showT pl ss := by
  have lb : (bosses pl).length = ss.length := by
    rw [l]
    show (pl.map numT).length + 1 = _
    rw [List.length_map]
  have e := lines_back lb h
  refine ext_tl ?_
  rw [showT_tl l, ← e, lines_tl, join_spl, rmsuf_tl, if_pos en, tl_nl, List.nil_append]
  rw [ends_tl, tl_nl, Bool.and_eq_true] at en
  have d := eq_of_beq en.2
  conv => lhs; rw [← List.take_append_drop ((tl t).length - [10].length) (tl t)]
  rw [d]
end PT

/-! how long the parts of a text are together -/
namespace PT
open PySem PySem.Spec PyProof.Rows L2 TL
theorem joinL_sum (s : Nat) : ∀ L : List (List Nat), L ≠ [] → (joinL [s] L).length + 1 = (L.map List.length).sum + L.length
  | [], h => absurd rfl h
  | [a], _ => by simp [joinL]
  | a :: b :: r, _ => by
    have ih := joinL_sum s (b :: r) (by simp)
    show (a ++ ([s] ++ joinL [s] (b :: r))).length + 1 = _
    rw [List.length_append, List.length_append, List.map_cons, List.sum_cons, List.length_cons (a := a)]
    have : [s].length = 1 := rfl
    omega
/-- the parts of a text split at one sign: their lengths and their number -/
theorem parts_sum {t : Str} {L : List Str} {s : Nat} (h : L.map tl = spl [s] 0 [] (tl t)) : (L.map (·.length)).sum + L.length = t.length + 1 := by
  have ne : L.map tl ≠ [] := by rw [h]; exact spl1_ne s _ _
  have j := joinL_sum s (L.map tl) ne
  rw [h, join_spl, ← h, List.map_map, List.length_map, List.nil_append] at j
  have e : L.map (·.length) = L.map (List.length ∘ tl) := List.map_congr_left fun y _ => len_tl y
  rw [e, len_tl]
  exact j.symm
theorem words_sum (t : Str) : ((Txt.split t spT).map (·.length)).sum + (Txt.split t spT).length = t.length + 1 := parts_sum (split_tl t)
theorem lines_sum (t : Str) : ((Txt.split t nlT).map (·.length)).sum + (Txt.split t nlT).length = t.length + 1 := parts_sum (lines_tl t)
theorem Asc.joined {sep : Str} {ys : List Str} (hs : Asc sep) (h : ∀ y ∈ ys, Asc y) : Asc (Txt.join sep ys) := fun c hc => by
  rw [join_eq, tl_join] at hc
  rcases mem_joinL hc with z | ⟨y, hy, z⟩
  · exact hs c z
  · obtain ⟨x, hx, rfl⟩ := List.mem_map.mp hy
    exact h x hx c z
theorem joined_le {sep : Str} (hs : sep.length = 1) (ys : List Str) : (Txt.join sep ys).length ≤ (ys.map (·.length)).sum + ys.length := by
  obtain ⟨c, ec⟩ : ∃ c, tl sep = [c] := by
    rw [len_tl] at hs
    cases q : tl sep with
    | nil => rw [q] at hs; cases hs
    | cons a b =>
      rw [q] at hs
      cases b with
      | nil => exact ⟨a, rfl⟩
      | cons d e => simp at hs
  rw [len_tl, join_eq, tl_join, ec]
  cases ys with
  | nil => exact Nat.zero_le _
  | cons y ys =>
    have j := joinL_sum c ((y :: ys).map tl) (by simp)
    rw [List.map_map, List.length_map] at j
    have e : (y :: ys).map (·.length) = (y :: ys).map (List.length ∘ tl) := List.map_congr_left fun z _ => len_tl z
    rw [e]
    omega
/-- what a list of texts weighs: all signs and one for each -/
def wt (ys : List Str) : Nat := (ys.map (·.length)).sum + ys.length
theorem wt_app (a b : List Str) : wt (a ++ b) = wt a + wt b := by
  unfold wt
  rw [List.map_append, List.sum_append, List.length_append]
  omega
theorem wt_split (a : List Str) (n : Nat) : wt (a.take n) + wt (a.drop n) = wt a := by rw [← wt_app, List.take_append_drop]
theorem wt_drop (a : List Str) (n : Nat) : wt (a.drop n) ≤ wt a := by have := wt_split a n; omega
theorem wt_take (a : List Str) (n : Nat) : wt (a.take n) ≤ wt a := by have := wt_split a n; omega
theorem wt_rev (a : List Str) : wt a.reverse = wt a := by
  unfold wt
  rw [List.map_reverse, List.sum_reverse, List.length_reverse]
theorem wt_len (a : List Str) : a.length ≤ wt a := Nat.le_add_left ..
end PT


/-! the values of law 53 -/
namespace PT
open PySem PySem.Spec PyProof.Rows L2 LamX NdefX TL
theorem kit_str {K : PySem.W.Frag} {C : Addr} (h : PySem.W.mroIn K C (.type "str") = some false) : PySem.W.kitOne K (.ref C) (.type "str") = some false := by
  have e : ((Value.ref C) == Value.type "str") = false := rfl
  have m : PySem.W.kitMeta "str" = true := by decide +kernel
  unfold PySem.W.kitOne
  rw [e, if_neg Bool.false_ne_true]
  show (if PySem.W.kitMeta "str" = true then PySem.W.subIn K (.ref C) (.type "str") else none) = some false
  rw [if_pos m]
  exact h
/-- a value that is no text, an own class's instance too -/
def NoTxt (K : PySem.W.Frag) (H : Hp) (v : V) : Prop := ∃ t : Value, TyOf K H v t ∧ PySem.W.kitOne K t (.type "str") = some false
def GdT (t : Str) : Prop := Asc t ∧ t.length ≤ 6000
/-- a value of the law -/
def Val53 (K : PySem.W.Frag) (H : Hp) (v : V) : Prop := NoTxt K H v ∨ ∃ t : Str, v = .str t ∧ GdT t
theorem gdTs {L : List String} (h : (L.all fun s => (s.toList.map Char.toNat).all (· < 128) && decide ((Str.ofString s).length ≤ 6000)) = true) : ∀ t ∈ L.map Str.ofString, GdT t := fun t ht => by
  obtain ⟨s, hs, rfl⟩ := List.mem_map.mp ht
  have := List.all_eq_true.mp h s hs
  rw [Bool.and_eq_true] at this
  exact ⟨Asc.lit this.1, of_decide_eq_true this.2⟩
theorem noTxt_same {K : PySem.W.Frag} {H H' : Hp} {v : V} (s : Same H H') (h : NoTxt K H v) : NoTxt K H' v := by
  obtain ⟨t, ty, k⟩ := h
  refine ⟨t, ?_, k⟩
  cases ty with
  | non => exact .non
  | bl x => exact .bl x
  | int i => exact .int i
  | str x => exact .str x
  | flt x => exact .flt x
  | lst e => exact .lst (s _ _ e)
  | frz e => exact .frz (s _ _ e)
  | tup e => exact .tup (s _ _ e)
  | dK e => exact .dK (s _ _ e)
  | dT e => exact .dT (s _ _ e)
  | ins e cl ha hn htk hm => exact .ins (s _ _ e) cl ha hn htk hm
end PT

set_option maxHeartbeats 4000000
/-! where an exception is handled: a walk over a list, over zip of two lists; a tuple taken apart -/
namespace PT
open PySem PySem.Spec PyProof.Rows L2 L2H HotX
section
variable {prog : Program} {w : World} {A : Around} {E : Value → Shared → Prop} {s : Shared}
/-- the end of a walk, said while x1 is handled -/
theorem stop_hot {α : Type} {x1 : Addr} {Q : α → Shared → Prop} (hot : HotAt A x1 s.heap)
    (hE : ∀ h' e, (∀ b o, s.heap.get? b = some o → h'.get? b = some o) → (∃ o, h'.get? e = some o ∧ o.cls = .type "StopIteration") → E (.ref e) { s with heap := h' }) :
    wpAny (model prog w) A ((newExc (.type "StopIteration") [] >>= fun e => raiseNew e) : Sem α) Q E s := by
  obtain ⟨hh, o1, vs1, h1, d1, c1⟩ := hot
  refine wpAny_bind ?_
  simp only [newExc, newTuple]
  refine wpAny_bind (wpAny_newObj_type (wpAny_bind (m := firstArgMember _ _) (wpAny_of_eq (a := Value.none) (by simp only [firstArgMember]; rfl) (wpAny_newObj_type ?_ (by size_fits)))) (by size_fits))
  have up := Heap.get?_push_of_some { cls := .type "tuple", data := .seq #[] } h1
  refine raiseNew_hot ⟨hh, o1, vs1, Heap.get?_push_of_some _ up, d1, c1⟩ (Nat.ne_of_lt (Heap.lt_size up)) (Heap.get?_push_size _ rfl) rfl (by simp; omega) ?_
  refine hE _ _ (fun b o e => ?_) ⟨_, Heap.get?_update_self _ (Heap.get?_push_size _ rfl) rfl, rfl⟩
  have e2 := Heap.get?_push_of_some { cls := .type "tuple", data := .seq #[] } e
  exact (Heap.get?_update_other _ _ (Nat.ne_of_gt (Heap.lt_size e2))).trans (Heap.get?_push_of_some _ e2)
/-- what stands apart from an object that is set stays handled -/
theorem hot_upd {x1 it : Addr} {f : Obj → Obj} (hot : HotAt A x1 s.heap) (ne : x1 ≠ it) : HotAt A x1 (s.heap.update it f) := by
  obtain ⟨hh, o1, vs1, h1, d1, c1⟩ := hot
  exact ⟨hh, o1, vs1, (Heap.get?_update_other _ _ (Ne.symm ne)).trans h1, d1, c1⟩
/-- a list's walk has come to its end -/
theorem next_list_end {x1 it l : Addr} {i : Nat} {items : Array Value} {Q : Option Value → Shared → Prop} (hot : HotAt A x1 s.heap) (ne : x1 ≠ it) (hit : s.heap.IsListIter it l i) (hl : s.heap.IsList l items) (hx : items[i]? = none)
    (hQ : ∀ h', (∀ b o, b ≠ it → s.heap.get? b = some o → h'.get? b = some o) → Q none { s with heap := h' }) : wpAny (model prog w) A (pyNext (.ref it)) Q E s := by
  obtain ⟨o, ho, hc, hd⟩ := id hit
  obtain ⟨ol, hol, _, nl, hdl⟩ := hl
  unfold pyNext
  refine wpAny_bind (wpAny_attempt (wpAny_callSpecial?_slot (name := Str.ofString "__next__") hit.typeIs slot_listiter_next (wpAny_call_entry slot_listiter_next hit.typeIs entry_listiter_next ?_ (args_listiter_next _))))
  show wpAny _ _ (field (.ref it) 0 >>= _) _ _ s
  refine wpAny_bind (wpAny_field ho hd (x := .ref l) rfl ?_)
  show wpAny _ _ (if (Value.ref l == .none) = true then _ else _) _ _ _
  rw [if_neg (show ¬ ((Value.ref l == Value.none) = true) by exact Bool.false_ne_true)]
  show wpAny _ _ (field (.ref it) 1 >>= _) _ _ s
  refine wpAny_bind (wpAny_field (x := .int i 0) ho hd rfl ?_)
  show wpAny _ _ (seqItems? _ >>= _) _ _ s
  refine wpAny_bind (wpAny_seqItems hol hdl ?_)
  simp only [Int.toNat_natCast, hx]
  refine wpAny_bind (wpAny_rule (wpAny_bind (wpAny_setField ho hd (by simp) (stop_hot (hot_upd hot ne) fun h' e k ⟨q, e1, e2⟩ => ?_))))
  refine wpAny_bind (wpAny_isInstance (T := "StopIteration") (b := true) ⟨q, e1, e2⟩ isSubtype_stop (wpAny_pure ?_))
  exact hQ h' fun b ob nb e' => k b ob ((Heap.get?_update_other _ _ (Ne.symm nb)).trans e')
/-- a tuple's walk has come to its end -/
theorem next_tup_end {x1 it t : Addr} {i : Nat} {items : Array Value} {Q : Option Value → Shared → Prop} (hot : HotAt A x1 s.heap) (ne : x1 ≠ it) (hit : IsTupIter s.heap it t i) (ht : IsTup s.heap t items) (hx : items[i]? = none)
    (hQ : ∀ h', (∀ b o, b ≠ it → s.heap.get? b = some o → h'.get? b = some o) → Q none { s with heap := h' }) : wpAny (model prog w) A (pyNext (.ref it)) Q E s := by
  obtain ⟨o, ho, hc, hd⟩ := id hit
  obtain ⟨ol, hol, _, nl, hdl⟩ := ht
  unfold pyNext
  refine wpAny_bind (wpAny_attempt (wpAny_callSpecial?_slot (name := Str.ofString "__next__") hit.typeIs slot_tupleiter_next (wpAny_call_entry slot_tupleiter_next hit.typeIs entry_tupleiter_next ?_ (args_tupleiter_next _))))
  show wpAny _ _ (field (.ref it) 0 >>= _) _ _ s
  refine wpAny_bind (wpAny_field ho hd (x := .ref t) rfl ?_)
  show wpAny _ _ (if (Value.ref t == .none) = true then _ else _) _ _ _
  rw [if_neg (show ¬ ((Value.ref t == Value.none) = true) by exact Bool.false_ne_true)]
  show wpAny _ _ (field (.ref it) 1 >>= _) _ _ s
  refine wpAny_bind (wpAny_field (x := .int i 0) ho hd rfl ?_)
  show wpAny _ _ (seqItems? _ >>= _) _ _ s
  refine wpAny_bind (wpAny_seqItems hol hdl ?_)
  simp only [Int.toNat_natCast, hx]
  refine wpAny_bind (wpAny_rule (wpAny_bind (wpAny_setField ho hd (by simp) (stop_hot (hot_upd hot ne) fun h' e k ⟨q, e1, e2⟩ => ?_))))
  refine wpAny_bind (wpAny_isInstance (T := "StopIteration") (b := true) ⟨q, e1, e2⟩ isSubtype_stop (wpAny_pure ?_))
  exact hQ h' fun b ob nb e' => k b ob ((Heap.get?_update_other _ _ (Ne.symm nb)).trans e')
/-- the items of a tuple, taken out while x1 is handled -/
theorem unpack_hot {x1 t : Addr} {items : Array Value} {targets : List (Bool × (Value → Sem Unit))} {Q : Unit → Shared → Prop} (hot : HotAt A x1 s.heap) (ht : IsTup s.heap t items) (hn : targets.length = items.size) (hstar : targets.findIdx? (·.1) = none)
    (h : ∀ h', (∀ b o, s.heap.get? b = some o → h'.get? b = some o) → wpAny (model prog w) A (assignInOrder (targets.map (·.2)) items.toList) Q E { s with heap := h' }) :
    wpAny (model prog w) A (unpack (.ref t) targets) Q E s := by
  unfold unpack
  rw [hn, hstar]
  have hlt : t ≠ s.heap.objs.size := by obtain ⟨o, ho, _⟩ := ht; exact Nat.ne_of_lt (Heap.lt_size ho)
  refine wpAny_bind (wpAny_holding ?_)
  unfold unpackItems
  refine wpAny_bind ?_
  unfold notIterableAtAll
  refine wpAny_bind (wpAny_specialOf ht.typeIs slot_tuple_iter.lookup (wpAny_pure ?_))
  simp only [Bool.false_eq_true, if_false]
  refine wpAny_bind (wpAny_holding (iter_tuple ht (wpAny_bind (wpAny_holding (draw_tuple hlt items.size 0 _ _ ⟨_, Heap.get?_push_size _ rfl, rfl, rfl⟩ (ht.push _) (by omega) fun g1 hit1 hs1 => ?_)))))
  rw [show List.take items.size (List.drop 0 items.toList) = items.toList by rw [List.drop_zero]; exact List.take_of_length_le (by simp), if_neg (by simp)]
  have up : ∀ b o, s.heap.get? b = some o → g1.get? b = some o := fun b o e => hs1.extBut b o (Nat.ne_of_lt (Heap.lt_size e)) (Heap.get?_push_of_some _ e)
  obtain ⟨hh, o1, vs1, e1, d1, c1⟩ := hot
  have x1s : x1 ≠ s.heap.objs.size := Nat.ne_of_lt (Heap.lt_size e1)
  refine wpAny_bind (wpAny_holding (next_tup_end (x1 := x1) ⟨hh, o1, vs1, up _ _ e1, d1, c1⟩ x1s hit1 ((ht.push _).extBut hs1.extBut hlt) (by simp) fun g2 he2 => ?_))
  simp only [Option.isSome_none, Bool.false_eq_true, if_false]
  exact wpAny_pure (h g2 fun b o e => he2 b o (Nat.ne_of_lt (Heap.lt_size e)) (up b o e))
end
section
variable {X : Cx} {pins : List (Addr × Obj)} {σ : L2.St} {H : Hp} {s : Shared}
/-- the handled exception stands apart from a walk's own objects -/
theorem hot_apart (hc : HotC X) (I : Inv X pins σ H s) : ∃ x1, HotAt X.A x1 s.heap ∧ ∀ b, FpOk X pins H b → x1 ≠ b := by
  obtain ⟨p, ⟨hh, v1, e1, c1⟩, hp⟩ := hc
  exact ⟨p.1, ⟨hh, p.2, v1, (I.pin p (List.mem_append_left _ hp)).1, e1, c1⟩, fun b f => f.2.2.2.2.2 p (List.mem_append_left _ hp)⟩
/-- a target that takes a tuple apart -/
theorem pg_tupH {es : List Expr} {k n : Nat} {t : TGs} {pos : Pos} (hc : HotC X) (h : PGs X es t) (hn : (assignEach es X.env).length = n := by rfl) (hst : (assignEach es X.env).findIdx? (·.1) = none := by rfl) : PG X (.Tuple es k pos) (gTup X.K n t) := by
  refine ⟨fun ps s σ H v u Q I r hw => ?_⟩
  obtain ⟨a, xs, rfl, hq, hl, hw⟩ := hw
  cases r
  obtain ⟨its, rv, ht, hz⟩ := I.tuple hq
  obtain ⟨x1, hot⟩ := hc.at I
  rw [assign_Tuple]
  refine wpAny_bind (wpAny_standAt (unpack_hot hot ht (by simp [hn, ← hl, rv.length]) hst fun h' hx => ?_))
  exact h.run ps _ σ H xs _ Q (I.kept (t' := s.toks) hx) (by simpa using rv) hw
end
/-- the list at a, walked where an exception is handled -/
theorem turn_listH {P : Program} {w : World} {K : PySem.W.Frag} {tg : Expr} (a it : Addr) : TurnH P w K tg (Itl K a) [it] it (fun i h => h.IsListIter it a i) where
  mem := (turn_list (P := P) (w := w) (K := K) (tg := tg) a it).mem
  obj := (turn_list (P := P) (w := w) (K := K) (tg := tg) a it).obj
  keep := (turn_list (P := P) (w := w) (K := K) (tg := tg) a it).keep
  self := (turn_list (P := P) (w := w) (K := K) (tg := tg) a it).self
  item := by
    rintro X rfl rfl rfl hc i ps s σ H E I hf st ⟨xs, x, hq, hx⟩
    obtain ⟨its, rv, p, _⟩ := I.list hq
    obtain ⟨u, hu, ru⟩ := rv.get hx
    obtain ⟨g0, g1, _, g3, g4, g5⟩ := hf it List.mem_cons_self
    refine wpAny_pyNext_list_item st p.isList (x := u) (by simpa using hu) fun h' st' keep => ?_
    obtain ⟨o, e, c, d⟩ := id st'
    refine ⟨u, rfl, go_of (s := { s with heap := h' }) e c d (by decide) ⟨x, H, I.turned (t' := s.toks) (fun b o nb e => (keep.2 b nb).trans e) g0 g1 g3 g4 g5, ru, ⟨rfl, fun ys hy => ?_⟩, st', fun b hb => (hf b hb).1⟩⟩
    rw [I.list_inj hy hq]
    exact hx
  done := by
    rintro X rfl rfl rfl hc i ps s σ H E I hf st ⟨xs, hq, hx⟩
    obtain ⟨its, rv, p, _⟩ := I.list hq
    obtain ⟨g0, g1, _, g3, g4, g5⟩ := hf it List.mem_cons_self
    have hl := rv.length
    obtain ⟨x1, hot, ap⟩ := hot_apart hc I
    exact next_list_end hot (ap it (hf it List.mem_cons_self)) st p.isList (by simp; omega) fun h' eb => ⟨rfl, I.turned (t' := s.toks) (fun b o nb e => eb b o nb e) g0 g1 g3 g4 g5⟩
theorem pi_listH {X : Cx} {tg l : Expr} {tl : TE} (hl : PE X l tl) : PIH X tg l (iList X.K tl) := by
  refine ⟨fun ps s σ H R I h => thn (hl.run ps s σ H _ I h) fun v s1 ⟨x, H1, I1, r1, a, e, ⟨xs, hq⟩, q⟩ => ?_⟩
  subst e
  cases r1
  obtain ⟨its, rv, p, _⟩ := I1.list hq
  refine wpAny_pyIter_list p.isList ⟨s1.heap.objs.size, [s1.heap.objs.size], _, _, H1, rfl, I1.kept (t' := s1.toks) fun b o e => Heap.get?_push_of_some _ e, turn_listH a _, ⟨_, Heap.get?_push_size _ rfl, rfl, rfl⟩, fun b hb => ?_, q⟩
  rw [List.mem_singleton.mp hb]
  exact I1.fpOk (Nat.le_refl _) (I1.hok.fresh (Nat.le_refl _))
/-- two lists' items in new pairs, till the first one's end -/
def ItzF (K : PySem.W.Frag) (a b : Addr) : It := ⟨(Itz K a b).go, (Itz K a b).yld, fun i H => ∃ xs : List V, SqL K H a xs ∧ xs.length ≤ i⟩
/-- zip(a, b), as it is read -/
def iZipF (K : PySem.W.Frag) (ta : TA) : TI := fun σ H R => ta σ H fun vs H1 => ∃ (a b : Addr) (xs ys : List V), vs = [.ref a, .ref b] ∧ SqL K H1 a xs ∧ SqL K H1 b ys ∧ R (ItzF K a b) H1
end PT


set_option maxHeartbeats 4000000
/-! the names of the classes of an error that is handled, each by its own name -/
namespace PT
open PySem PySem.Spec PyProof.Rows L2 L2H HotX
def clsNames : List String := ["NoPlant", "NoStation", "NoStock", "NoPattern", "NoDays", "NoBox", "NotOrdered", "NoWords", "NoNumber", "TooMany", "Full", "Nothing", "NoText", "NoRow", "odd"]
def clsSel (j k : Nat) : Bool := if k < 14 then k == j else false
def clsVs (j n : Nat) : List V := ((List.range n).filter (clsSel j)).map fun k => .str (Str.ofString (clsNames.getD k ""))
/-- the name that the law gives to the j-th class -/
def clsName (j : Nat) : Str := Str.ofString (clsNames.getD j "")
section
variable {P : Program} {w : World} {K : PySem.W.Frag} {mg : Str → Option Value} {base : Heap}
def spClasses (Cs : List Addr) : Addr → Value → Option Addr → Sp := fun a c d vs H Q _ => ∃ j, vs = [.ref a] ∧ c = .ref (Cs.getD j 0) ∧ d = none ∧ j < 14 ∧ j ≠ 9 ∧
  ∀ (H' : Hp) (l : Addr), Same H H' → H l = none → H' l = some (.lst [.str (clsName j)]) → Q (.ref l) H'
end
end PT


set_option maxHeartbeats 4000000
/-! the word of the one class of an error that is handled -/
namespace PT
open PySem PySem.Spec PyProof.Rows L2 L2H HotX
def kindNames : List String := ["plant", "station", "stock", "pattern", "days", "box", "ordered", "words", "number", "many", "full", "nothing", "text", "row"]
def kindName (j : Nat) : Str := Str.ofString (kindNames.getD j "")
/-- pairs of a word and whether it is j's -/
def Prs (j : Nat) (H G : Hp) (l : Addr) (ts : List Addr) : Prop := Same H G ∧ G l = some (.lst (ts.map V.ref)) ∧ ∀ (i : Nat) (t : Addr), ts[i]? = some t → G t = some (.tup [.str (kindName i), .bl (i == j)])
theorem prs_more {j : Nat} {H G : Hp} {l : Addr} {ts : List Addr} (h : Prs j H G l ts) {t0 t1 a b : Addr} {n : Nat} (ln : ts.length = n) (n0 : G t0 = none) (n1 : upd G t0 (.tup [.str (kindName n), .bl (n == j)]) t1 = none)
    (na : upd (upd G t0 (.tup [.str (kindName n), .bl (n == j)])) t1 (.tup [.str (kindName (n + 1)), .bl (n + 1 == j)]) a = none)
    (nb : upd (upd (upd G t0 (.tup [.str (kindName n), .bl (n == j)])) t1 (.tup [.str (kindName (n + 1)), .bl (n + 1 == j)])) a (.lst [.ref t0, .ref t1]) b = none) :
    Prs j H (upd (upd (upd (upd G t0 (.tup [.str (kindName n), .bl (n == j)])) t1 (.tup [.str (kindName (n + 1)), .bl (n + 1 == j)])) a (.lst [.ref t0, .ref t1])) b (.lst (ts.map V.ref ++ [.ref t0, .ref t1]))) b (ts ++ [t0, t1]) := by
  refine ⟨(((h.1.trans (same_new n0)).trans (same_new n1)).trans (same_new na)).trans (same_new nb), by rw [upd_same, List.map_append]; rfl, fun i t e => ?_⟩
  by_cases c : i < ts.length
  · rw [List.getElem?_append_left c] at e
    exact upd_at (upd_at (upd_at (upd_at (h.2.2 i t e) n0) n1) na) nb
  · rw [List.getElem?_append_right (by omega)] at e
    have hm : i - ts.length = 0 ∨ i - ts.length = 1 := by
      have := (List.getElem?_eq_some_iff.mp e).1
      simp at this
      omega
    rcases hm with m | m
    · rw [m] at e
      cases e
      rw [show i = n by omega]
      exact upd_at (upd_at (upd_at upd_same n1) na) nb
    · rw [m] at e
      cases e
      rw [show i = n + 1 by omega]
      exact upd_at (upd_at upd_same na) nb
/-- the words found among the first ones -/
def kinds (j n : Nat) : List V := ((List.range n).filter fun i => i == j).map fun i => .str (kindName i)
theorem kinds_next {j i : Nat} : kinds j (i + 1) = kinds j i ++ if (i == j) = true then [.str (kindName i)] else [] := by
  unfold kinds
  rw [List.range_succ, List.filter_append, List.map_append]
  congr 1
  simp only [List.filter_cons, List.filter_nil]
  split <;> rfl
theorem kinds_len {j i : Nat} : (kinds j i).length ≤ i := by
  unfold kinds
  rw [List.length_map]
  exact Nat.le_trans (List.length_filter_le _ _) (Nat.le_of_eq List.length_range)
theorem kinds_all : ∀ j < 14, kinds j 14 = [.str (kindName j)] := by decide +kernel
section
variable {P : Program} {w : World} {K : PySem.W.Frag} {mg : Str → Option Value} {base : Heap}
def spKind (Cs : List Addr) : Addr → Value → Option Addr → Sp := fun a c d vs H Q _ => ∃ j, vs = [.ref a] ∧ c = .ref (Cs.getD j 0) ∧ d = none ∧ j < 14 ∧
  ∀ (H' : Hp), Same H H' → Q (.str (kindName j)) H'
theorem ok_kind (T : Tx K mg) : FnE P w K mg base 1 T.f__law_kind T.d__law_kind ["caught"] (spKind T.errs) := by
  refine Fun.okE T.F__law_kind scLawKind (fun a c d vs H Q E h => ?_) (fun cdv A out s H vs Q E a oe c d hot zn room h => ?_)
  · obtain ⟨j, rfl, _⟩ := h
    rfl
  · obtain ⟨j, rfl, rfl, rfl, lj, qq⟩ := h
    have nd := scLawKind.nd
    have G : Errs K T.x_PlantError T.errs := T.E_all
    have len : T.errs.length = 14 := rfl
    have fl : ∃ vs, oe.data = .fields vs := let ⟨_, vs, e, _⟩ := hot; ⟨vs, e⟩
    refine ⟨_, (pss_cons (ps_set (i := 1) nd rfl (.inl rfl) (pe_lst (pa_cons (pe_tup (pa_cons pe_str (pa_cons (pe_callB (call_isH (j := j) (a := a) (oe := oe) G (by omega) ⟨List.mem_singleton_self _, zn, fl⟩) (by rfl) T.n_isinstance (by decide +kernel) (pa_cons (pv 0) (pa_cons (pe_glob (v := .ref T.x_NoPlant) rfl T.X_NoPlant.g rfl) pa_nil))) pa_nil))) (pa_cons (pe_tup (pa_cons pe_str (pa_cons (pe_callB (call_isH (j := j) (a := a) (oe := oe) G (by omega) ⟨List.mem_singleton_self _, zn, fl⟩) (by rfl) T.n_isinstance (by decide +kernel) (pa_cons (pv 0) (pa_cons (pe_glob (v := .ref T.x_NoStation) rfl T.X_NoStation.g rfl) pa_nil))) pa_nil))) pa_nil))))
(pss_cons (ps_set (i := 1) nd rfl (.inl rfl) (pe_op op_cat (pv 1) (pe_lst (pa_cons (pe_tup (pa_cons pe_str (pa_cons (pe_callB (call_isH (j := j) (a := a) (oe := oe) G (by omega) ⟨List.mem_singleton_self _, zn, fl⟩) (by rfl) T.n_isinstance (by decide +kernel) (pa_cons (pv 0) (pa_cons (pe_glob (v := .ref T.x_NoStock) rfl T.X_NoStock.g rfl) pa_nil))) pa_nil))) (pa_cons (pe_tup (pa_cons pe_str (pa_cons (pe_callB (call_isH (j := j) (a := a) (oe := oe) G (by omega) ⟨List.mem_singleton_self _, zn, fl⟩) (by rfl) T.n_isinstance (by decide +kernel) (pa_cons (pv 0) (pa_cons (pe_glob (v := .ref T.x_NoPattern) rfl T.X_NoPattern.g rfl) pa_nil))) pa_nil))) pa_nil)))))
(pss_cons (ps_set (i := 1) nd rfl (.inl rfl) (pe_op op_cat (pv 1) (pe_lst (pa_cons (pe_tup (pa_cons pe_str (pa_cons (pe_callB (call_isH (j := j) (a := a) (oe := oe) G (by omega) ⟨List.mem_singleton_self _, zn, fl⟩) (by rfl) T.n_isinstance (by decide +kernel) (pa_cons (pv 0) (pa_cons (pe_glob (v := .ref T.x_NoDays) rfl T.X_NoDays.g rfl) pa_nil))) pa_nil))) (pa_cons (pe_tup (pa_cons pe_str (pa_cons (pe_callB (call_isH (j := j) (a := a) (oe := oe) G (by omega) ⟨List.mem_singleton_self _, zn, fl⟩) (by rfl) T.n_isinstance (by decide +kernel) (pa_cons (pv 0) (pa_cons (pe_glob (v := .ref T.x_NoBox) rfl T.X_NoBox.g rfl) pa_nil))) pa_nil))) pa_nil)))))
(pss_cons (ps_set (i := 1) nd rfl (.inl rfl) (pe_op op_cat (pv 1) (pe_lst (pa_cons (pe_tup (pa_cons pe_str (pa_cons (pe_callB (call_isH (j := j) (a := a) (oe := oe) G (by omega) ⟨List.mem_singleton_self _, zn, fl⟩) (by rfl) T.n_isinstance (by decide +kernel) (pa_cons (pv 0) (pa_cons (pe_glob (v := .ref T.x_NotOrdered) rfl T.X_NotOrdered.g rfl) pa_nil))) pa_nil))) (pa_cons (pe_tup (pa_cons pe_str (pa_cons (pe_callB (call_isH (j := j) (a := a) (oe := oe) G (by omega) ⟨List.mem_singleton_self _, zn, fl⟩) (by rfl) T.n_isinstance (by decide +kernel) (pa_cons (pv 0) (pa_cons (pe_glob (v := .ref T.x_NoWords) rfl T.X_NoWords.g rfl) pa_nil))) pa_nil))) pa_nil)))))
(pss_cons (ps_set (i := 1) nd rfl (.inl rfl) (pe_op op_cat (pv 1) (pe_lst (pa_cons (pe_tup (pa_cons pe_str (pa_cons (pe_callB (call_isH (j := j) (a := a) (oe := oe) G (by omega) ⟨List.mem_singleton_self _, zn, fl⟩) (by rfl) T.n_isinstance (by decide +kernel) (pa_cons (pv 0) (pa_cons (pe_glob (v := .ref T.x_NoNumber) rfl T.X_NoNumber.g rfl) pa_nil))) pa_nil))) (pa_cons (pe_tup (pa_cons pe_str (pa_cons (pe_callB (call_isH (j := j) (a := a) (oe := oe) G (by omega) ⟨List.mem_singleton_self _, zn, fl⟩) (by rfl) T.n_isinstance (by decide +kernel) (pa_cons (pv 0) (pa_cons (pe_glob (v := .ref T.x_TooMany) rfl T.g_TooMany rfl) pa_nil))) pa_nil))) pa_nil)))))
(pss_cons (ps_set (i := 1) nd rfl (.inl rfl) (pe_op op_cat (pv 1) (pe_lst (pa_cons (pe_tup (pa_cons pe_str (pa_cons (pe_callB (call_isH (j := j) (a := a) (oe := oe) G (by omega) ⟨List.mem_singleton_self _, zn, fl⟩) (by rfl) T.n_isinstance (by decide +kernel) (pa_cons (pv 0) (pa_cons (pe_glob (v := .ref T.x_Full) rfl T.X_Full.g rfl) pa_nil))) pa_nil))) (pa_cons (pe_tup (pa_cons pe_str (pa_cons (pe_callB (call_isH (j := j) (a := a) (oe := oe) G (by omega) ⟨List.mem_singleton_self _, zn, fl⟩) (by rfl) T.n_isinstance (by decide +kernel) (pa_cons (pv 0) (pa_cons (pe_glob (v := .ref T.x_Nothing) rfl T.X_Nothing.g rfl) pa_nil))) pa_nil))) pa_nil)))))
(pss_cons (ps_set (i := 1) nd rfl (.inl rfl) (pe_op op_cat (pv 1) (pe_lst (pa_cons (pe_tup (pa_cons pe_str (pa_cons (pe_callB (call_isH (j := j) (a := a) (oe := oe) G (by omega) ⟨List.mem_singleton_self _, zn, fl⟩) (by rfl) T.n_isinstance (by decide +kernel) (pa_cons (pv 0) (pa_cons (pe_glob (v := .ref T.x_NoText) rfl T.X_NoText.g rfl) pa_nil))) pa_nil))) (pa_cons (pe_tup (pa_cons pe_str (pa_cons (pe_callB (call_isH (j := j) (a := a) (oe := oe) G (by omega) ⟨List.mem_singleton_self _, zn, fl⟩) (by rfl) T.n_isinstance (by decide +kernel) (pa_cons (pv 0) (pa_cons (pe_glob (v := .ref T.x_NoRow) rfl T.X_NoRow.g rfl) pa_nil))) pa_nil))) pa_nil)))))
(pss_cons (ps_setLcH (i := 2) (own := [("name", 3), ("so", 4)]) (g := gTup K 2 (gCons (gName 3) (gCons (gName 4) gNil))) (tt := tB (tVar 4)) (te := tVar 3) ⟨(a, oe), hot, List.mem_singleton_self _⟩ nd (by rfl) rfl (sw_true rfl rfl rfl (by decide +kernel)) (pi_listH (pv 1)) (blkOk_by (N := ["caught", "some", "found", "name", "so"]) (sc := defScope sLawKind) (by decide +kernel)) (fun _ _ _ _ _ => pg_tupH ⟨(a, oe), hot, List.mem_singleton_self _⟩ (pgs_cons (pg_name (i := 3) nd rfl (.inl rfl)) (pgs_cons (pg_name (i := 4) nd rfl (.inl rfl)) pgs_nil))) (fun _ _ _ _ _ => pts_one (pt_val (pv 4))) (fun _ _ _ _ _ => pv 3))
(pss_one (ps_ret (pe_ifExp (PW.pt (pw_and (pt_cmpR op_eq (pe_callB call_len_seq (by rfl) T.n_len PySem.boot_len (pa_cons (pv 2) pa_nil)) pe_int (nomark _)) (pw_and1 (pt_val (pe_callB (call_isH (j := j) (a := a) (oe := oe) G (by omega) ⟨List.mem_singleton_self _, zn, fl⟩) (by rfl) T.n_isinstance (by decide +kernel) (pa_cons (pv 0) (pa_cons (pe_bltn (v := .ty "ValueError") (by rfl) T.n_ValueError (by decide +kernel) rfl) pa_nil))))))) (pe_ix ix_list (pv 2) pe_int (fun _ _ => rfl)) pe_str))))))))))), ?_⟩
    have no : ∀ {Hx : Hp} dx, (none : Option Addr) = some dx → ∃ fs, Hx dx = some (.xd fs) := fun dx z => nomatch z
    have is : ∀ i, i < 14 → PySem.W.kitOne K (.ref (T.errs.getD j 0)) (.ref (T.errs.getD i 0)) = some (i == j) := fun i li => G.is (by omega) (by omega)
    refine ⟨_, rfl, no, _, _, _, rfl, .own _, is 0 (by decide), (by show 2 ≤ sizeLine; decide), fun t0 k0 => ⟨_, rfl, no, _, _, _, rfl, .own _, is 1 (by decide), (by show 2 ≤ sizeLine; decide), fun t1 k1 => ⟨(by show 2 ≤ sizeLine; decide), fun l0 h0 => ?_⟩⟩⟩
    refine heap_cut (P := fun G => Prs j H G l0 [t0, t1]) ⟨((same_new k0).trans (same_new k1)).trans (same_new h0), upd_same, fun i t e => ?_⟩ fun G0 p0 => ?_
    · match i, e with
      | 0, e => cases e; exact upd_at (upd_at upd_same k1) h0
      | 1, e => cases e; exact upd_at upd_same h0
    clear k0 k1 h0
    refine ⟨_, rfl, _, rfl, no, _, _, _, rfl, .own _, is 2 (by decide), (by show 2 ≤ sizeLine; decide), fun t2 k2 => ⟨_, rfl, no, _, _, _, rfl, .own _, is 3 (by decide), (by show 2 ≤ sizeLine; decide), fun t3 k3 => ⟨(by show 2 ≤ sizeLine; decide), fun m1 h1 => ⟨l0, m1, _, _, rfl, rfl, upd_at (upd_at (upd_at p0.2.1 k2) k3) h1, upd_same, (by show 4 ≤ sizeLine; decide), fun l1 g1 => ?_⟩⟩⟩⟩
    refine heap_cut (P := fun G => Prs j H G l1 [t0, t1, t2, t3]) (prs_more p0 (n := 2) rfl k2 k3 h1 g1) fun G1 p1 => ?_
    clear k2 k3 h1 g1 p0
    refine ⟨_, rfl, _, rfl, no, _, _, _, rfl, .own _, is 4 (by decide), (by show 2 ≤ sizeLine; decide), fun t4 k4 => ⟨_, rfl, no, _, _, _, rfl, .own _, is 5 (by decide), (by show 2 ≤ sizeLine; decide), fun t5 k5 => ⟨(by show 2 ≤ sizeLine; decide), fun m2 h2 => ⟨l1, m2, _, _, rfl, rfl, upd_at (upd_at (upd_at p1.2.1 k4) k5) h2, upd_same, (by show 6 ≤ sizeLine; decide), fun l2 g2 => ?_⟩⟩⟩⟩
    refine heap_cut (P := fun G => Prs j H G l2 [t0, t1, t2, t3, t4, t5]) (prs_more p1 (n := 4) rfl k4 k5 h2 g2) fun G2 p2 => ?_
    clear k4 k5 h2 g2 p1
    refine ⟨_, rfl, _, rfl, no, _, _, _, rfl, .own _, is 6 (by decide), (by show 2 ≤ sizeLine; decide), fun t6 k6 => ⟨_, rfl, no, _, _, _, rfl, .own _, is 7 (by decide), (by show 2 ≤ sizeLine; decide), fun t7 k7 => ⟨(by show 2 ≤ sizeLine; decide), fun m3 h3 => ⟨l2, m3, _, _, rfl, rfl, upd_at (upd_at (upd_at p2.2.1 k6) k7) h3, upd_same, (by show 8 ≤ sizeLine; decide), fun l3 g3 => ?_⟩⟩⟩⟩
    refine heap_cut (P := fun G => Prs j H G l3 [t0, t1, t2, t3, t4, t5, t6, t7]) (prs_more p2 (n := 6) rfl k6 k7 h3 g3) fun G3 p3 => ?_
    clear k6 k7 h3 g3 p2
    refine ⟨_, rfl, _, rfl, no, _, _, _, rfl, .own _, is 8 (by decide), (by show 2 ≤ sizeLine; decide), fun t8 k8 => ⟨_, rfl, no, _, _, _, rfl, .own _, is 9 (by decide), (by show 2 ≤ sizeLine; decide), fun t9 k9 => ⟨(by show 2 ≤ sizeLine; decide), fun m4 h4 => ⟨l3, m4, _, _, rfl, rfl, upd_at (upd_at (upd_at p3.2.1 k8) k9) h4, upd_same, (by show 10 ≤ sizeLine; decide), fun l4 g4 => ?_⟩⟩⟩⟩
    refine heap_cut (P := fun G => Prs j H G l4 [t0, t1, t2, t3, t4, t5, t6, t7, t8, t9]) (prs_more p3 (n := 8) rfl k8 k9 h4 g4) fun G4 p4 => ?_
    clear k8 k9 h4 g4 p3
    refine ⟨_, rfl, _, rfl, no, _, _, _, rfl, .own _, is 10 (by decide), (by show 2 ≤ sizeLine; decide), fun t10 k10 => ⟨_, rfl, no, _, _, _, rfl, .own _, is 11 (by decide), (by show 2 ≤ sizeLine; decide), fun t11 k11 => ⟨(by show 2 ≤ sizeLine; decide), fun m5 h5 => ⟨l4, m5, _, _, rfl, rfl, upd_at (upd_at (upd_at p4.2.1 k10) k11) h5, upd_same, (by show 12 ≤ sizeLine; decide), fun l5 g5 => ?_⟩⟩⟩⟩
    refine heap_cut (P := fun G => Prs j H G l5 [t0, t1, t2, t3, t4, t5, t6, t7, t8, t9, t10, t11]) (prs_more p4 (n := 10) rfl k10 k11 h5 g5) fun G5 p5 => ?_
    clear k10 k11 h5 g5 p4
    refine ⟨_, rfl, _, rfl, no, _, _, _, rfl, .own _, is 12 (by decide), (by show 2 ≤ sizeLine; decide), fun t12 k12 => ⟨_, rfl, no, _, _, _, rfl, .own _, is 13 (by decide), (by show 2 ≤ sizeLine; decide), fun t13 k13 => ⟨(by show 2 ≤ sizeLine; decide), fun m6 h6 => ⟨l5, m6, _, _, rfl, rfl, upd_at (upd_at (upd_at p5.2.1 k12) k13) h6, upd_same, (by show 14 ≤ sizeLine; decide), fun l6 g6 => ?_⟩⟩⟩⟩
    refine heap_cut (P := fun G => Prs j H G l6 [t0, t1, t2, t3, t4, t5, t6, t7, t8, t9, t10, t11, t12, t13]) (prs_more p5 (n := 12) rfl k12 k13 h6 g6) fun G6 p6 => ?_
    clear k12 k13 h6 g6 p5
    obtain ⟨s3, e7, ep⟩ := p6
    have hts : ([t0, t1, t2, t3, t4, t5, t6, t7, t8, t9, t10, t11, t12, t13] : List Addr).length = 14 := rfl
    revert s3 e7 ep hts
    generalize ([t0, t1, t2, t3, t4, t5, t6, t7, t8, t9, t10, t11, t12, t13] : List Addr) = ts
    intro s3 e7 ep hts
    refine ⟨.ref l6, rfl, l6, rfl, ⟨_, .inl (.inl e7)⟩, fun D nD => ?_⟩
    have nHD : H D = none := s3.free nD
    refine lc_list (K := K) (xs := ts.map V.ref) (fun i G => Same H G ∧ G l6 = some (.lst (ts.map V.ref)) ∧ (∀ (i : Nat) (t : Addr), ts[i]? = some t → G t = some (.tup [.str (kindName i), .bl (i == j)]) ∧ t ≠ D) ∧ G D = some (.lst (kinds j i)) ∧ l6 ≠ D)
      ⟨s3.trans (same_new nD), upd_at e7 nD, fun i t e => ⟨upd_at (ep i t e) nD, ne_of_none (ep i t e) nD⟩, upd_same, ne_of_none e7 nD⟩ (fun i G _ p1 => .inl (.inl p1.2.1)) (fun i x G ex p1 => ?_) (fun G7 p1 => ?_)
    · obtain ⟨sG, g7, gp, gD, d7⟩ := p1
      rw [List.getElem?_map] at ex
      obtain ⟨t, et, rfl⟩ : ∃ t, ts[i]? = some t ∧ V.ref t = x := by
        cases h : ts[i]? with
        | none => rw [h] at ex; cases ex
        | some t => rw [h] at ex; exact ⟨t, rfl, Option.some.inj ex⟩
      obtain ⟨gt, dt⟩ := gp i t et
      have hi : i < 14 := by
        rw [← hts]
        exact (List.getElem?_eq_some_iff.mp et).1
      refine ⟨t, _, rfl, .inl (.inl gt), rfl, _, _, rfl, _, _, rfl, rfl, rfl, _, rfl, _, rfl, ?_⟩
      have nx := kinds_next (j := j) (i := i)
      cases e : (i == j) with
      | true =>
        rw [e, if_pos rfl] at nx
        refine iteT ⟨_, rfl, _, gD, Nat.lt_of_le_of_lt kinds_len (small300 (by omega)), ?_, ?_, fun i' t' e' => ?_, ?_, d7⟩
        · intro b u hb
          rw [upd_ne (ne_of_none hb nHD)]
          exact sG b u hb
        · rw [upd_ne d7]; exact g7
        · obtain ⟨z, nz⟩ := gp i' t' e'
          exact ⟨by rw [upd_ne nz]; exact z, nz⟩
        · rw [upd_same, nx]
      | false =>
        rw [e, if_neg (by decide), List.append_nil] at nx
        exact iteF ⟨sG, g7, gp, by rw [nx]; exact gD, d7⟩
    · obtain ⟨sG, g7, gp, gD, d7⟩ := p1
      rw [List.length_map, hts, kinds_all j lj] at gD
      refine ⟨_, rfl, D, _, rfl, .inl (.inl (.inl gD)), ?_⟩
      refine ⟨rfl, _, rfl, iteT ⟨_, rfl, no, _, _, _, rfl, .ty _, G.value (by omega), true, rfl, iteT ?_⟩⟩
      refine ⟨.ref D, rfl, D, _, 0, _, rfl, rfl, .inl (.inl gD), atI_nat (j := 0) rfl, ?_⟩
      exact qq _ sG
end
end PT


set_option maxHeartbeats 4000000
/-! read_plant of any value, and the law's word for it (law 53) -/
namespace PT
open PySem PySem.Spec PyProof.Rows L2 L2H HotX LamX NdefX TL
theorem takesNo53 {X : Cx} : L2N.Takes X (fun _ _ _ _ => False) := fun _ _ x => by
  obtain ⟨_, _, _, _, _, _, _, _, _, _, _, _, _, _, _, _, z⟩ := x
  exact z.elim
section
variable {P : Program} {w : World} {K : PySem.W.Frag} {mg : Str → Option Value} {base : Heap}
def spReadY (C : Addr) : Sp := fun vs H _ E => ∃ v : V, vs = [v] ∧ (NoTxt K H v ∨ ∃ t : Str, v = .str t ∧ t.length ≤ 6000 ∧ Txt.endswith t nlT = false) ∧ E (.ref C) none H
theorem ok_readPlantY (T : Tx K mg) : FnOk P w K mg base (L2N.CX P w) 4 T.f_read_plant T.d_read_plant ["text"] (spReadY (K := K) T.x_NoText) := by
  refine Fun.okN T.F_read_plant scReadPlant (fun vs H Q E h => ?_) (fun cdv A outer s H vs Q E hr h => ?_)
  · obtain ⟨t, rfl, _⟩ := h
    rfl
  · obtain ⟨v, rfl, h, k⟩ := h
    have nd := scReadPlant.nd
    refine ⟨_, (pss_cons (ps_expr (pe_call (ok_checkTextX T (k := 0)) (hr.mono (by omega)) (by rfl) T.g_check_text T.F_check_text.kp T.b_check_text .nil (L2N.passes_call (L2N.takes_of rfl rfl rfl rfl) fun _ _ _ _ z => z) (pa_cons (pe_and (pe_callB call_isi (by rfl) T.n_isinstance (by decide +kernel) (pa_cons (pv 0) (pa_cons (pe_bltn (v := .ty "str") (by rfl) T.n_str (by decide +kernel) rfl) pa_nil))) (pe_one (pe_bm PySem.F.plainAttrs_str PySem.F.slot_str_endswith PySem.F.type_str_endswith mt_endswith (pv 0) (pa_cons pe_str pa_nil)))) pa_nil))) pss_never), ?_⟩
    rcases h with ⟨n, ty, hk⟩ | ⟨t, rfl, lt, en⟩
    · exact ⟨v, rfl, v, .ty "str", _, _, false, rfl, .ty _, .base ty, hk, false, rfl, iteF ⟨false, rfl, iteF k⟩⟩
    · refine ⟨.str t, rfl, .str t, .ty "str", _, _, true, rfl, .ty _, .base (.str _), kit_ty (by decide +kernel), _, rfl, iteT ?_⟩
      refine ⟨.str t, rfl, rfl, t, nlT, rfl, rfl, ?_⟩
      rw [en]
      exact ⟨false, rfl, iteF k⟩
/-- what read_plant refuses -/
def NoPage (K : PySem.W.Frag) (H : Hp) (v : V) : Prop := NoTxt K H v ∨ ∃ t : Str, v = .str t ∧ t.length ≤ 6000 ∧ (Txt.endswith t nlT = false ∨ (Txt.endswith t nlT = true ∧ NoRows (textRows t)))
def spTold53 : Sp := fun vs H Q _ => ∃ v : V, vs = [v] ∧ ((NoPage K H v ∧ ∀ H', Same H H' → Q (.str (Str.ofString "text")) H') ∨
  ∃ pl ss : List Int, v = .str (showT pl ss) ∧ Plant pl ∧ ss.length = pl.length + 1 ∧ ss.Nodup ∧ (∀ n ∈ ss, n.natAbs < 10 ^ 40) ∧
    ∀ (H' : Hp) (t p q : Addr), Same H H' → H t = none → H p = none → H q = none → H' t = some (.tup [.ref p, .ref q]) → H' p = some (.tup (pl.map V.int)) → H' q = some (.tup (ss.map V.int)) → Q (.ref t) H')
theorem ok_told53 (T : Tx K mg) : FnOk P w K mg base CX0 5 T.f__law_told T.d__law_told ["value"] (spTold53 (K := K)) := by
  refine T.F__law_told.ok scLawTold (fun vs H Q E h => ?_) (fun cdv A out s H vs Q E hr h => ?_)
  · obtain ⟨v, rfl, _⟩ := h
    rfl
  · obtain ⟨v, rfl, h⟩ := h
    have nd := scLawTold.nd
    refine ⟨_, pss_one (L2N.ps_try_as (i := 1) rfl rfl nd rfl rfl ⟨rfl, by decide, .inl T.X_PlantError.g⟩ takesNo53 (fun W pn xe tk _ =>
        pss_one (ps_ret (pe_callS (FnOk.or (FnOk.or (ok_readPlantX T) (ok_readPlantY T)) (FnOk.quiet (T.readPlant (k := 0)))) (hr.mono (by omega : 4 ≤ 4)) (by rfl) T.g_read_plant T.F_read_plant.kp T.b_read_plant (fun σ => L2N.passAt tk σ) (pa_cons (pv 0) pa_nil))))
        (fun a oe cls d pn hz hf => pss_one (ps_ret (pe_callE (ok_kind T) ⟨(hr.mono (by omega : 1 ≤ 4)).dp, (hr.mono (by omega : 1 ≤ 4)).un⟩ ⟨rfl, let ⟨vs, ev⟩ := hf; ⟨vs, ev, hz.2.2 vs ev⟩⟩ List.mem_cons_self hz (by rfl) T.g__law_kind T.F__law_kind.kp T.b__law_kind (pa_cons (pv 1) pa_nil))))), ?_⟩
    have kn : kindName 12 = Str.ofString "text" := by decide +kernel
    rcases h with ⟨np, k⟩ | ⟨pl, ss, rfl, hP, ls, nd', sm, k⟩
    · rcases np with ns | ⟨t, rfl, lt, en | ⟨en, nr⟩⟩
      · refine ⟨v, rfl, .inl (.inr ⟨v, rfl, .inl ns, ?_⟩)⟩
        exact ⟨true, by exact T.E_all.caught (j := 12) (by show 12 < 14; decide), fun _ a na => ⟨.ref a, rfl, 12, rfl, rfl, rfl, by decide, fun H3 s3 => by rw [kn]; exact k _ s3⟩, fun z => nomatch z⟩
      · refine ⟨.str t, rfl, .inl (.inr ⟨.str t, rfl, .inr ⟨t, rfl, lt, en⟩, ?_⟩)⟩
        exact ⟨true, by exact T.E_all.caught (j := 12) (by show 12 < 14; decide), fun _ a na => ⟨.ref a, rfl, 12, rfl, rfl, rfl, by decide, fun H3 s3 => by rw [kn]; exact k _ s3⟩, fun z => nomatch z⟩
      · have few : (textRows t).length ≤ 6100 := by
          unfold textRows
          rw [List.length_map]
          have h1 := lines_few (Txt.removesuffix t nlT)
          have h2 := rmsuf_len t nlT
          omega
        refine ⟨.str t, rfl, .inl (.inl ⟨t, rfl, lt, en, few, nr, fun H2 s2 => ?_⟩)⟩
        exact ⟨true, by exact T.E_all.caught (j := 12) (by show 12 < 14; decide), fun _ a na => ⟨.ref a, rfl, 12, rfl, rfl, rfl, by decide, fun H3 s3 => by rw [kn]; exact k _ (s2.trans s3)⟩, fun z => nomatch z⟩
    · exact ⟨.str (showT pl ss), rfl, .inr ⟨pl, ss, rfl, hP, ls, nd', sm, fun H2 t p q s2 nt np nq et ep eq => k H2 t p q s2 nt np nq et ep eq⟩⟩
end
end PT

set_option maxHeartbeats 4000000
/-! enumerate of a list from a start -/
namespace PT
open PySem PySem.Spec PyProof.Rows L2
/-! ### enumerate(xs, k): a list's items with their places, counted from k -/
def ItG (K : PySem.W.Frag) (a : Addr) (k : Int) : It :=
  ⟨fun i H => ∃ (xs : List V) (x : V), SqL K H a xs ∧ xs[i]? = some x,
   fun i H v H' => ∃ T x, v = .ref T ∧ H T = none ∧ H' = upd H T (.tup [.int (k + (i : Nat)), x]) ∧ ∀ xs, SqL K H a xs → xs[i]? = some x,
   fun i H => ∃ xs : List V, SqL K H a xs ∧ xs.length ≤ i⟩
def iG (K : PySem.W.Frag) (ta : TA) : TI := fun σ H R => ta σ H fun vs H1 => ∃ a k xs, vs = [.ref a, .int k] ∧ SqL K H1 a xs ∧ -(2 ^ 63) ≤ k ∧ k < 2 ^ 63 ∧ R (ItG K a k) H1
end PT

set_option maxHeartbeats 4000000
/-! set(xs), xs a list of ints; its length -/
namespace PT
open PySem PySem.Spec PyProof.Rows L2
/-- a set as it is made -/
abbrev obj0 (w : World) : Obj := { cls := .type "set", dict := none, data := .set #[] 0 (.fresh 0 0 (!w.params.followText "set-order")) }
section
variable {P : Program} {w : World} {A : Around} {E : Value → Shared → Prop} {s : Shared}
theorem set_ofList {l : Addr} {its : Array Value} (ns : List Int) {Q : Value → Shared → Prop} (noH : A.handled = none) (isl : s.heap.IsList l its) (are : IntsAre its.toList ns) (few : ns.length + 1 < scanBound)
    (fin : ∀ (g : Heap) (tk c : Nat), SetR w g s.heap.objs.size (fun j => decide (j ∈ ns)) c → c ≤ ns.length → (∀ b o, s.heap.get? b = some o → g.get? b = some o) → Q (.ref s.heap.objs.size) { s with heap := g, toks := tk }) :
    wpAny (model P w) A (call (.type "set") [.ref l]) Q E s := by
  have cnt : its.size = ns.length := (Array.length_toList (xs := its)).symm.trans (IntsAre.length are)
  obtain ⟨c0, tl0, mro0⟩ := F.called_set.mro
  have made0 := F.called_set.made
  have sub0 := F.called_set.sub
  have nt0 := F.called_set.notType
  have cc0 := F.called_set.canCreate
  have ct0 := F.typeCall_set_1 (.ref l)
  refine wpAny_call (codeAny_of_tree (?_ : wpAny _ _ (callAny (.type "set") _) _ _ _))
  refine wpAny_pure ⟨Code.quiet_builtin _ (by decide +kernel), codeAny_builtin F.entry_type_call (?_ : wpAny _ _ _ _ _ _)⟩
  rw [Around.under_plain (weight_type_call_type "set" [.ref l] []) rfl]
  repeat (any_goals (first | assumption | wp_step))

  refine codeAny_mono (code_set_led1 (.ref l) (E := E) (Q₁ := fun ob sh => ob = .ref s.heap.objs.size ∧ sh = { s with heap := s.heap.push (obj0 w) }) ⟨rfl, rfl⟩) fun rr sh hh => ?_
  cases rr with
  | error e => exact hh
  | ok fl =>
    cases fl with
    | ret ob =>
      obtain ⟨rfl, rfl⟩ := hh
      have at0 : (s.heap.push (obj0 w)).get? s.heap.objs.size = some (obj0 w) := Heap.get?_push_size _ rfl
      have ty0 : Shared.TypeIs { s with heap := s.heap.push (obj0 w) } (.ref s.heap.objs.size) "set" := ⟨_, at0, rfl⟩
      have lk0 := F.called_set.init.lookup
      have bd0 := F.called_set.init.bind (.ref s.heap.objs.size)
      repeat (any_goals (first | assumption | wp_step))

      refine codeAny_mono (codeAny_call_builtin (R := wants (fun r t => r = .none ∧ ∃ g tk c, t = { s with heap := g, toks := tk } ∧ SetR w g s.heap.objs.size (fun j => decide (j ∈ ns)) c ∧ c ≤ ns.length ∧ (∀ b o, s.heap.get? b = some o → g.get? b = some o)) E) F.called_set.init.plain F.entry_set_init (check_set_init_1 ty0 ?_)) fun r2 t2 hh2 => ?_
      · obtain ⟨⟨lc, ld, lx, ls⟩, lat, lcls, ln, lda⟩ := isl
        simp only at lcls lda
        subst lcls; subst lda
        have lat1 : (s.heap.push (obj0 w)).get? l = some { cls := .type "list", dict := ld, data := .seq its ln, slots := ls } := Heap.get?_push_of_some _ lat
        have sb1 := F.sub_list_set
        have sb2 := F.sub_list_frozenset
        have nd1 : (Value.type "list" == Value.type "dict") = false := by decide
        have isl1 : (s.heap.push (obj0 w)).IsList l its := ⟨_, lat1, rfl, ln, rfl⟩
        unfold Builtin.«set.__init__» noKeywords Builtin.Frozenset.updateFrom
        generalize kp : pyIter = KP
        wp_walk
        subst kp

        refine wpAny_pyIter_list isl1 (wpAny_bind (wpAny_runValue ?_))
        have ltl : l < s.heap.objs.size := Heap.lt_size lat
        have szp : (s.heap.push (obj0 w)).objs.size = s.heap.objs.size + 1 := Heap.size_push ..
        have neI : l ≠ (s.heap.push (obj0 w)).objs.size := by rw [szp]; exact Nat.ne_of_lt (Nat.lt_succ_of_lt ltl)
        have frS : s.heap.objs.size ∉ [(s.heap.push (obj0 w)).objs.size, l] := by
          rw [szp, List.mem_cons, List.mem_singleton]
          exact fun z => z.elim (Nat.ne_of_lt (Nat.lt_succ_self _)) (Nat.ne_of_gt ltl)
        have vals0 : ∀ (i : Nat) (v : Value), its[i]? = some v → ∃ k t, ns[i]? = some k ∧ v = .int k t := fun i v e => by
          have lt : i < ns.length := by rw [← cnt]; exact (Array.getElem?_eq_some_iff.mp e).1
          obtain ⟨t, z⟩ := PyProof.Rows.IntsAre.int_at are i v ((Array.getElem?_toList ..).trans e)
          refine ⟨ns[i], t, List.getElem?_eq_getElem lt, ?_⟩
          rw [z, List.getD_eq_getElem?_getD, List.getElem?_eq_getElem lt] <;> rfl
        refine set_update_ints ((Walks.list (by simp [noH]) _ l neI its).toS) s.heap.objs.size frS ns cnt few vals0 (its.size - 0) 0 _ (by omega) (Nat.zero_le _) ⟨⟨_, Heap.get?_push_size _ rfl, rfl, rfl⟩, (isl1.push _)⟩ ⟨0, Nat.le_refl 0, setR_new_at (Heap.get?_push_of_some _ at0)⟩ fun t3 c3 mv le3 R3 => ?_
        obtain ⟨g3, gn3, dr3, tk3, os3⟩ := t3
        cases (show gn3 = s.gens from mv.gens)
        cases (show dr3 = s.drawn from mv.drawn)
        cases (show os3 = s.os from mv.os)
        refine wpAny_pure (?_ : wpAny _ _ (ret Value.none) _ _ _)
        refine wpAny_pure ⟨rfl, g3, tk3, c3, rfl, R3, cnt ▸ le3, fun b o e => mv.heap b o ?_ (Heap.get?_push_of_some _ (Heap.get?_push_of_some _ e))⟩
        have ltb : b < s.heap.objs.size := Heap.lt_size e
        have z1 : b ≠ s.heap.objs.size := Nat.ne_of_lt ltb
        have z2 : b ≠ (s.heap.push (obj0 w)).objs.size := by rw [szp]; exact Nat.ne_of_lt (Nat.lt_succ_of_lt ltb)
        simp only [List.mem_cons, List.not_mem_nil, or_false, not_or]
        exact ⟨z1, z2⟩

      · cases r2 with
        | error e => exact hh2
        | ok f2 =>
          cases f2 with
          | ret r =>
            obtain ⟨rfl, g, tk, c, rfl, R, le, kp⟩ := hh2
            repeat (any_goals (first | assumption | wp_step))
            exact fin g tk c R le kp
          | _ => exact hh2.elim
    | _ => exact hh.elim
end
section
variable {X : Cx}
def rSetL (K : PySem.W.Frag) (w : World) : List V → Hp → VK → Prop := fun vs H Q => ∃ (l : Addr) (ns : List Int), vs = [.ref l] ∧ SqL K H l (ns.map V.int) ∧ ns.length ≤ 1000 ∧ ∀ (p : Addr) (c : Nat), H p = none → c ≤ ns.length → Q (.ref p) (upd H p (SetO w p (fun j => decide (j ∈ ns)) c))
/-- len(set(xs)) -/
def tLenSetL (K : PySem.W.Frag) (ta : TE) : TE := fun σ H Q => ta σ H fun x H1 => ∃ (l : Addr) (ns : List Int), x = .ref l ∧ SqL K H1 l (ns.map V.int) ∧ ns.length ≤ 1000 ∧ ∀ c : Nat, Q (.int (c : Nat)) H1
end
end PT

set_option maxHeartbeats 2000000
/-! len(set(xs)), xs a list of any ints: told by whether one is twice there -/
namespace PT
open PySem PySem.Spec PyProof.Rows L2
section
variable {X : Cx}
def tLenSetW (K : PySem.W.Frag) (ta : TE) : TE := fun σ H Q => ta σ H fun x H1 => ∃ (l : Addr) (ns : List Int), x = .ref l ∧ SqL K H1 l (ns.map V.int) ∧ ns.length ≤ 1000 ∧ ∀ c : Nat, c ≤ ns.length → (c = ns.length ↔ ns.Nodup) → Q (.int (c : Nat)) H1
theorem pe_lenSetW {a : Expr} {ta : TE} {p p2 q pos : Pos} (hg : Gl X "len") (hm : X.mg "len" = none) (hg2 : Gl X "set") (hm2 : X.mg "set" = none) (ha : PE X a ta) (hc : X.calm = true := by rfl)
    (na : starEach [a] X.env = (false, eval a X.env) :: starEach [] X.env := by rfl) : PE X (.Call (.Name "len" p) [.Call (.Name "set" p2) [a] [] q] [] pos) (tLenSetW X.K ta) := by
  refine ⟨fun pins st σ H Q I h => Call_ (ld_blt I hg hm boot_len (PyProof.Rows.callWith_builtin1 (PyProof.Rows.args_cons ?_ rfl) rfl rfl))⟩
  refine Call_ (ld_blt I hg2 hm2 boot_set (PyProof.Rows.callWith_type1 (PyProof.Rows.args_cons (thn (ha.run pins st σ H _ I h) fun v s1 ⟨x, H1, J, rv, told⟩ => PyProof.Rows.args_nil ?_) na) na rfl))
  obtain ⟨l, ns, rfl, hq, few, told⟩ := told
  cases rv
  obtain ⟨its, r, pl, hz⟩ := J.list hq
  have are : IntsAre its.toArray.toList ns := by simpa using ints_of_vals r
  refine set_ofList ns (J.ok.hd hc) pl.isList are (by unfold scanBound; omega) fun g tk c R le kept => PyProof.Rows.args_nil ?_
  have both := setR_any R
  obtain ⟨o, es, ep, t, ho, hx, hd, _, _, _, hb, hf, hn, _⟩ := R
  exact call_len_set ho hx hd hf (by omega) ⟨.int (c : Nat), H1, (J.kept kept).tok _, ⟨_, by rw [hn]⟩, told c le both⟩
end
end PT

/-! lists of texts in a list, as data -/
namespace PT
open PySem PySem.Spec PyProof.Rows L2 TL
def rowS (r : List Str) : PyData := .list (r.map PyData.str)
theorem lay_rowS : ∀ {rs : List (List Str)}, (∀ r ∈ rs, ∀ t ∈ r, PyData.strOk t = true) → PyData.canLayAll0 (rs.map rowS) = true
  | [], _ => by simp [PyData.canLayAll0]
  | r :: rs, h => by
    rw [List.map_cons]
    simp only [PyData.canLayAll0, rowS, PyData.canLay0, lay_texts (h r List.mem_cons_self), Bool.true_and]
    exact lay_rowS fun x hx => h x (List.mem_cons_of_mem _ hx)
theorem depth_rowS : ∀ rs : List (List Str), PyData.depthAll (rs.map rowS) ≤ 1
  | [] => by simp [PyData.depthAll]
  | r :: rs => by
    have ih := depth_rowS rs
    rw [List.map_cons]
    simp only [PyData.depthAll, rowS, PyData.depth, depth_texts]
    omega
theorem shaped_rowS {rs : List (List Str)} (h : ∀ r ∈ rs, ∀ t ∈ r, PyData.strOk t = true) : SeqAt.shaped (.list (rs.map rowS)) = true := by
  have d := depth_rowS rs
  unfold SeqAt.shaped
  simp only [PyData.canLay0, PyData.depth, lay_rowS h]
  simp
  omega
theorem eqv_none {ds : List PyData} : PyData.eqv (.list ds) (.list []) = ds.isEmpty := by
  cases ds with
  | nil => rfl
  | cons d ds => rfl
end PT


set_option maxHeartbeats 4000000
/-! the law's reading of a text (law 53) -/
namespace PT
open PySem PySem.Spec PyProof.Rows L2 LamX NdefX TL
theorem units53 {k : Nat} {A : Around} (r : Room k A) : A.units + 65 < cLine := by have := r.un; omega
def ov : Option Int → V
  | none => .non
  | some i => .int i
def od : Option Int → PyData
  | none => .none
  | some i => .int i
theorem dp_os {K : PySem.W.Frag} {H : Hp} : ∀ os : List (Option Int), DpAll K H (os.map ov) (os.map od)
  | [] => .nil
  | none :: os => .cons .non (dp_os os)
  | some i :: os => .cons (.int i) (dp_os os)
theorem lay_os : ∀ os : List (Option Int), PyData.canLayAll0 (os.map od) = true
  | [] => by simp [PyData.canLayAll0]
  | none :: os => by
    rw [List.map_cons]
    simp only [PyData.canLayAll0, od, PyData.canLay0, lay_os os, Bool.and_self]
  | some i :: os => by
    rw [List.map_cons]
    simp only [PyData.canLayAll0, od, PyData.canLay0, lay_os os, Bool.and_self]
theorem depth_os : ∀ os : List (Option Int), PyData.depthAll (os.map od) = 0
  | [] => by simp [PyData.depthAll]
  | none :: os => by
    rw [List.map_cons]
    simp only [PyData.depthAll, od, PyData.depth, depth_os os]
    rfl
  | some i :: os => by
    rw [List.map_cons]
    simp only [PyData.depthAll, od, PyData.depth, depth_os os]
    rfl
theorem shaped_os (os : List (Option Int)) : SeqAt.shaped (.list (os.map od)) = true := by
  unfold SeqAt.shaped
  simp only [PyData.canLay0, PyData.depth, lay_os, depth_os]
  decide
theorem any_os : ∀ os : List (Option Int), ((os.map od).any fun z => PyData.eqv z .none) = os.any Option.isNone
  | [] => rfl
  | none :: os => by
    rw [List.map_cons, List.any_cons, List.any_cons, any_os os]
    rfl
  | some i :: os => by
    rw [List.map_cons, List.any_cons, List.any_cons, any_os os]
    rfl
theorem some_os : ∀ {os : List (Option Int)}, os.any Option.isNone = false → ∃ l : List Int, os = l.map some
  | [], _ => ⟨[], rfl⟩
  | none :: os, h => by cases h
  | some i :: os, h => by
    obtain ⟨l, e⟩ := some_os (os := os) (by rw [List.any_cons] at h; exact h)
    exact ⟨i :: l, by rw [e]; rfl⟩
theorem rowsOf_get {pl ss : List Int} {j : Nat} {row : List Str} (e : (rowsOf pl ss)[j]? = some row) : ∃ a n, (bosses pl)[j]? = some a ∧ ss[j]? = some n ∧ row = [a, numT n] := by
  unfold rowsOf at e
  rw [List.getElem?_zipWith, List.getElem?_map] at e
  cases hb : (bosses pl)[j]? with
  | none => rw [hb] at e; simp at e
  | some a =>
    cases hs : ss[j]? with
    | none => rw [hb, hs] at e; simp at e
    | some n =>
      rw [hb, hs] at e
      exact ⟨a, n, rfl, rfl, (Option.some.inj e).symm⟩
theorem rowsOf_len {pl ss : List Int} (h : ss.length = pl.length + 1) : (rowsOf pl ss).length = pl.length + 1 := by
  unfold rowsOf
  rw [List.length_zipWith, List.length_map, h]
  show min ((pl.map numT).length + 1) (pl.length + 1) = _
  rw [List.length_map, Nat.min_self]
theorem rows_at {pl ss : List Int} (l : ss.length = pl.length + 1) {j : Nat} (hj : j < ss.length) : ∃ row, (rowsOf pl ss)[j]? = some row := by
  have := rowsOf_len l
  exact ⟨_, List.getElem?_eq_getElem (by omega)⟩
theorem rowsOf_injS {pl ss pl2 ss2 : List Int} (h : rowsOf pl ss = rowsOf pl2 ss2) (l : ss.length = pl.length + 1) (l2 : ss2.length = pl2.length + 1) (b : ∀ n ∈ ss, n.natAbs < 10 ^ 40) (b2 : ∀ n ∈ ss2, n.natAbs < 10 ^ 40) : ss = ss2 := by
  have ll : ss.length = ss2.length := by
    have := congrArg List.length h
    rw [rowsOf_len l, rowsOf_len l2] at this
    omega
  refine List.ext_getElem ll fun j h1 h2 => ?_
  obtain ⟨row, e1⟩ := rows_at l h1
  obtain ⟨a, n, _, q1, r1⟩ := rowsOf_get e1
  rw [h] at e1
  obtain ⟨a2, n2, _, q2, r2⟩ := rowsOf_get e1
  rw [List.getElem?_eq_getElem h1] at q1
  rw [List.getElem?_eq_getElem h2] at q2
  cases q1
  cases q2
  rw [r1] at r2
  exact numT_inj (b _ (List.getElem_mem h1)) (b2 _ (List.getElem_mem h2)) (List.cons.inj (List.cons.inj r2).2).1
theorem rowsOf_injP {pl ss pl2 ss2 : List Int} (h : rowsOf pl ss = rowsOf pl2 ss2) (l : ss.length = pl.length + 1) (l2 : ss2.length = pl2.length + 1) (b : ∀ n ∈ pl, n.natAbs < 10 ^ 40) (b2 : ∀ n ∈ pl2, n.natAbs < 10 ^ 40) : pl = pl2 := by
  have ll : pl.length = pl2.length := by
    have := congrArg List.length h
    rw [rowsOf_len l, rowsOf_len l2] at this
    omega
  refine List.ext_getElem ll fun j h1 h2 => ?_
  obtain ⟨row, e1⟩ := rows_at (j := j + 1) l (by omega)
  obtain ⟨a, n, q1, _, r1⟩ := rowsOf_get e1
  rw [h] at e1
  obtain ⟨a2, n2, q2, _, r2⟩ := rowsOf_get e1
  have q1 : (pl.map numT)[j]? = some a := q1
  have q2 : (pl2.map numT)[j]? = some a2 := q2
  rw [List.getElem?_map, List.getElem?_eq_getElem h1] at q1
  rw [List.getElem?_map, List.getElem?_eq_getElem h2] at q2
  cases q1
  cases q2
  rw [r1] at r2
  exact numT_inj (b _ (List.getElem_mem h1)) (b2 _ (List.getElem_mem h2)) (List.cons.inj r2).1
theorem nr_dup {R : List (List Str)} {pl ss : List Int} (e : R = rowsOf pl ss) (l : ss.length = pl.length + 1) (b : ∀ n ∈ ss, n.natAbs < 10 ^ 40) (h : ¬ ss.Nodup) : NoRows R := fun pl2 ss2 e2 l2 b2 _ => by
  rw [← rowsOf_injS (e.symm.trans e2) l l2 b b2]
  exact h
theorem nr_late {R : List (List Str)} {pl ss : List Int} (e : R = rowsOf pl ss) (l : ss.length = pl.length + 1) (b : ∀ n ∈ pl, n.natAbs < 10 ^ 40) (h : ¬ Plant pl) : NoRows R := fun pl2 ss2 e2 l2 _ P => by
  have := rowsOf_injP (e.symm.trans e2) l l2 b fun n hn => plant_sm P n hn
  rw [this] at h
  exact absurd P h
theorem nr_len {R : List (List Str)} (h : 40 < R.length) : NoRows R := fun pl ss e l _ P => by
  have := rowsOf_len l
  have := P.len
  rw [e] at h
  omega
theorem nr_two {R : List (List Str)} {row : List Str} (hr : row ∈ R) (h : row.length ≠ 2) : NoRows R := fun pl ss e l _ P => by
  obtain ⟨j, hj, ej⟩ := List.getElem_of_mem hr
  have : (rowsOf pl ss)[j]? = some row := by rw [← e, List.getElem?_eq_getElem hj, ej]
  obtain ⟨a, n, _, _, rfl⟩ := rowsOf_get this
  exact absurd rfl h
theorem nr_shop {R : List (List Str)} {a b : Str} (hr : R[0]? = some [a, b]) (h : a ≠ Str.ofString "shop") : NoRows R := fun pl ss e l _ P => by
  rw [e] at hr
  obtain ⟨a2, n, e1, _, e2⟩ := rowsOf_get hr
  have e1 : some (Str.ofString "shop") = some a2 := e1
  have := (List.cons.inj e2).1
  exact absurd (this.trans (Option.some.inj e1).symm) h
theorem nr_num {R : List (List Str)} {j : Nat} {a b : Str} (hr : R[j + 1]? = some [a, b]) (h : decT a ((2 : Nat) : Int) = false) : NoRows R := fun pl ss e l _ P => by
  rw [e] at hr
  obtain ⟨a2, n, e1, _, e2⟩ := rowsOf_get hr
  have e1 : (pl.map numT)[j]? = some a2 := e1
  rw [List.getElem?_map] at e1
  cases hp : pl[j]? with
  | none => rw [hp] at e1; cases e1
  | some x =>
    rw [hp] at e1
    have ea : a = numT x := (List.cons.inj e2).1.trans (Option.some.inj e1).symm
    obtain ⟨p0, p1⟩ := P.ok j x hp
    have hj := (List.getElem?_eq_some_iff.mp hp).1
    have := P.len
    have t : decT (numT x) ((2 : Nat) : Int) = true := by
      refine (decT_iff _ 2).mpr ?_
      rw [numT_pos p0]
      exact numL_dec (by decide) (by omega)
    rw [← ea, h] at t
    cases t
theorem nr_box {R : List (List Str)} {j : Nat} {a b : Str} (hr : R[j]? = some [a, b]) (h : ¬ numB b) : NoRows R := fun pl ss e l bd P => by
  rw [e] at hr
  obtain ⟨a2, n, _, e1, e2⟩ := rowsOf_get hr
  have eb : b = numT n := (List.cons.inj (List.cons.inj e2).2).1
  rw [eb] at h
  exact absurd (num_ok (bd n (List.mem_of_getElem? e1))).1 h
theorem sIx_m1 (n d : Nat) : HT.sIx n d (some (-1)) = n - 1 := by
  show (if (-1 : Int) < 0 then ((-1 : Int) + (n : Int)).toNat else min (-1 : Int).toNat n) = n - 1
  rw [if_pos (by decide)]
  omega
theorem tl_front (t : Str) : tl (cutS t none (some (-1))) = (tl t).take (t.length - 1) := by
  unfold cutS
  rw [tl_mk, show HT.sIx t.length 0 none = 0 from rfl, sIx_m1, List.drop_zero, Nat.sub_zero]
theorem tl_back (t : Str) : tl (cutS t (some (-1)) none) = (tl t).drop (t.length - 1) := by
  unfold cutS
  rw [tl_mk, sIx_m1, show HT.sIx t.length t.length none = t.length from rfl]
  refine List.take_of_length_le ?_
  rw [List.length_drop]
  have : t.cps.toList.length = t.length := (len_tl t).symm
  omega
theorem cut_last (t : Str) : decide (V.str (cutS t (some (-1)) none) = V.str (Str.ofString "\n")) = Txt.endswith t nlT := by
  rw [ends_tl, tl_nl]
  have e := tl_back t
  have l := len_tl t
  have n1 : tl (Str.ofString "\n") = [10] := tl_nl
  by_cases h : (tl t).drop (t.length - 1) = [10]
  · rw [decide_eq_true (congrArg V.str (ext_tl (e.trans (h.trans n1.symm))))]
    have l1 : 1 ≤ (tl t).length := by
      cases z : tl t with
      | nil => rw [z] at h; simp at h
      | cons a b => simp
    rw [decide_eq_true (show [10].length ≤ (tl t).length from l1), show (tl t).length - [10].length = t.length - 1 by rw [l]; rfl, h]
    rfl
  · rw [decide_eq_false fun z => h (e.symm.trans ((congrArg tl (V.str.inj z)).trans n1)), show (tl t).length - [10].length = t.length - 1 by rw [l]; rfl, beq_false_of_ne h, Bool.and_false]
theorem cut_front (t : Str) (h : Txt.endswith t nlT = true) : cutS t none (some (-1)) = Txt.removesuffix t nlT := ext_tl (by
  rw [tl_front, rmsuf_tl, if_pos h, tl_nl, len_tl]
  rfl)
section
variable {P : Program} {w : World} {K : PySem.W.Frag} {mg : Str → Option Value} {base : Heap}
def spRd53 : Sp := fun vs H Q _ => ∃ v : V, vs = [v] ∧ ((NoTxt K H v ∧ Q .non H) ∨ ∃ t : Str, v = .str t ∧ t.length ≤ 6000 ∧ Asc t ∧
  ((Txt.endswith t nlT = false ∧ Q .non H) ∨ (Txt.endswith t nlT = true ∧ (NoRows (textRows t) → ∀ H', Same H H' → Q .non H') ∧
    ∀ pl ss : List Int, textRows t = rowsOf pl ss → ss.length = pl.length + 1 → Plant pl → ss.Nodup → (∀ n ∈ ss, n.natAbs < 10 ^ 40) →
      ∀ (H' : Hp) (r p q : Addr), Same H H' → H r = none → H' r = some (.tup [.ref p, .ref q]) → H' p = some (.tup (pl.map V.int)) → H' q = some (.tup (ss.map V.int)) → Q (.ref r) H')))
theorem ok_rd53 (T : Tx K mg) : FnOk P w K mg base CX0 3 T.f__law_read T.d__law_read ["text"] (spRd53 (K := K)) := by
  refine T.F__law_read.ok scLawRead (fun vs H Q E h => ?_) (fun cdv A outer s0 H vs Q E hr h => ?_)
  · obtain ⟨v, rfl, _⟩ := h
    rfl
  · obtain ⟨v, rfl, h⟩ := h
    have nd := scLawRead.nd
    refine ⟨_, (pss_cons (ps_if (PW.pt (pw_or (pt_not (pt_val (pe_callB call_isi (by rfl) T.n_isinstance (by decide +kernel) (pa_cons (pv 0) (pa_cons (pe_bltn (v := .ty "str") (by rfl) T.n_str (by decide +kernel) rfl) pa_nil))))) (pw_or1 (pt_cmpR op_ne (pe_slice sl_str (pv 0) (po_some (pe_un un_neg pe_int)) po_none) pe_str (nomark _)))))
(pss_one (ps_ret pe_non)) pss_nil)
(pss_cons (ps_setLc (i := 1) (own := [("line", 5)]) (g := gName 5) (tt := tYes) (te := (tBM K "str" rSplit (tVar 5) (tCons (tC (.str " ")) tNil))) (by rfl) nd rfl rfl (sw_true rfl rfl rfl (by decide +kernel)) (pi_list (pe_bm PySem.F.plainAttrs_str PySem.F.slot_str_split PySem.F.type_str_split mt_split (pe_slice sl_str (pv 0) po_none (po_some (pe_un un_neg pe_int))) (pa_cons pe_str pa_nil)))
(blkOk_by (N := ["text", "rows", "bosses", "boxes", "late", "line", "row", "at", "boss"]) (sc := defScope sLawRead) (by decide +kernel)) (fun _ _ _ _ _ => (pg_name (i := 5) nd rfl (.inl rfl))) (fun _ _ _ _ _ => pts_nil) (fun _ _ _ _ _ => (pe_bm PySem.F.plainAttrs_str PySem.F.slot_str_split PySem.F.type_str_split mt_split (pv 5) (pa_cons pe_str pa_nil))))
(pss_cons (ps_if (PW.pt (pw_or (pt_cmpR op_gt (pe_callB call_len_seq (by rfl) T.n_len PySem.boot_len (pa_cons (pv 1) pa_nil)) pe_int (nomark _)) (pw_or (pt_cmpR (op_neD hr.units) (pe_lc (own := [("row", 6)]) (g := gName 6) (tt := (tTest (tOp rNe (tCB (fun xs H Q => ∃ p ys, xs = [.ref p] ∧ (SqL K H p ys ∨ SqT K H p ys) ∧ Q (.int (ys.length : Int)) H) (tCons (tVar 6) tNil)) (tC (.int 2))))) (te := (tVar 6)) rfl nd (pi_list (pv 1))
(blkOk_by (N := ["text", "rows", "bosses", "boxes", "late", "line", "row", "at", "boss"]) (sc := defScope sLawRead) (by decide +kernel)) (fun _ _ _ _ _ => (pg_name (i := 6) nd rfl (.inl rfl))) (fun _ _ _ _ _ => (pts_one (pt_cmpR op_ne (pe_callB call_len_seq (by rfl) T.n_len PySem.boot_len (pa_cons (pv 6) pa_nil)) pe_int (nomark _)))) (fun _ _ _ _ _ => (pv 6))) (pe_lst pa_nil) (nomark _)) (pw_or1 (pt_cmpR op_ne (pe_ix ix_list (pe_ix ix_list (pv 1) pe_int (fun _ _ => rfl)) pe_int (fun _ _ => rfl)) pe_str (nomark _))))))
(pss_one (ps_ret pe_non)) pss_nil)
(pss_cons (ps_setLc (i := 2) (own := [("row", 6)]) (g := gName 6) (tt := tYes) (te := (tCall spNum53 [] E0 (tCons (tOp (rIxL K) (tVar 6) (tC (.int 0))) (tCons (tC (.int 2)) tNil)))) (by rfl) nd rfl rfl (sw_true rfl rfl rfl (by decide +kernel)) (pi_list (pe_slice sl_list (pv 1) (po_some pe_int) po_none))
(blkOk_by (N := ["text", "rows", "bosses", "boxes", "late", "line", "row", "at", "boss"]) (sc := defScope sLawRead) (by decide +kernel)) (fun _ _ _ _ _ => (pg_name (i := 6) nd rfl (.inl rfl))) (fun _ _ _ _ _ => pts_nil) (fun _ _ _ _ _ => (pe_call (ok_num53 T) (hr.mono (by omega)) (by rfl) T.g__law_number T.F__law_number.kp T.b__law_number .nil pass0 (pa_cons (pe_ix ix_list (pv 6) pe_int (fun _ _ => rfl)) (pa_cons pe_int pa_nil)))))
(pss_cons (ps_setLc (i := 3) (own := [("row", 6)]) (g := gName 6) (tt := tYes) (te := (tCall spBox53 [] E0 (tCons (tOp (rIxL K) (tVar 6) (tC (.int 1))) tNil))) (by rfl) nd rfl rfl (sw_true rfl rfl rfl (by decide +kernel)) (pi_list (pv 1))
(blkOk_by (N := ["text", "rows", "bosses", "boxes", "late", "line", "row", "at", "boss"]) (sc := defScope sLawRead) (by decide +kernel)) (fun _ _ _ _ _ => (pg_name (i := 6) nd rfl (.inl rfl))) (fun _ _ _ _ _ => pts_nil) (fun _ _ _ _ _ => (pe_call (ok_box53 T) (hr.mono (by omega)) (by rfl) T.g__law_box T.F__law_box.kp T.b__law_box .nil pass0 (pa_cons (pe_ix ix_list (pv 6) pe_int (fun _ _ => rfl)) pa_nil))))
(pss_cons (ps_if (PW.pt (pw_or (pt_cmpR (op_inD (units53 hr)) pe_non (pv 2) (by rfl)) (pw_or (pt_cmpR (op_inD (units53 hr)) pe_non (pv 3) (by rfl)) (pw_or1 (pt_cmpR op_lt (pe_lenSetW (by rfl) T.n_len (by rfl) T.n_set (pv 3)) (pe_callB call_len_seq (by rfl) T.n_len PySem.boot_len (pa_cons (pv 3) pa_nil)) (nomark _))))))
(pss_one (ps_ret pe_non)) pss_nil)
(pss_cons (ps_setLc (i := 4) (own := [("at", 7), ("boss", 8)]) (g := gTup K 2 (gCons (gName 7) (gCons (gName 8) gNil))) (tt := (tTest (tOp (rI0 fun i j => .bl (decide (j < i))) (tVar 8) (tVar 7)))) (te := (tVar 7)) (by rfl) nd rfl rfl (sw_true rfl rfl rfl (by decide +kernel)) (pi_enum (by rfl) T.n_enumerate (pa_cons (pv 2) pa_nil))
(blkOk_by (N := ["text", "rows", "bosses", "boxes", "late", "line", "row", "at", "boss"]) (sc := defScope sLawRead) (by decide +kernel)) (fun _ _ _ _ _ => (pg_tup (by rfl) (pgs_cons (pg_name (i := 7) nd rfl (.inl rfl)) (pgs_cons (pg_name (i := 8) nd rfl (.inl rfl)) pgs_nil)))) (fun _ _ _ _ _ => (pts_one (pt_cmpR op_gt (pv 8) (pv 7) (nomark _)))) (fun _ _ _ _ _ => (pv 7)))
(pss_one (ps_ret (pe_ifExp (pt_cmpR (op_eqD hr.units) (pv 4) (pe_lst pa_nil) (nomark _)) (pe_tup (pa_cons (pe_callTy call_tuple_of (by rfl) T.n_tuple (by decide +kernel) (pa_cons (pv 2) pa_nil)) (pa_cons (pe_callTy call_tuple_of (by rfl) T.n_tuple (by decide +kernel) (pa_cons (pv 3) pa_nil)) pa_nil))) pe_non)))))))))), ?_⟩
    have big : 20000 ≤ sizeLine := (by decide)
    rcases h with ⟨⟨n, ty, hk⟩, q⟩ | ⟨t, rfl, lt, as, h⟩
    · exact ⟨v, rfl, v, .ty "str", _, _, false, rfl, .ty _, .base ty, hk, false, rfl, iteT (iteT q)⟩
    refine ⟨.str t, rfl, .str _, .ty "str", _, _, true, rfl, .ty _, .base (.str _), kit_ty (by decide +kernel), true, rfl, iteF ?_⟩
    have cutE : decide (V.str (cutS t (some (-1)) none) = V.str (Str.ofString "\n")) = Txt.endswith t nlT := cut_last t
    have cutF : Txt.endswith t nlT = true → cutS t none (some (-1)) = Txt.removesuffix t nlT := cut_front t
    refine ⟨.str t, rfl, 1, rfl, -1, rfl, t, rfl, by omega, rfl, _, rfl, ?_⟩
    rw [cutE]
    rcases h with ⟨en, q⟩ | ⟨en, k1, k2⟩
    · rw [en]
      exact iteT q
    rw [en]
    refine iteF ?_
    have cutF := cutF en
    have lu := rmsuf_len t nlT
    have lc : (cutS t none (some (-1))).length ≤ t.length := cutS_length ..
    refine ⟨.str t, rfl, 1, rfl, -1, rfl, t, rfl, by omega, rfl, cutS t none (some (-1)), nlT, rfl, rfl, by decide +kernel, by omega, fun l nl => ?_⟩
    obtain ⟨L, eL⟩ : ∃ L, L = Txt.split (Txt.removesuffix t nlT) nlT := ⟨_, rfl⟩
    have ll : ∀ y ∈ L, y.length ≤ 6000 := fun y hy => by
      rw [eL] at hy
      have := lines_len hy
      omega
    have neL : L ≠ [] := by rw [eL]; exact lines_ne _
    rw [cutF, ← eL]
    have few : L.length ≤ 6100 := by
      rw [eL]
      have := lines_few (Txt.removesuffix t nlT)
      omega
    obtain ⟨R, eR⟩ : ∃ R, R = L.map fun l => Txt.split l spT := ⟨_, rfl⟩
    have eTR : textRows t = R := by unfold textRows; rw [← eL, eR]
    rw [eTR] at k1 k2
    have lR : R.length = L.length := by rw [eR, List.length_map]
    have smR : ∀ row ∈ R, row ≠ [] ∧ ∀ y ∈ row, y.length ≤ 6000 := fun row hr => by
      rw [eR] at hr
      obtain ⟨y, hy, rfl⟩ := List.mem_map.mp hr
      exact ⟨split_ne y, fun z hz => Nat.le_trans (split_len hz) (ll y hy)⟩
    have s1 := same_new (o := .lst (L.map V.str)) nl
    have el : (upd H l (.lst (L.map V.str))) l = some (.lst (L.map V.str)) := upd_same
    generalize upd H l _ = H1 at s1 el ⊢
    refine ⟨l, rfl, ⟨_, .inl (.inl el)⟩, fun D nD => ?_⟩
    refine lc_list (xs := L.map V.str) (fun i G => Same H1 G ∧ ∃ rs : List Addr, G D = some (.lst (rs.map V.ref)) ∧ rs.length = i ∧ (∀ r ∈ rs, r ≠ D) ∧ ∀ (k : Nat) (r : Addr) (row : List Str), rs[k]? = some r → R[k]? = some row → G r = some (.lst (row.map V.str)))
      ⟨same_new nD, [], upd_same, rfl, fun r h => (by cases h), fun k r row h => (by cases h)⟩ (fun i G _ p1 => .inl (.inl (p1.1 _ _ el))) (fun i x G ex p1 => ?_) (fun G p1 => ?_)
    · obtain ⟨sG, rs, eD, lrs, new, at_⟩ := p1
      rw [List.getElem?_map] at ex
      cases ey : L[i]? with
      | none => rw [ey] at ex; cases ex
      | some y =>
        rw [ey] at ex
        cases ex
        have hi := (List.getElem?_eq_some_iff.mp ey).1
        have ly := ll y (List.mem_of_getElem? ey)
        have eRi : R[i]? = some (Txt.split y spT) := by rw [eR, List.getElem?_map, ey]; rfl
        refine ⟨rfl, tyes_if ⟨.str y, rfl, rfl, y, spT, rfl, rfl, by decide +kernel, by omega, fun r nr => ?_⟩⟩
        have sr := same_new (o := .lst ((Txt.split y spT).map V.str)) nr
        have eD2 := sr _ _ eD
        have rD : r ≠ D := Ne.symm (ne_of_none eD nr)
        have er : (upd G r (.lst ((Txt.split y spT).map V.str))) r = some (.lst ((Txt.split y spT).map V.str)) := upd_same
        generalize upd G r _ = G2 at sr eD2 er ⊢
        refine ⟨_, eD2, ?_, fun c o hc => ?_, rs ++ [r], ?_, ?_, fun c hc => ?_, fun k c row g1 g2 => ?_⟩
        · rw [List.length_map]
          exact small7 (by omega)
        · rw [upd_ne (ne_of_none hc nD)]
          exact sr _ _ (sG _ _ hc)
        · rw [upd_same, List.map_append]
          rfl
        · rw [List.length_append, lrs]
          rfl
        · rcases List.mem_append.mp hc with z | z
          · exact new c z
          · rw [List.mem_singleton.mp z]
            exact rD
        · by_cases z : k < i
          · rw [List.getElem?_append_left (by omega)] at g1
            rw [upd_ne (new c (List.mem_of_getElem? g1))]
            exact sr _ _ (at_ k c row g1 g2)
          · have kl : k < rs.length + 1 := by
              have := (List.getElem?_eq_some_iff.mp g1).1
              rw [List.length_append] at this
              exact this
            have ki : k = i := by omega
            subst ki
            rw [List.getElem?_append_right (by omega), lrs, Nat.sub_self] at g1
            cases g1
            rw [eRi] at g2
            cases g2
            rw [upd_ne rD]
            exact er
    obtain ⟨sG, rs, eD, lrs, _, at_⟩ := p1
    rw [List.length_map, ← lR] at lrs
    have s2 := s1.trans sG
    have rrow : ∀ (k : Nat) (r : Addr), rs[k]? = some r → ∃ row, R[k]? = some row ∧ G r = some (.lst (row.map V.str)) := fun k r e => by
      have hk := (List.getElem?_eq_some_iff.mp e).1
      have e1 : R[k]? = some R[k] := List.getElem?_eq_getElem (by omega)
      exact ⟨_, e1, at_ k r _ e e1⟩
    clear sG el s1 nD nl at_
    have ascR : ∀ row ∈ R, ∀ y ∈ row, Asc y := fun row hr y hy => by
      rw [eR] at hr
      obtain ⟨ln, hl, rfl⟩ := List.mem_map.mp hr
      rw [eL] at hl
      refine Asc.split (lines_asc ?_ hl) hy
      intro c hc
      rw [rmsuf_tl] at hc
      split at hc
      all_goals first
        | exact as c (List.mem_of_mem_take hc)
        | exact as c hc
    have asR : ∀ row ∈ R, ∀ y ∈ row, PyData.strOk y = true := fun row hr y hy => (ascR row hr y hy).strOk
    -- the tests of the rows
    refine ⟨.ref D, rfl, D, _, rfl, .inl (.inl (.inl eD)), _, 40, rfl, rfl, _, rfl, ?_⟩
    by_cases c40 : ((rs.map V.ref).length : Int) > 40
    · rw [decide_eq_true c40]
      exact iteT (iteT (k1 (nr_len (by rw [List.length_map] at c40; omega)) _ s2))
    rw [decide_eq_false c40]
    rw [List.length_map] at c40
    refine iteF ⟨.ref D, rfl, D, rfl, ⟨_, .inl (.inl eD)⟩, fun D2 nD2 => ?_⟩
    refine lc_list (xs := rs.map V.ref) (fun i G2 => Same G G2 ∧ ∃ bs : List (Addr × List Str), G2 D2 = some (.lst (bs.map fun p => V.ref p.1)) ∧ bs.length ≤ i ∧ (∀ p ∈ bs, G p.1 = some (.lst (p.2.map V.str)) ∧ p.2 ∈ R ∧ p.2.length ≠ 2) ∧ (bs = [] → ∀ row ∈ R.take i, row.length = 2)) ⟨same_new nD2, [], upd_same, Nat.le_refl _, (fun p hp => by cases hp), fun _ row hr => (by cases hr)⟩ (fun i G2 _ p1 => .inl (.inl (p1.1 _ _ eD))) (fun i x G2 ex p1 => ?_) (fun G2 p1 => ?_)
    · obtain ⟨sG, bs, eD2, lb, bb, hb⟩ := p1
      rw [List.getElem?_map] at ex
      cases er : rs[i]? with
      | none => rw [er] at ex; cases ex
      | some r =>
        rw [er] at ex
        cases ex
        have hi := (List.getElem?_eq_some_iff.mp er).1
        obtain ⟨row, e1, e3⟩ := rrow i r er
        refine ⟨rfl, .ref r, rfl, r, _, rfl, .inl (.inl (.inl (sG _ _ e3))), rfl, _, rfl, ?_⟩
        rw [List.length_map]
        by_cases two : row.length = 2
        · rw [show decide (V.int (row.length : Int) = V.int 2) = true from decide_eq_true (by rw [two]; rfl)]
          refine iteF ⟨sG, bs, eD2, by omega, bb, fun z q hq => ?_⟩
          rw [take_next e1] at hq
          rcases List.mem_append.mp hq with y | y
          · exact hb z q y
          · rw [List.mem_singleton.mp y]
            exact two
        · rw [show decide (V.int (row.length : Int) = V.int 2) = false from decide_eq_false fun y => two (by have := V.int.inj y; omega)]
          refine iteT ⟨.ref r, rfl, _, eD2, by rw [List.length_map]; exact small300 (by omega), fun c o hc => (upd_ne (ne_of_none hc nD2)).trans (sG _ _ hc), bs ++ [(r, row)], ?_, ?_, fun p hp => ?_, fun z => ?_⟩
          · rw [upd_same, List.map_append]
            rfl
          · rw [List.length_append]
            exact Nat.succ_le_succ lb
          · rcases List.mem_append.mp hp with y | y
            · exact bb p y
            · rw [List.mem_singleton.mp y]
              exact ⟨e3, List.mem_of_getElem? e1, two⟩
          · simp at z
    obtain ⟨sG, bs, eD2, lb, bb, hb⟩ := p1
    rw [List.length_map, lrs, List.take_length] at hb
    refine ⟨Nat.zero_le _, fun e0 ne0 => ?_⟩
    have s0 := same_new (o := .lst []) ne0
    have sA := sG.trans s0
    have dp : ∀ qs : List (Addr × List Str), (∀ p ∈ qs, G p.1 = some (.lst (p.2.map V.str))) → DpAll K (upd G2 e0 (.lst [])) (qs.map fun p => V.ref p.1) (qs.map fun p => rowS p.2) := fun qs => by
      induction qs with
      | nil => intro _; exact .nil
      | cons q qs ih => exact fun h => .cons (.lst (.inl (.inl (sA _ _ (h q List.mem_cons_self)))) (dp_texts _)) (ih fun p hp => h p (List.mem_cons_of_mem _ hp))
    have shp : SeqAt.shaped (.list (bs.map fun p => rowS p.2)) = true := by
      have := shaped_rowS (rs := bs.map Prod.snd) fun r hr t ht => by
        obtain ⟨p, hp, rfl⟩ := List.mem_map.mp hr
        exact asR _ (bb p hp).2.1 t ht
      rw [List.map_map] at this
      exact this
    refine ⟨.list (bs.map fun p : Addr × List Str => rowS p.2), .list [], .lst (.inl (.inl (s0 _ _ eD2))) (dp bs fun p hp => (bb p hp).1), .lst (.inl (.inl upd_same)) .nil, shp, by decide, _, rfl, ?_⟩
    rw [eqv_none]
    cases bs with
    | cons p bs =>
      obtain ⟨_, h1, h2⟩ := bb p List.mem_cons_self
      exact iteT (iteT (k1 (nr_two h1 h2) _ (s2.trans sA)))
    | nil =>
    refine iteF ?_
    have two := hb rfl
    have s3 := s2.trans sA
    have eD := sA _ _ eD
    have rrow : ∀ (k : Nat) (r : Addr), rs[k]? = some r → ∃ a b, R[k]? = some [a, b] ∧ a.length ≤ 6000 ∧ b.length ≤ 6000 ∧ Asc a ∧ Asc b ∧ (upd G2 e0 (.lst [])) r = some (.lst [.str a, .str b]) := fun k r e => by
      obtain ⟨row, e1, e2⟩ := rrow k r e
      have l2 := two row (List.mem_of_getElem? e1)
      have sm := (smR row (List.mem_of_getElem? e1)).2
      have ac : ∀ y ∈ row, Asc y := ascR row (List.mem_of_getElem? e1)
      match row, l2 with
      | [a, b], _ => exact ⟨a, b, e1, sm a (by simp), sm b (by simp), ac a (by simp), ac b (by simp), sA _ _ e2⟩
    clear sG s2 nD2 s0 sA dp shp bb hb eD2 lb ne0
    generalize upd G2 e0 (.lst []) = G3 at eD s3 rrow ⊢
    have posR : 0 < R.length := by
      rw [lR]
      exact List.length_pos_iff.mpr neL
    obtain ⟨r0, er0⟩ : ∃ r, rs[0]? = some r := ⟨_, List.getElem?_eq_getElem (by omega : 0 < rs.length)⟩
    obtain ⟨a0, b0, f1, _, _, _, _, f3⟩ := rrow 0 r0 er0
    refine ⟨.ref D, rfl, D, _, 0, .ref r0, rfl, rfl, .inl (.inl eD), atI_nat (j := 0) (by rw [List.getElem?_map, er0]; rfl), r0, _, 0, .str a0, rfl, rfl, .inl (.inl f3), atI_nat (j := 0) rfl, rfl, _, rfl, ?_⟩
    by_cases hsh : a0 = Str.ofString "shop"
    case neg =>
      rw [decide_eq_false fun z => hsh (V.str.inj z)]
      exact iteT (k1 (nr_shop f1 hsh) _ s3)
    rw [decide_eq_true (congrArg V.str hsh)]
    refine iteF ?_
    -- the customers
    refine ⟨.ref D, rfl, 1, rfl, D, _, rfl, .inl (.inl eD), fun c nc => ?_⟩
    have sc := same_new (o := .lst (cutV (rs.map V.ref) (some 1) none)) nc
    have ec : (upd G3 c (.lst (cutV (rs.map V.ref) (some 1) none))) c = some (.lst ((rs.drop 1).map V.ref)) := by
      rw [upd_same, show cutV (rs.map V.ref) (some 1) none = (rs.drop 1).map V.ref from (cutV_tail (rs.map V.ref)).trans List.map_drop.symm]
    have eD := sc _ _ eD
    have s4 := s3.trans sc
    have rrow : ∀ (k : Nat) (r : Addr), rs[k]? = some r → ∃ a b, R[k]? = some [a, b] ∧ a.length ≤ 6000 ∧ b.length ≤ 6000 ∧ Asc a ∧ Asc b ∧ (upd G3 c (.lst (cutV (rs.map V.ref) (some 1) none))) r = some (.lst [.str a, .str b]) := fun k r e => let ⟨a, b, e1, e2, e3, e4, e5, e6⟩ := rrow k r e; ⟨a, b, e1, e2, e3, e4, e5, sc _ _ e6⟩
    clear sc nc s3 f3
    generalize upd G3 c _ = G4 at ec eD s4 rrow ⊢
    have small : rs.length ≤ 40 := by omega
    refine ⟨c, rfl, ⟨_, .inl (.inl ec)⟩, fun D3 nD3 => ?_⟩
    refine lc_list (xs := (rs.drop 1).map V.ref) (fun i G => Same G4 G ∧ ∃ os : List (Option Int), G D3 = some (.lst (os.map ov)) ∧ os.length = i ∧ ∀ j (o : Option Int), os[j]? = some o → ∃ a b, R[j + 1]? = some [a, b] ∧ ((o = none ∧ decT a ((2 : Nat) : Int) = false) ∨ ∃ n : Nat, o = some (n : Int) ∧ n < 10 ^ 40 ∧ a = numT (n : Int))) ⟨same_new nD3, [], upd_same, rfl, fun j n h => (by cases h)⟩ (fun i G _ p1 => .inl (.inl (p1.1 _ _ ec))) (fun i x G ex p1 => ?_) (fun G p1 => ?_)
    · obtain ⟨sG, os, eD3, lo, at_⟩ := p1
      rw [List.getElem?_map, List.getElem?_drop] at ex
      cases er : rs[1 + i]? with
      | none => rw [er] at ex; cases ex
      | some r =>
        rw [er] at ex
        cases ex
        have hi := (List.getElem?_eq_some_iff.mp er).1
        obtain ⟨a, b, e1, la, _, aa, _, e3⟩ := rrow _ r er
        have fin : ∀ (o : Option Int) (G' : Hp), Same G G' → ((o = none ∧ decT a ((2 : Nat) : Int) = false) ∨ ∃ n : Nat, o = some (n : Int) ∧ n < 10 ^ 40 ∧ a = numT (n : Int)) → ∃ acc, G' D3 = some (.lst acc) ∧ acc.length < sizeLine ∧ Same G4 (upd G' D3 (.lst (acc ++ [ov o]))) ∧ ∃ os : List (Option Int), upd G' D3 (.lst (acc ++ [ov o])) D3 = some (.lst (os.map ov)) ∧ os.length = i + 1 ∧ ∀ j (o : Option Int), os[j]? = some o → ∃ a b, R[j + 1]? = some [a, b] ∧ ((o = none ∧ decT a ((2 : Nat) : Int) = false) ∨ ∃ n : Nat, o = some (n : Int) ∧ n < 10 ^ 40 ∧ a = numT (n : Int)) := fun o G' s' ho => by
          refine ⟨_, s' _ _ eD3, by rw [List.length_map]; exact small300 (by omega), fun z u hz => (upd_ne (ne_of_none hz nD3)).trans (s' _ _ (sG _ _ hz)), os ++ [o], ?_, ?_, fun j p hj => ?_⟩
          · rw [upd_same, List.map_append]
            rfl
          · rw [List.length_append, lo]
            rfl
          · by_cases z : j < os.length
            · rw [List.getElem?_append_left z] at hj
              exact at_ j p hj
            · rw [List.getElem?_append_right (by omega)] at hj
              have jz : j - os.length = 0 := by
                cases y : j - os.length with
                | zero => rfl
                | succ q => rw [y] at hj; cases hj
              rw [jz] at hj
              cases hj
              exact ⟨a, b, by rw [show j + 1 = 1 + i by omega]; exact e1, ho⟩
        refine ⟨rfl, tyes_if ⟨.ref r, rfl, r, _, 0, .str a, rfl, rfl, .inl (.inl (sG _ _ e3)), atI_nat (j := 0) rfl, a, 2, rfl, la, aa, by decide, by decide, fun n G' s' _ en ln => fin (some (n : Int)) G' s' (.inr ⟨n, rfl, ln, en⟩), fun dn G' s' => fin none G' s' (.inl ⟨rfl, dn⟩)⟩⟩
    obtain ⟨sG, os, eD3, lo, atP⟩ := p1
    rw [List.length_map, List.length_drop, lrs] at lo
    have eD := sG _ _ eD
    have s5 := s4.trans sG
    have rrow : ∀ (k : Nat) (r : Addr), rs[k]? = some r → ∃ a b, R[k]? = some [a, b] ∧ a.length ≤ 6000 ∧ b.length ≤ 6000 ∧ Asc a ∧ Asc b ∧ G r = some (.lst [.str a, .str b]) := fun k r e => let ⟨a, b, e1, e2, e3, e4, e5, e6⟩ := rrow k r e; ⟨a, b, e1, e2, e3, e4, e5, sG _ _ e6⟩
    clear sG s4 nD3 ec
    -- the boxes
    refine ⟨.ref D, rfl, D, rfl, ⟨_, .inl (.inl eD)⟩, fun D4 nD4 => ?_⟩
    have z0 : ∀ (j : Nat) (o : Option Int), ([] : List (Option Int))[j]? = some o → ∃ a b, R[j]? = some [a, b] ∧ ((o = none ∧ ¬ numB b) ∨ ∃ n : Int, o = some n ∧ n.natAbs < 10 ^ 40 ∧ b = numT n) := fun j o h => by simp at h
    refine lc_list (xs := rs.map V.ref) (fun i G' => Same G G' ∧ ∃ os : List (Option Int), G' D4 = some (.lst (os.map ov)) ∧ os.length = i ∧ ∀ j (o : Option Int), os[j]? = some o → ∃ a b, R[j]? = some [a, b] ∧ ((o = none ∧ ¬ numB b) ∨ ∃ n : Int, o = some n ∧ n.natAbs < 10 ^ 40 ∧ b = numT n)) ⟨same_new nD4, [], upd_same, rfl, z0⟩ (fun i G' _ p1 => .inl (.inl (p1.1 _ _ eD))) (fun i x G' ex p1 => ?_) (fun G' p1 => ?_)
    · obtain ⟨sG, os2, eD4, lo2, at_⟩ := p1
      rw [List.getElem?_map] at ex
      cases er : rs[i]? with
      | none => rw [er] at ex; cases ex
      | some r =>
        rw [er] at ex
        cases ex
        have hi := (List.getElem?_eq_some_iff.mp er).1
        obtain ⟨a, b, e1, _, lb, _, ab, e3⟩ := rrow _ r er
        have fin : ∀ (o : Option Int) (Ga : Hp), Same G' Ga → ((o = none ∧ ¬ numB b) ∨ ∃ n : Int, o = some n ∧ n.natAbs < 10 ^ 40 ∧ b = numT n) → ∃ acc, Ga D4 = some (.lst acc) ∧ acc.length < sizeLine ∧ Same G (upd Ga D4 (.lst (acc ++ [ov o]))) ∧ ∃ os : List (Option Int), upd Ga D4 (.lst (acc ++ [ov o])) D4 = some (.lst (os.map ov)) ∧ os.length = i + 1 ∧ ∀ j (o : Option Int), os[j]? = some o → ∃ a b, R[j]? = some [a, b] ∧ ((o = none ∧ ¬ numB b) ∨ ∃ n : Int, o = some n ∧ n.natAbs < 10 ^ 40 ∧ b = numT n) := fun o Ga s' ho => by
          refine ⟨_, s' _ _ eD4, by rw [List.length_map]; exact small300 (by omega), fun z u hz => (upd_ne (ne_of_none hz nD4)).trans (s' _ _ (sG _ _ hz)), os2 ++ [o], ?_, ?_, fun j p hj => ?_⟩
          · rw [upd_same, List.map_append]
            rfl
          · rw [List.length_append, lo2]
            rfl
          · by_cases z : j < os2.length
            · rw [List.getElem?_append_left z] at hj
              exact at_ j p hj
            · rw [List.getElem?_append_right (by omega)] at hj
              have jz : j - os2.length = 0 := by
                cases y : j - os2.length with
                | zero => rfl
                | succ q => rw [y] at hj; cases hj
              rw [jz] at hj
              cases hj
              exact ⟨a, b, by rw [show j = i by omega]; exact e1, ho⟩
        refine ⟨rfl, tyes_if ⟨.ref r, rfl, r, _, 1, .str b, rfl, rfl, .inl (.inl (sG _ _ e3)), atI_nat (j := 1) rfl, b, rfl, lb, ab, fun n Ga s' ln en => fin (some n) Ga s' (.inr ⟨n, rfl, ln, en⟩), fun dn Ga s' => fin none Ga s' (.inl ⟨rfl, dn⟩)⟩⟩
    obtain ⟨sG, os2, eD4, lo2, atS⟩ := p1
    rw [List.length_map, lrs] at lo2
    have eD3 := sG _ _ eD3
    have s6 := s5.trans sG
    clear sG s5 nD4 rrow eD z0
    -- None among them?
    refine ⟨.ref D3, rfl, .none, os.map od, .non, .lst (.inl (.inl eD3)) (dp_os os), by decide, shaped_os os, _, rfl, ?_⟩
    rw [any_os]
    cases hn1 : os.any Option.isNone with
    | true =>
      obtain ⟨o, ho, hz⟩ := List.any_eq_true.mp hn1
      obtain ⟨j, hj, ej⟩ := List.getElem_of_mem ho
      obtain ⟨a, b, e1, e2⟩ := atP j o (by rw [List.getElem?_eq_getElem hj, ej])
      rcases e2 with ⟨_, e2⟩ | ⟨n, rfl, _⟩
      · exact iteT (iteT (k1 (nr_num e1 e2) _ s6))
      · cases hz
    | false =>
    refine iteF ⟨.ref D4, rfl, .none, os2.map od, .non, .lst (.inl (.inl eD4)) (dp_os os2), by decide, shaped_os os2, _, rfl, ?_⟩
    rw [any_os]
    cases hn2 : os2.any Option.isNone with
    | true =>
      obtain ⟨o, ho, hz⟩ := List.any_eq_true.mp hn2
      obtain ⟨j, hj, ej⟩ := List.getElem_of_mem ho
      obtain ⟨a, b, e1, e2⟩ := atS j o (by rw [List.getElem?_eq_getElem hj, ej])
      rcases e2 with ⟨_, e2⟩ | ⟨n, rfl, _⟩
      · exact iteT (iteT (k1 (nr_box e1 e2) _ s6))
      · cases hz
    | false =>
    obtain ⟨pl, rfl⟩ := some_os hn1
    obtain ⟨ss, rfl⟩ := some_os hn2
    rw [List.map_map] at eD3 eD4
    rw [List.length_map] at lo lo2
    have gP : ∀ j n, pl[j]? = some n → 0 ≤ n ∧ n.natAbs < 10 ^ 40 ∧ ∃ b, R[j + 1]? = some [numT n, b] := fun j n e => by
      obtain ⟨a, b, e1, e2⟩ := atP j (some n) (by rw [List.getElem?_map, e]; rfl)
      rcases e2 with ⟨z, _⟩ | ⟨m, em, lm, ea⟩
      · cases z
      · cases em
        exact ⟨Int.natCast_nonneg m, by rw [Int.natAbs_natCast]; exact lm, b, by rw [← ea]; exact e1⟩
    have gS : ∀ j n, ss[j]? = some n → n.natAbs < 10 ^ 40 ∧ ∃ a, R[j]? = some [a, numT n] := fun j n e => by
      obtain ⟨a, b, e1, e2⟩ := atS j (some n) (by rw [List.getElem?_map, e]; rfl)
      rcases e2 with ⟨z, _⟩ | ⟨m, em, lm, eb⟩
      · cases z
      · cases em
        exact ⟨lm, a, by rw [← eb]; exact e1⟩
    have bdS : ∀ n ∈ ss, n.natAbs < 10 ^ 40 := fun n hn => by
      obtain ⟨j, hj, ej⟩ := List.getElem_of_mem hn
      exact (gS j n (by rw [List.getElem?_eq_getElem hj, ej])).1
    have bdP : ∀ n ∈ pl, n.natAbs < 10 ^ 40 := fun n hn => by
      obtain ⟨j, hj, ej⟩ := List.getElem_of_mem hn
      exact (gP j n (by rw [List.getElem?_eq_getElem hj, ej])).2.1
    have ls : ss.length = pl.length + 1 := by omega
    have lbo : (bosses pl).length = R.length := by
      show (pl.map numT).length + 1 = _
      rw [List.length_map]
      omega
    have eRows : R = rowsOf pl ss := by
      refine List.ext_getElem? fun j => ?_
      unfold rowsOf
      rw [List.getElem?_zipWith, List.getElem?_map]
      by_cases hj : j < R.length
      · have e2 : ss[j]? = some ss[j] := List.getElem?_eq_getElem (by omega)
        obtain ⟨_, a, ea⟩ := gS j _ e2
        rw [ea, e2]
        cases j with
        | zero =>
          rw [f1] at ea
          have y := (List.cons.inj (Option.some.inj ea)).1
          rw [← y, hsh]
          rfl
        | succ i =>
          have e3 : pl[i]? = some pl[i] := List.getElem?_eq_getElem (by omega)
          obtain ⟨_, _, b, eb⟩ := gP i _ e3
          rw [ea] at eb
          have e4 : (bosses pl)[i + 1]? = some (numT pl[i]) := by
            show (pl.map numT)[i]? = _
            rw [List.getElem?_map, e3]
            rfl
          rw [e4]
          have := (List.cons.inj (Option.some.inj eb)).1
          rw [this]
          rfl
      · rw [List.getElem?_eq_none (by omega), List.getElem?_eq_none (l := bosses pl) (by omega)]
    have eP : G' D3 = some (.lst (pl.map V.int)) := eD3
    have eS : G' D4 = some (.lst (ss.map V.int)) := eD4
    clear atP atS hn1 hn2 eD3 eD4
    refine iteF ⟨.ref D4, rfl, D4, ss, rfl, .inl (.inl eS), by omega, fun c le hc => ⟨.ref D4, rfl, D4, _, rfl, .inl (.inl (.inl eS)), _, _, rfl, rfl, _, rfl, ?_⟩⟩
    rw [List.length_map]
    by_cases nds : ss.Nodup
    case neg =>
      have : c ≠ ss.length := fun z => nds (hc.mp z)
      rw [decide_eq_true (by omega : (c : Int) < (ss.length : Int))]
      exact iteT (k1 (nr_dup eRows ls bdS nds) _ s6)
    have hcl := hc.mpr nds
    rw [decide_eq_false (by omega : ¬ (c : Int) < (ss.length : Int))]
    refine iteF ?_
    -- customers that come too late
    refine ⟨.ref D3, rfl, D3, _, rfl, .inl (.inl eP), fun E nE => ?_⟩
    refine lc_it (walk_enum (xs := pl.map V.int)) (fun j G1 => Same G' G1 ∧ ∃ js : List Int, G1 E = some (.lst (js.map V.int)) ∧ js.length ≤ j ∧ (js = [] ↔ ∀ (k : Nat) (n : Int), k < j → pl[k]? = some n → n ≤ k)) ⟨same_new nE, [], upd_same, Nat.le_refl _, fun _ k n h => absurd h (Nat.not_lt_zero k), fun _ => rfl⟩ (fun j G1 _ p1 => .inl (.inl (p1.1 _ _ eP))) (fun j x Ga Gb hj p1 y => ?_) (fun Ga p1 => ?_)
    · obtain ⟨sm, js, eE, lj, hjs⟩ := p1
      obtain ⟨T2, x1, x2, rfl, n2, rfl, g1, g2⟩ := y
      cases g1
      rw [List.length_map] at hj
      have ep : pl[j]? = some pl[j] := List.getElem?_eq_getElem hj
      obtain rfl : V.int pl[j] = x2 := by
        have e : (pl.map V.int)[j]? = some x2 := g2
        rw [List.getElem?_map, ep] at e
        cases e
        rfl
      have sT := same_new (o := .tup [V.int (j : Nat), .int pl[j]]) n2
      refine ⟨T2, _, rfl, .inl (.inl upd_same), rfl, _, _, rfl, _, _, rfl, rfl, rfl, ?_⟩
      refine ⟨.int pl[j], rfl, .int (j : Nat), rfl, _, _, rfl, rfl, _, rfl, ite2 (fun e => ?_) fun e => ?_⟩
      · have z := of_decide_eq_true e
        refine ⟨.int (j : Nat), rfl, _, sT _ _ eE, by rw [List.length_map]; exact small300 (by omega), fun b o hb => ?_, js ++ [(j : Int)], ?_, ?_, fun h => ?_, fun h => ?_⟩
        · rw [upd_ne (ne_of_none hb nE)]
          exact sT _ _ (sm _ _ hb)
        · rw [upd_same, List.map_append]
          rfl
        · rw [List.length_append]
          exact Nat.succ_le_succ lj
        · simp at h
        · have := h j _ (Nat.lt_succ_self j) ep
          omega
      · have z := of_decide_eq_false (eq_false_of_ne_true e)
        refine ⟨sm.trans sT, js, sT _ _ eE, by omega, hjs.trans ⟨fun h k n hk e2 => ?_, fun h k n hk e2 => h k n (by omega) e2⟩⟩
        by_cases c : k < j
        · exact h k n c e2
        · have : k = j := by omega
          subst this
          rw [ep] at e2
          cases e2
          omega
    obtain ⟨sm, js, eE, lj, hjs⟩ := p1
    rw [List.length_map] at hjs
    refine ⟨.ref E, rfl, Nat.zero_le _, fun e0 ne0 => ?_⟩
    have s0 := same_new (o := .lst []) ne0
    have s7 := s6.trans (sm.trans s0)
    refine ⟨.list (js.map PyData.int), .list [], .lst (.inl (.inl (s0 _ _ eE))) (dp_ints _), .lst (.inl (.inl upd_same)) .nil, shaped_ints _, by decide, _, rfl, ?_⟩
    rw [eqv_none]
    have eP := s0 _ _ (sm _ _ eP)
    have eS := s0 _ _ (sm _ _ eS)
    cases js with
    | cons j js =>
      refine iteF (k1 (nr_late eRows ls bdP fun P => ?_) _ s7)
      have := hjs.mpr fun k n _ e => (P.ok k n e).2
      cases this
    | nil =>
      have P : Plant pl := ⟨by omega, fun k n e => ⟨(gP k n e).1, hjs.mp rfl k n (List.getElem?_eq_some_iff.mp e).1 e⟩⟩
      refine iteT ⟨.ref D3, rfl, D3, _, rfl, .inl ⟨.inl (.inl eP), fun p np => ?_⟩⟩
      have sp := same_new (o := .tup (pl.map V.int)) np
      refine ⟨.ref D4, rfl, D4, _, rfl, .inl ⟨.inl (.inl (sp _ _ eS)), fun q nq => ?_⟩⟩
      have sq := same_new (o := .tup (ss.map V.int)) nq
      refine ⟨(by show 2 ≤ sizeLine; decide), fun r nr => ?_⟩
      have sr := same_new (o := .tup [V.ref p, .ref q]) nr
      exact k2 pl ss eRows ls P nds bdS _ r p q (s7.trans (sp.trans (sq.trans sr))) (s7.free (sp.free (sq.free nr))) upd_same (sr _ _ (sq _ _ upd_same)) (sr _ _ upd_same)
end
end PT


set_option maxHeartbeats 4000000
set_option exponentiation.threshold 5000
/-! draws out of a fount: three ints, the third one counts -/
namespace PT
open PySem PySem.Spec PyProof.Rows L2

/-- ** of great ints, to small powers -/
def CPowW (i j : Int) : Prop := 0 ≤ j ∧ j ≤ 10 ∧ i.natAbs < 2 ^ 4000
theorem op_powW {X : Cx} : OpR X (binaryOp .Pow) (rI CPowW fun i j => .int (i ^ j.toNat)) := opI fun i j _ _ _ _ _ hc q => pow_int hc.1 (by
  have h1 : Builtin.Int.intBits i ≤ i.natAbs.log2 + 1 := by
    unfold Builtin.Int.intBits
    split <;> omega
  have h2 := PySem.Flt.log2_lt_of (by decide) hc.2.2
  have h3 := hc.1
  have h4 := hc.2.1
  have h5 : (Builtin.Int.intBits i : Int) ≤ 4000 := by omega
  have h6 : (Builtin.Int.intBits i : Int) * j ≤ 4000 * 10 := Int.mul_le_mul h5 h4 h3 (by decide)
  have h7 : (4000 * 10 : Int) ≤ 2 ^ 27 := by decide
  omega) q
theorem pow_small {i : Int} (h0 : 0 ≤ i) (h1 : i < 10 ^ 60) {j : Int} (j0 : 0 ≤ j) (j1 : j ≤ 10) : CPowW i j := ⟨j0, j1, Nat.lt_trans (show i.natAbs < 10 ^ 60 by omega) (by decide)⟩
/-- a fount: a list of three ints; at most n draws so far -/
def PotAt (H : Hp) (b : Addr) (n : Nat) : Prop := ∃ x y z : Int, H b = some (.lst [.int x, .int y, .int z]) ∧ 0 ≤ y ∧ y < 10 ^ 45 ∧ 0 ≤ z ∧ z ≤ n
theorem PotAt.same {H H' : Hp} {b : Addr} {n : Nat} (e : Same H H') (h : PotAt H b n) : PotAt H' b n := let ⟨x, y, z, q, r⟩ := h; ⟨x, y, z, e _ _ q, r⟩
theorem PotAt.mono {H : Hp} {b : Addr} {n m : Nat} (h : PotAt H b n) (l : n ≤ m) : PotAt H b m := let ⟨x, y, z, q, a, b, c, d⟩ := h; ⟨x, y, z, q, a, b, c, by omega⟩
theorem PotAt.isL {H : Hp} {b : Addr} {n : Nat} (h : PotAt H b n) : ∃ xs, H b = some (.lst xs) := let ⟨x, y, z, q, _⟩ := h; ⟨_, q⟩
theorem PotAt.some {H : Hp} {b c : Addr} {n : Nat} (h : PotAt H b n) (e : H c = none) : c ≠ b := fun z => by
  obtain ⟨x, y, w, q, _⟩ := h
  rw [z, q] at e
  cases e
theorem PotAt.neT {H : Hp} {b c : Addr} {n : Nat} {xs : List V} (h : PotAt H b n) (e : H c = Option.some (.tup xs)) : c ≠ b := fun z => by
  obtain ⟨ys, q⟩ := h.isL
  rw [z, q] at e
  cases e
theorem PotAt.ne0 {H : Hp} {b : Addr} {n : Nat} (h : PotAt H b n) : H b ≠ none := fun e => by
  obtain ⟨xs, z⟩ := h.isL
  rw [z] at e
  cases e
theorem Bar.freeP {b : Addr} {H H' : Hp} {n : Nat} (e : Bar b H H') (hb2 : PotAt H' b n) {l : Addr} (n : H' l = none) : H l = none := by
  cases q : H l with
  | none => rfl
  | some o =>
    by_cases c : l = b
    · exact absurd c (hb2.some n)
    · rw [e l o c q] at n
      cases n
theorem big_lt {m : Int} (h0 : 0 < m) (h1 : m < 10 ^ 40) : m.natAbs < 2 ^ 140 := by
  have z : m.natAbs < 10 ^ 40 := by omega
  exact Nat.lt_trans z (by decide)
theorem pot41 : (0 : Int) < 10 ^ (Int.toNat 43) + 103 := by decide
theorem pot40 : (0 : Int) < 10 ^ (Int.toNat 41) + 109 := by decide
section
variable {P : Program} {w : World} {K : PySem.W.Frag} {mg : Str → Option Value} {base : Heap}
def spSip : Sp := fun vs H Q _ => ∃ (b : Addr) (m : Int) (n : Nat), vs = [.ref b, .int m] ∧ 0 < m ∧ m < 10 ^ 40 ∧ PotAt H b n ∧ n ≤ 1000000000000 ∧ ∀ (r : Int) (H' : Hp), 0 ≤ r → r < m → PotAt H' b (n + 1) → Bar b H H' → (∀ c, c ≠ b → H' c = H c) → Q (.int r) H'
theorem ok_sip (T : Tx K mg) : FnOk P w K mg base CX0 1 T.f__law_sip T.d__law_sip ["fount", "many"] spSip := by
  refine T.F__law_sip.ok scLawSip (fun vs H Q E h => ?_) (fun cdv A outer s H vs Q E hr h => ?_)
  · obtain ⟨b, m, n, rfl, _⟩ := h
    rfl
  · obtain ⟨b, m, n, rfl, h0, h1, ⟨x, y, z, hb, y0, y1, z0, z1⟩, hn, q⟩ := h
    have nd := scLawSip.nd
    refine ⟨_, pss_cons (ps_if (pt_cmpR op_gt (pe_ix ix_list (pv 0) pe_int (fun _ _ => rfl)) pe_int (nomark _))
        (pss_cons (ps_set (i := 2) nd rfl (.inl rfl) (pe_op op_mod (pe_ix ix_list (pv 0) pe_int (fun _ _ => rfl)) (pv 1)))
        (pss_cons (ps_asg (pe_op op_fdivW (pe_ix ix_list (pv 0) pe_int (fun _ _ => rfl)) (pv 1)) (pg_sub (pv 0) pe_int set_list))
        (pss_one (ps_ret (pv 2))))) pss_nil)
      (pss_cons (ps_asg (pe_op op_add (pe_ix ix_list (pv 0) pe_int (fun _ _ => rfl)) pe_int) (pg_sub (pv 0) pe_int set_list))
      (pss_cons (ps_set (i := 3) nd rfl (.inl rfl) (pe_op op_mod (pe_op op_powW (pe_op op_add (pe_ix ix_list (pv 0) pe_int (fun _ _ => rfl)) (pe_op op_mul pe_int (pe_ix ix_list (pv 0) pe_int (fun _ _ => rfl)))) pe_int) (pe_op op_add (pe_op op_pow pe_int pe_int) pe_int)))
      (pss_cons (ps_set (i := 3) nd rfl (.inl rfl) (pe_op op_mod (pe_op op_powW (pe_op op_add (pv 3) (pe_op op_mul pe_int (pe_ix ix_list (pv 0) pe_int (fun _ _ => rfl)))) pe_int) (pe_op op_add (pe_op op_pow pe_int pe_int) pe_int)))
      (pss_one (ps_ret (pe_op op_mod (pe_op op_fdiv (pv 3) pe_int) (pv 1))))))), ?_⟩
    have hs : SqL K H b [.int x, .int y, .int z] := .inl (.inl hb)
    refine ⟨.ref b, rfl, b, _, 0, .int x, rfl, rfl, hs, rfl, x, 0, rfl, rfl, _, rfl, ite2 (fun e => ?_) fun e => ?_⟩
    · refine ⟨.ref b, rfl, b, _, 0, .int x, rfl, rfl, hs, rfl, .int m, rfl, x, m, rfl, rfl, h0, ?_⟩
      refine ⟨.ref b, rfl, b, _, 0, .int x, rfl, rfl, hs, rfl, .int m, rfl, x, m, rfl, rfl, wide_div h0 (b := 140) (big_lt h0 h1) (by decide) (by decide), .ref b, rfl, b, _, 0, 0, rfl, rfl, hb, rfl, ?_⟩
      refine ⟨_, rfl, ?_⟩
      exact q _ _ (Int.emod_nonneg _ (by omega)) (Int.emod_lt_of_pos _ h0) ⟨x / m, y, z, upd_same, y0, y1, z0, by omega⟩ bar_upd fun c hc => upd_ne hc
    · refine ⟨.ref b, rfl, b, _, 2, .int z, rfl, rfl, hs, rfl, z, 1, rfl, rfl, .ref b, rfl, b, _, 2, 2, rfl, rfl, hb, rfl, ?_⟩
      have hs1 : SqL K (upd H b (.lst ([V.int x, .int y, .int z].set 2 (.int (z + 1))))) b [.int x, .int y, .int (z + 1)] := .inl (.inl upd_same)
      refine ⟨.ref b, rfl, b, _, 1, .int y, rfl, rfl, hs1, rfl, .ref b, rfl, b, _, 2, .int (z + 1), rfl, rfl, hs1, rfl, 67867979, z + 1, rfl, rfl, .inl ⟨by decide, by decide⟩, _, _, rfl, rfl, _, 3, rfl, rfl, pow_small (by omega) (by omega) (by decide) (by decide), ?_⟩
      refine ⟨10, 43, rfl, rfl, ⟨by decide, by decide, by decide⟩, _, 103, rfl, rfl, _, _, rfl, rfl, pot41, ?_⟩
      have t0 : 0 ≤ (y + 67867979 * (z + 1)) ^ (Int.toNat 3) % (10 ^ (Int.toNat 43) + 103) := Int.emod_nonneg _ (Int.ne_of_gt pot41)
      have t1 : (y + 67867979 * (z + 1)) ^ (Int.toNat 3) % (10 ^ (Int.toNat 43) + 103) < 10 ^ (Int.toNat 43) + 103 := Int.emod_lt_of_pos _ pot41
      have t2 : (y + 67867979 * (z + 1)) ^ (Int.toNat 3) % (10 ^ (Int.toNat 43) + 103) < 10 ^ 44 := Int.lt_of_lt_of_le t1 (by decide)
      refine ⟨_, rfl, .ref b, rfl, b, _, 2, .int (z + 1), rfl, rfl, hs1, rfl, 32452867, z + 1, rfl, rfl, .inl ⟨by decide, by decide⟩, _, _, rfl, rfl, _, 3, rfl, rfl, pow_small (by omega) (by omega) (by decide) (by decide), ?_⟩
      refine ⟨10, 41, rfl, rfl, ⟨by decide, by decide, by decide⟩, _, 109, rfl, rfl, _, _, rfl, rfl, pot40, ?_⟩
      refine ⟨_, rfl, _, 262147, rfl, rfl, ⟨by decide, by decide⟩, .int m, rfl, _, m, rfl, rfl, h0, ?_⟩
      exact q _ _ (Int.emod_nonneg _ (by omega)) (Int.emod_lt_of_pos _ h0) ⟨x, y, z + 1, upd_same, y0, y1, by omega, by omega⟩ bar_upd fun c hc => upd_ne hc
end
end PT


set_option maxHeartbeats 4000000
/-! a page bent (law 53) -/
namespace PT
open PySem PySem.Spec PyProof.Rows L2 LamX NdefX TL
abbrev rJoin53 (K : PySem.W.Frag) : V → List V → Hp → VK → Prop := fun x xs H Q => ∃ a l, ∃ ys : List Str, x = .str a ∧ xs = [.ref l] ∧ (SqL K H l (ys.map V.str) ∨ SqT K H l (ys.map V.str)) ∧ (ys.map (·.length)).sum + ys.length * a.length ≤ 16777216 ∧ Q (.str (Txt.join a ys)) H
abbrev rAdd53 : R2 := fun x y H Q => ∃ a b, x = .str a ∧ y = .str b ∧ a.length + b.length ≤ sizeLine ∧ Q (.str (a ++ b)) H
theorem ite_sep {c : Bool} {σ : L2.St} {H : Hp} {Q : VK} (h : ∀ sep : Str, sep = nlT ∨ sep = spT → Q (.str sep) H) : if c = true then tC (.str (Str.ofString "\n")) σ H Q else tC (.str (Str.ofString " ")) σ H Q := by
  split
  · exact h _ (.inl rfl)
  · exact h _ (.inr rfl)
theorem cutV_to (xs : List V) (i : Nat) : cutV xs none (some (i : Int)) = xs.take i := by
  unfold cutV
  rw [HT.sIx_none, HT.sIx_nat, List.drop_zero, Nat.sub_zero]
  by_cases h : i ≤ xs.length
  · rw [Nat.min_eq_left h]
  · rw [Nat.min_eq_right (by omega), List.take_length, List.take_of_length_le (by omega)]
theorem cutV_from (xs : List V) (i : Nat) : cutV xs (some (i : Int)) none = xs.drop i := by
  unfold cutV
  rw [HT.sIx_none, HT.sIx_nat]
  by_cases h : i ≤ xs.length
  · rw [Nat.min_eq_left h, List.take_of_length_le (by rw [List.length_drop]; omega)]
  · rw [Nat.min_eq_right (by omega), List.drop_length, List.drop_of_length_le (by omega), List.take_nil]
/-- a page split at ends of lines or at blanks -/
theorem page_parts {t sep : Str} (as : Asc t) (hs : sep = nlT ∨ sep = spT) : (sep.length = 1 ∧ Asc sep) ∧ (∀ y ∈ Txt.split t sep, Asc y) ∧ Txt.split t sep ≠ [] ∧ ((Txt.split t sep).map (·.length)).sum + (Txt.split t sep).length = t.length + 1 := by
  rcases hs with rfl | rfl
  · exact ⟨⟨by decide +kernel, Asc.lit (by decide)⟩, fun y hy => lines_asc as hy, lines_ne t, lines_sum t⟩
  · exact ⟨⟨by decide +kernel, Asc.lit (by decide)⟩, fun y hy => as.split hy, split_ne t, words_sum t⟩
theorem join_len0 (ys : List Str) : (Txt.join (Str.ofString "") ys).length ≤ (ys.map (·.length)).sum := by
  have e0 : tl (Str.ofString "") = [] := by decide +kernel
  rw [join_eq, TL.len_tl, tl_join, e0]
  induction ys with
  | nil => exact Nat.zero_le _
  | cons a r ih =>
    cases r with
    | nil =>
      show (tl a).length ≤ a.length + 0
      rw [TL.len_tl]
      omega
    | cons b r =>
      show (tl a ++ ([] ++ joinL [] ((b :: r).map tl))).length ≤ a.length + ((b :: r).map (·.length)).sum
      rw [List.nil_append, List.length_append, TL.len_tl a]
      omega
theorem at_texts53 (L : List Str) {r : Int} (h0 : 0 ≤ r) (h1 : r < L.length) : ∃ u, atI (L.map V.str) r = some (.str u) ∧ u ∈ L := by
  obtain ⟨j, rfl⟩ := Int.eq_ofNat_of_zero_le h0
  have hj : j < L.length := by omega
  refine ⟨L[j], atI_nat (by rw [List.getElem?_map, List.getElem?_eq_getElem hj]; rfl), List.getElem_mem hj⟩
theorem at_sign {t : Str} (as : Asc t) {r : Int} (h0 : 0 ≤ r) (h1 : r < t.length) : ∃ c, atI t.cps.toList r = some c ∧ Asc ⟨#[c]⟩ := by
  obtain ⟨j, rfl⟩ := Int.eq_ofNat_of_zero_le h0
  have hl : t.cps.toList.length = t.length := (len_tl t).symm
  have hj : j < t.cps.toList.length := by omega
  refine ⟨t.cps.toList[j], atI_nat (List.getElem?_eq_getElem hj), fun c hc => ?_⟩
  have hc : c ∈ [t.cps.toList[j]] := hc
  rw [List.mem_singleton.mp hc]
  exact as _ (List.getElem_mem hj)
theorem cut_two (u : Str) {j k : Nat} (h : j ≤ k) : (cutS u none (some (j : Int))).length + (cutS u (some (k : Int)) none).length ≤ u.length := by
  have h1 : (cutS u none (some (j : Int))).length ≤ min j u.length := by
    rw [len_tl]
    unfold cutS
    rw [tl_mk, HT.sIx_none, HT.sIx_nat, List.length_take]
    omega
  have h2 : (cutS u (some (k : Int)) none).length ≤ u.length - min k u.length := by
    rw [len_tl]
    unfold cutS
    rw [tl_mk, HT.sIx_none, HT.sIx_nat, List.length_take]
    omega
  omega
/-- a word of a page -/
def Sm (x : Str) : Prop := Asc x ∧ x.length ≤ 42
theorem bar_free {b : Addr} {H G : Hp} {r : Addr} (B : Bar b H G) (hb : r ≠ b) (hn : G r = none) : H r = none := by
  cases e : H r with
  | none => rfl
  | some o => rw [B _ _ hb e] at hn; cases hn
section
variable {P : Program} {w : World} {K : PySem.W.Frag} {mg : Str → Option Value} {base : Heap}
def spBent53 : Sp := fun vs H Q _ => ∃ (b : Addr) (t : Str) (n : Nat), vs = [.ref b, .str t] ∧ PotAt H b n ∧ n ≤ 1000000 ∧ Asc t ∧ t.length ≤ 2000 ∧ t.length ≠ 0 ∧ (Txt.split (cutS t none (some (-1))) nlT).length ≤ 40 ∧ (∀ y ∈ Txt.split (cutS t none (some (-1))) nlT, ∃ a b, Txt.split y spT = [a, b] ∧ a.length ≤ 42 ∧ b.length ≤ 42) ∧ ∀ (H' : Hp) (u : Str) (m : Nat), m ≤ n + 20 → PotAt H' b m → Bar b H H' → Asc u → u.length ≤ 5000 → Q (.str u) H'
theorem ok_bent53 (T : Tx K mg) : FnOk P w K mg base CX0 2 T.f__law_bent T.d__law_bent ["fount", "page"] spBent53 := by
  refine T.F__law_bent.ok scLawBent (fun vs H Q E h => ?_) (fun cdv A outer s0 H vs Q E hr h => ?_)
  · obtain ⟨b, t, n, rfl, _⟩ := h
    rfl
  · obtain ⟨b, t, n, rfl, hb, hn, as, lt, l0, fewM, hM, k⟩ := h
    have nd := scLawBent.nd
    refine ⟨_, (pss_cons (ps_set (i := 2) nd rfl (.inl rfl) (pe_call (ok_sip T) (hr.mono (by omega)) (by rfl) T.g__law_sip T.F__law_sip.kp T.b__law_sip .nil pass0 (pa_cons (pv 0) (pa_cons pe_int pa_nil))))
(pss_cons (ps_set (i := 3) nd rfl (.inl rfl) (pe_ifExp (pt_cmpR op_lt (pv 2) pe_int (nomark _)) pe_str pe_str))
(pss_cons (ps_set (i := 4) nd rfl (.inl rfl) (pe_bm PySem.F.plainAttrs_str PySem.F.slot_str_split PySem.F.type_str_split mt_split (pv 1) (pa_cons (pv 3) pa_nil)))
(pss_cons (ps_set (i := 5) nd rfl (.inl rfl) (pe_call (ok_sip T) (hr.mono (by omega)) (by rfl) T.g__law_sip T.F__law_sip.kp T.b__law_sip .nil pass0 (pa_cons (pv 0) (pa_cons (pe_callB call_len_seq (by rfl) T.n_len PySem.boot_len (pa_cons (pv 4) pa_nil)) pa_nil))))
(pss_cons (ps_par (i := 6) (j := 7) rfl nd rfl rfl (by decide) rfl rfl (pa_cons (pe_slice sl_list (pv 4) po_none (po_some (pv 5))) (pa_cons (pe_slice sl_list (pv 4) (po_some (pv 5)) po_none) pa_nil)) (by rfl))
(pss_cons (ps_if (pt_cmpR op_in_seq (pv 2) (pe_tup (pa_cons pe_int (pa_cons pe_int pa_nil))) (by rfl))
(pss_one (ps_ret (pe_bm PySem.F.plainAttrs_str PySem.F.slot_str_join PySem.F.type_str_join mt_join (pv 3) (pa_cons (pe_op op_cat (pv 6) (pe_slice sl_list (pv 7) (po_some pe_int) po_none)) pa_nil)))) pss_nil)
(pss_cons (ps_if (pt_cmpR op_in_seq (pv 2) (pe_tup (pa_cons pe_int (pa_cons pe_int pa_nil))) (by rfl))
(pss_one (ps_ret (pe_bm PySem.F.plainAttrs_str PySem.F.slot_str_join PySem.F.type_str_join mt_join (pv 3) (pa_cons (pe_op op_cat (pe_op op_cat (pv 6) (pe_slice sl_list (pv 7) po_none (po_some pe_int))) (pv 7)) pa_nil)))) pss_nil)
(pss_cons (ps_if (pt_cmpR op_eq (pv 2) pe_int (nomark _))
(pss_one (ps_ret (pe_bm PySem.F.plainAttrs_str PySem.F.slot_str_join PySem.F.type_str_join mt_join (pv 3) (pa_cons (pe_op op_cat (pe_op op_cat (pv 6) (pe_revL (pe_slice sl_list (pv 7) po_none (po_some pe_int)))) (pe_slice sl_list (pv 7) (po_some pe_int) po_none)) pa_nil)))) pss_nil)
(pss_cons (ps_if (pt_cmpR op_eq (pv 2) pe_int (nomark _))
(pss_cons (ps_setLc (i := 8) (own := [("line", 15)]) (g := gName 15) (tt := tYes) (te := (tBM K "str" rSplit (tVar 15) (tCons (tC (.str " ")) tNil))) (by rfl) nd rfl rfl (sw_true rfl rfl rfl (by decide +kernel)) (pi_list (pe_bm PySem.F.plainAttrs_str PySem.F.slot_str_split PySem.F.type_str_split mt_split (pe_slice sl_str (pv 1) po_none (po_some (pe_un un_neg pe_int))) (pa_cons pe_str pa_nil)))
(blkOk_by (N := ["fount", "page", "way", "between", "items", "at", "head", "tail", "rows", "row", "some", "signs", "turn", "spot", "sign", "line", "one"]) (sc := defScope sLawBent) (by decide +kernel)) (fun _ _ _ _ _ => (pg_name (i := 15) nd rfl (.inl rfl))) (fun _ _ _ _ _ => pts_nil) (fun _ _ _ _ _ => (pe_bm PySem.F.plainAttrs_str PySem.F.slot_str_split PySem.F.type_str_split mt_split (pv 15) (pa_cons pe_str pa_nil))))
(pss_cons (ps_set (i := 9) nd rfl (.inl rfl) (pe_ix ix_list (pv 8) (pe_call (ok_sip T) (hr.mono (by omega)) (by rfl) T.g__law_sip T.F__law_sip.kp T.b__law_sip .nil pass0 (pa_cons (pv 0) (pa_cons (pe_callB call_len_seq (by rfl) T.n_len PySem.boot_len (pa_cons (pv 8) pa_nil)) pa_nil))) (fun _ _ => rfl)))
(pss_cons (ps_set (i := 10) nd rfl (.inl rfl) (pe_lst (pa_cons pe_str (pa_cons pe_str (pa_cons pe_str (pa_cons pe_str (pa_cons pe_str (pa_cons pe_str (pa_cons pe_str (pa_cons pe_str (pa_cons pe_str (pa_cons (pe_op op_repS pe_str pe_int) (pa_cons (pe_op op_repS pe_str pe_int) (pa_cons (pe_op op_add_str pe_str (pe_op op_repS pe_str pe_int)) (pa_cons pe_str (pa_cons pe_str pa_nil))))))))))))))))
(pss_cons (ps_asg (pe_ix ix_list (pv 10) (pe_call (ok_sip T) (hr.mono (by omega)) (by rfl) T.g__law_sip T.F__law_sip.kp T.b__law_sip .nil pass0 (pa_cons (pv 0) (pa_cons pe_int pa_nil))) (fun _ _ => rfl)) (pg_sub (pv 9) (pe_call (ok_sip T) (hr.mono (by omega)) (by rfl) T.g__law_sip T.F__law_sip.kp T.b__law_sip .nil pass0 (pa_cons (pv 0) (pa_cons pe_int pa_nil))) set_list))
(pss_one (ps_ret (pe_bm PySem.F.plainAttrs_str PySem.F.slot_str_join PySem.F.type_str_join mt_join pe_str (pa_cons (pe_lc (own := [("one", 16)]) (g := gName 16) (tt := tYes) (te := (tOp rAdd53 (tBM K "str" (rJoin53 K) (tC (.str " ")) (tCons (tVar 16) tNil)) (tC (.str "\n")))) rfl nd (pi_list (pv 8))
(blkOk_by (N := ["fount", "page", "way", "between", "items", "at", "head", "tail", "rows", "row", "some", "signs", "turn", "spot", "sign", "line", "one"]) (sc := defScope sLawBent) (by decide +kernel)) (fun _ _ _ _ _ => (pg_name (i := 16) nd rfl (.inl rfl))) (fun _ _ _ _ _ => pts_nil) (fun _ _ _ _ _ => (pe_op op_add_str (pe_bm PySem.F.plainAttrs_str PySem.F.slot_str_join PySem.F.type_str_join mt_join pe_str (pa_cons (pv 16) pa_nil)) pe_str))) pa_nil)))))))) pss_nil)
(pss_cons (ps_set (i := 11) nd rfl (.inl rfl) pe_str)
(pss_cons (ps_set (i := 11) nd rfl (.inl rfl) (pe_ix ix_list (pe_lst (pa_cons (pe_op op_add_str (pv 11) pe_str) (pa_cons pe_str pa_nil))) (pe_call (ok_sip T) (hr.mono (by omega)) (by rfl) T.g__law_sip T.F__law_sip.kp T.b__law_sip .nil pass0 (pa_cons (pv 0) (pa_cons pe_int pa_nil))) (fun _ _ => rfl)))
(pss_cons (ps_for PassesOwn.never rfl (pi_range1 (by rfl) T.n_range (pa_cons (pe_op op_add pe_int (pe_call (ok_sip T) (hr.mono (by omega)) (by rfl) T.g__law_sip T.F__law_sip.kp T.b__law_sip .nil pass0 (pa_cons (pv 0) (pa_cons pe_int pa_nil)))) pa_nil)) (pg_name (i := 12) nd rfl (.inl rfl))
(pss_cons (ps_set (i := 13) nd rfl (.inl rfl) (pe_call (ok_sip T) (hr.mono (by omega)) (by rfl) T.g__law_sip T.F__law_sip.kp T.b__law_sip .nil pass0 (pa_cons (pv 0) (pa_cons (pe_op op_add (pe_callB call_len_str (by rfl) T.n_len PySem.boot_len (pa_cons (pv 1) pa_nil)) pe_int) pa_nil))))
(pss_cons (ps_set (i := 14) nd rfl (.inl rfl) (pe_ix ix_list (pe_lst (pa_cons (pe_ix ix_str (pv 11) (pe_call (ok_sip T) (hr.mono (by omega)) (by rfl) T.g__law_sip T.F__law_sip.kp T.b__law_sip .nil pass0 (pa_cons (pv 0) (pa_cons (pe_callB call_len_str (by rfl) T.n_len PySem.boot_len (pa_cons (pv 11) pa_nil)) pa_nil))) (fun _ _ => rfl)) (pa_cons pe_str pa_nil))) (pe_op op_fdiv (pe_call (ok_sip T) (hr.mono (by omega)) (by rfl) T.g__law_sip T.F__law_sip.kp T.b__law_sip .nil pass0 (pa_cons (pv 0) (pa_cons pe_int pa_nil))) pe_int) (fun _ _ => rfl)))
(pss_one (ps_set (i := 1) nd rfl (.inl rfl) (pe_op op_add_str (pe_op op_add_str (pe_slice sl_str (pv 1) po_none (po_some (pv 13))) (pv 14)) (pe_slice sl_str (pv 1) (po_some (pe_op op_add (pv 13) (pe_call (ok_sip T) (hr.mono (by omega)) (by rfl) T.g__law_sip T.F__law_sip.kp T.b__law_sip .nil pass0 (pa_cons (pv 0) (pa_cons pe_int pa_nil))))) po_none)))))))
(pss_one (ps_ret (pv 1))))))))))))))), ?_⟩
    have big : 20000 ≤ sizeLine := (by decide)
    refine ⟨.ref b, rfl, b, 8, n, rfl, by decide, by decide, hb, by omega, fun r1 H1 a1 b1 k1 B1 O1 => ?_⟩
    obtain ⟨way, rfl⟩ := Int.eq_ofNat_of_zero_le a1
    refine ⟨.int (way : Int), rfl, _, _, rfl, rfl, _, rfl, ite_sep fun sep hsep => ?_⟩
    obtain ⟨⟨ls, asS⟩, asp, ne, sum⟩ := page_parts as hsep
    obtain ⟨L, eL⟩ : ∃ L, L = Txt.split t sep := ⟨_, rfl⟩
    refine ⟨.str t, rfl, rfl, .str sep, rfl, t, sep, rfl, rfl, by rw [ls]; rfl, by omega, fun l nl => ?_⟩
    rw [← eL] at asp ne sum ⊢
    have sl := same_new (o := .lst (L.map V.str)) nl
    have el : upd H1 l (.lst (L.map V.str)) l = some (.lst (L.map V.str)) := upd_same
    have k2 := k1.same sl
    have lb : l ≠ b := k1.some nl
    have B2 := B1.trans (Same.bar (b := b) sl)
    generalize upd H1 l (.lst (L.map V.str)) = H2 at sl el k2 B2 ⊢
    have pos : 0 < L.length := List.length_pos_iff.mpr ne
    have fewL : L.length ≤ 2001 := by omega
    refine ⟨.ref b, rfl, .ref l, rfl, l, _, rfl, .inl (.inl (.inl el)), b, _, n + 1, rfl, by rw [List.length_map]; omega, by rw [List.length_map]; omega, k2, by omega, fun r3 H3 a3 b3 k3 B3 O3 => ?_⟩
    obtain ⟨at_, rfl⟩ := Int.eq_ofNat_of_zero_le a3
    rw [List.length_map] at b3
    have el3 := B3 _ _ lb el
    have B13 := B2.trans B3
    clear k1 k2 el sl B1 B2 B3 O1 O3 nl eL
    refine ⟨.ref l, rfl, .int (at_ : Int), rfl, (at_ : Int), rfl, l, _, rfl, .inl (.inl el3), fun h nh => ?_⟩
    have sh := same_new (o := .lst (cutV (L.map V.str) none (some (at_ : Int)))) nh
    have el4 := sh _ _ el3
    refine ⟨.ref l, rfl, .int (at_ : Int), rfl, (at_ : Int), rfl, l, _, rfl, .inl (.inl el4), fun g ng => ?_⟩
    have sg := same_new (o := .lst (cutV (L.map V.str) (some (at_ : Int)) none)) ng
    have eh : upd (upd H3 h (.lst (cutV (L.map V.str) none (some (at_ : Int))))) g (.lst (cutV (L.map V.str) (some (at_ : Int)) none)) h = some (.lst ((L.take at_).map V.str)) := by
      rw [sg _ _ upd_same, cutV_to, List.map_take]
    have eg : upd (upd H3 h (.lst (cutV (L.map V.str) none (some (at_ : Int))))) g (.lst (cutV (L.map V.str) (some (at_ : Int)) none)) g = some (.lst ((L.drop at_).map V.str)) := by
      rw [upd_same, cutV_from, List.map_drop]
    have k4 := (k3.same sh).same sg
    have B4 := B13.trans ((Same.bar (b := b) sh).trans (Same.bar (b := b) sg))
    generalize upd (upd H3 h (.lst (cutV (L.map V.str) none (some (at_ : Int))))) g (.lst (cutV (L.map V.str) (some (at_ : Int)) none)) = H4 at eh eg k4 B4 ⊢
    clear sh sg nh ng el3 el4 B13 k3 lb
    refine ⟨.ref h, .ref g, rfl, ?_⟩
    refine ⟨.int (way : Int), rfl, (by show 2 ≤ sizeLine; decide), fun t1 n1 => ⟨t1, [V.int 0, .int 3], rfl, .inr (.inl (.inl upd_same)), rfl, rfl, _, rfl, ?_⟩⟩
    have s1 := same_new (o := .tup [V.int 0, .int 3]) n1
    have eh1 := s1 _ _ eh
    have eg1 := s1 _ _ eg
    have k5 := k4.same s1
    have B5 := B4.trans (Same.bar (b := b) s1)
    generalize upd H4 t1 (.tup [V.int 0, .int 3]) = H5 at eh1 eg1 k5 B5 ⊢
    clear s1 n1 eh eg k4 B4
    have fin : ∀ (ys : List Str) (H' : Hp), Bar b H H' → PotAt H' b (n + 2) → (∀ y ∈ ys, y ∈ L) → (ys.map (·.length)).sum + ys.length ≤ 4100 → Q (.str (Txt.join sep ys)) H' := fun ys H' B kk sub le => by
      refine k H' _ (n + 2) (by omega) kk B (Asc.joined asS fun y hy => asp y (sub y hy)) ?_
      have := joined_le ls ys
      omega
    cases hw : inV (.int (way : Int)) [V.int 0, .int 3] with
    | true =>
      refine iteT ⟨.str sep, rfl, rfl, .ref h, rfl, .ref g, rfl, 1, rfl, g, _, rfl, .inl (.inl eg1), fun c nc => ?_⟩
      have sc := same_new (o := .lst (cutV ((L.drop at_).map V.str) (some 1) none)) nc
      have eh2 := sc _ _ eh1
      have ec : upd H5 c (.lst (cutV ((L.drop at_).map V.str) (some 1) none)) c = some (.lst (((L.drop at_).drop 1).map V.str)) := by
        rw [upd_same, cutV_tail, List.map_drop (i := 1)]
      generalize upd H5 c (.lst (cutV ((L.drop at_).map V.str) (some 1) none)) = H6 at sc eh2 ec ⊢
      have w1 := wt_split L at_
      have w2 := wt_drop (L.drop at_) 1
      have wl : wt L = t.length + 1 := sum
      have n1 := wt_len (L.take at_)
      have n2 := wt_len ((L.drop at_).drop 1)
      refine ⟨h, c, _, _, rfl, rfl, eh2, ec, by rw [List.length_map, List.length_map]; omega, fun m nm => ?_⟩
      have sm := same_new (o := .lst ((L.take at_).map V.str ++ ((L.drop at_).drop 1).map V.str)) nm
      have w3 := wt_app (L.take at_) ((L.drop at_).drop 1)
      refine ⟨sep, m, L.take at_ ++ (L.drop at_).drop 1, rfl, rfl, .inl (.inl (.inl (by rw [upd_same, List.map_append]))), ?_, fin _ _ (B5.trans ((Same.bar (b := b) sc).trans (Same.bar (b := b) sm))) ((k5.same sc).same sm) (fun y hy => ?_) ?_⟩
      · rw [ls, Nat.mul_one]
        show wt (L.take at_ ++ (L.drop at_).drop 1) ≤ _
        omega
      · rcases List.mem_append.mp hy with z | z
        · exact List.mem_of_mem_take z
        · exact List.mem_of_mem_drop (List.mem_of_mem_drop z)
      · show wt (L.take at_ ++ (L.drop at_).drop 1) ≤ _
        omega
    | false =>
      refine iteF ⟨.int (way : Int), rfl, (by show 2 ≤ sizeLine; decide), fun t2 n2 => ⟨t2, [V.int 1, .int 4], rfl, .inr (.inl (.inl upd_same)), rfl, rfl, _, rfl, ?_⟩⟩
      have s2 := same_new (o := .tup [V.int 1, .int 4]) n2
      have eh2 := s2 _ _ eh1
      have eg2 := s2 _ _ eg1
      have k6 := k5.same s2
      have B6 := B5.trans (Same.bar (b := b) s2)
      generalize upd H5 t2 (.tup [V.int 1, .int 4]) = H6 at eh2 eg2 k6 B6 ⊢
      clear s2 n2 eh1 eg1 k5 B5 hw
      have w1 := wt_split L at_
      have wl : wt L = t.length + 1 := sum
      have n1 := wt_len (L.take at_)
      have nD := wt_len (L.drop at_)
      cases hw2 : inV (.int (way : Int)) [V.int 1, .int 4] with
      | true =>
        refine iteT ⟨.str sep, rfl, rfl, .ref h, rfl, .ref g, rfl, 1, rfl, g, _, rfl, .inl (.inl eg2), fun c nc => ?_⟩
        have sc := same_new (o := .lst (cutV ((L.drop at_).map V.str) none (some 1))) nc
        have eh3 := sc _ _ eh2
        have eg3 := sc _ _ eg2
        have ec : upd H6 c (.lst (cutV ((L.drop at_).map V.str) none (some 1))) c = some (.lst (((L.drop at_).take 1).map V.str)) := by
          have e := cutV_to ((L.drop at_).map V.str) 1
          have e : cutV ((L.drop at_).map V.str) none (some 1) = ((L.drop at_).map V.str).take 1 := e
          rw [upd_same, e, List.map_take]
        generalize upd H6 c (.lst (cutV ((L.drop at_).map V.str) none (some 1))) = H7 at sc eh3 eg3 ec ⊢
        have w2 := wt_take (L.drop at_) 1
        have n2 := wt_len ((L.drop at_).take 1)
        refine ⟨h, c, _, _, rfl, rfl, eh3, ec, by rw [List.length_map, List.length_map]; omega, fun m nm => ?_⟩
        have sm := same_new (o := .lst ((L.take at_).map V.str ++ ((L.drop at_).take 1).map V.str)) nm
        have w3 := wt_app (L.take at_) ((L.drop at_).take 1)
        have w4 := wt_app (L.take at_ ++ (L.drop at_).take 1) (L.drop at_)
        refine ⟨.ref g, rfl, m, g, _, _, rfl, rfl, upd_same, sm _ _ eg3, by rw [List.length_append, List.length_map, List.length_map, List.length_map]; omega, fun m2 nm2 => ?_⟩
        have sm2 := same_new (o := .lst ((L.take at_).map V.str ++ ((L.drop at_).take 1).map V.str ++ (L.drop at_).map V.str)) nm2
        refine ⟨sep, m2, L.take at_ ++ (L.drop at_).take 1 ++ L.drop at_, rfl, rfl, .inl (.inl (.inl (by rw [upd_same, List.map_append, List.map_append]))), ?_, fin _ _ (B6.trans ((Same.bar (b := b) sc).trans ((Same.bar (b := b) sm).trans (Same.bar (b := b) sm2)))) (((k6.same sc).same sm).same sm2) (fun y hy => ?_) ?_⟩
        · rw [ls, Nat.mul_one]
          show wt (L.take at_ ++ (L.drop at_).take 1 ++ L.drop at_) ≤ _
          omega
        · rcases List.mem_append.mp hy with z | z
          · rcases List.mem_append.mp z with z | z
            · exact List.mem_of_mem_take z
            · exact List.mem_of_mem_drop (List.mem_of_mem_take z)
          · exact List.mem_of_mem_drop z
        · show wt (L.take at_ ++ (L.drop at_).take 1 ++ L.drop at_) ≤ _
          omega
      | false =>
        refine iteF ⟨.int (way : Int), rfl, rfl, _, rfl, ?_⟩
        by_cases way2 : way = 2
        · rw [decide_eq_true (by rw [way2]; rfl)]
          refine iteT ⟨.str sep, rfl, rfl, .ref h, rfl, .ref g, rfl, 2, rfl, g, _, rfl, .inl (.inl eg2), fun c nc => ?_⟩
          have sc := same_new (o := .lst (cutV ((L.drop at_).map V.str) none (some 2))) nc
          have eh3 := sc _ _ eh2
          have eg3 := sc _ _ eg2
          have ec : upd H6 c (.lst (cutV ((L.drop at_).map V.str) none (some 2))) c = some (.lst (((L.drop at_).take 2).map V.str)) := by
            have e : cutV ((L.drop at_).map V.str) none (some 2) = ((L.drop at_).map V.str).take 2 := cutV_to ((L.drop at_).map V.str) 2
            rw [upd_same, e, List.map_take]
          generalize upd H6 c (.lst (cutV ((L.drop at_).map V.str) none (some 2))) = H7 at sc eh3 eg3 ec ⊢
          refine ⟨c, _, rfl, .inl (.inl ec), fun v nv => ?_⟩
          have sv := same_new (o := .lst (((L.drop at_).take 2).map V.str).reverse) nv
          have ev : upd H7 v (.lst (((L.drop at_).take 2).map V.str).reverse) v = some (.lst (((L.drop at_).take 2).reverse.map V.str)) := by
            rw [upd_same, List.map_reverse]
          have eh4 := sv _ _ eh3
          have eg4 := sv _ _ eg3
          generalize upd H7 v (.lst (((L.drop at_).take 2).map V.str).reverse) = H8 at sv ev eh4 eg4 ⊢
          have w2 := wt_split (L.drop at_) 2
          have wr : wt ((L.drop at_).take 2).reverse = wt ((L.drop at_).take 2) := wt_rev _
          have n2 := wt_len ((L.drop at_).take 2).reverse
          refine ⟨h, v, _, _, rfl, rfl, eh4, ev, by rw [List.length_map, List.length_map]; omega, fun m nm => ?_⟩
          have sm := same_new (o := .lst ((L.take at_).map V.str ++ ((L.drop at_).take 2).reverse.map V.str)) nm
          refine ⟨.ref g, rfl, 2, rfl, g, _, rfl, .inl (.inl (sm _ _ eg4)), fun e ne2 => ?_⟩
          have se := same_new (o := .lst (cutV ((L.drop at_).map V.str) (some 2) none)) ne2
          have em := se _ _ (upd_same (H := H8) (a := m) (o := .lst ((L.take at_).map V.str ++ ((L.drop at_).take 2).reverse.map V.str)))
          have ee : upd (upd H8 m (.lst ((L.take at_).map V.str ++ ((L.drop at_).take 2).reverse.map V.str))) e (.lst (cutV ((L.drop at_).map V.str) (some 2) none)) e = some (.lst (((L.drop at_).drop 2).map V.str)) := by
            have q : cutV ((L.drop at_).map V.str) (some 2) none = ((L.drop at_).map V.str).drop 2 := cutV_from ((L.drop at_).map V.str) 2
            rw [upd_same, q]
            exact congrArg (fun z => some (HO.lst z)) List.map_drop.symm
          have w3 := wt_app (L.take at_) ((L.drop at_).take 2).reverse
          have w4 := wt_app (L.take at_ ++ ((L.drop at_).take 2).reverse) ((L.drop at_).drop 2)
          have n3 := wt_len ((L.drop at_).drop 2)
          refine ⟨m, e, _, _, rfl, rfl, em, ee, by rw [List.length_append, List.length_map, List.length_map, List.length_map]; omega, fun m2 nm2 => ?_⟩
          have sm2 := same_new (o := .lst ((L.take at_).map V.str ++ ((L.drop at_).take 2).reverse.map V.str ++ ((L.drop at_).drop 2).map V.str)) nm2
          refine ⟨sep, m2, L.take at_ ++ ((L.drop at_).take 2).reverse ++ (L.drop at_).drop 2, rfl, rfl, .inl (.inl (.inl (by rw [upd_same, List.map_append, List.map_append]))), ?_, fin _ _ (B6.trans ((Same.bar (b := b) sc).trans ((Same.bar (b := b) sv).trans ((Same.bar (b := b) sm).trans ((Same.bar (b := b) se).trans (Same.bar (b := b) sm2)))))) (((((k6.same sc).same sv).same sm).same se).same sm2) (fun y hy => ?_) ?_⟩
          · rw [ls, Nat.mul_one]
            show wt (L.take at_ ++ ((L.drop at_).take 2).reverse ++ (L.drop at_).drop 2) ≤ _
            omega
          · rcases List.mem_append.mp hy with z | z
            · rcases List.mem_append.mp z with z | z
              · exact List.mem_of_mem_take z
              · exact List.mem_of_mem_drop (List.mem_of_mem_take (List.mem_reverse.mp z))
            · exact List.mem_of_mem_drop (List.mem_of_mem_drop z)
          · show wt (L.take at_ ++ ((L.drop at_).take 2).reverse ++ (L.drop at_).drop 2) ≤ _
            omega
        · rw [decide_eq_false fun z => way2 (by have := V.int.inj z; omega)]
          refine iteF ?_
          refine ⟨.int (way : Int), rfl, rfl, _, rfl, ?_⟩
          by_cases way5 : way = 5
          · rw [decide_eq_true (by rw [way5]; rfl)]
            refine iteT ?_
            refine ⟨.str t, rfl, 1, rfl, -1, rfl, t, rfl, by omega, rfl, cutS t none (some (-1)), nlT, rfl, rfl, by decide +kernel, by have := cutS_length t none (some (-1)); omega, fun l nl => ?_⟩
            have ascM : ∀ y ∈ Txt.split (cutS t none (some (-1))) nlT, Asc y := fun y hy => lines_asc (Asc.cut as _ _) hy
            have neM : Txt.split (cutS t none (some (-1))) nlT ≠ [] := lines_ne _
            have lenM : ∀ y ∈ Txt.split (cutS t none (some (-1))) nlT, y.length ≤ 2000 := fun y hy => by
              have h1 := lines_len hy
              have h2 := cutS_length t none (some (-1))
              omega
            obtain ⟨M, eM⟩ : ∃ M, M = Txt.split (cutS t none (some (-1))) nlT := ⟨_, rfl⟩
            rw [← eM] at fewM hM ascM neM lenM ⊢
            have posM : 0 < M.length := List.length_pos_iff.mpr neM
            have sl := same_new (o := .lst (M.map V.str)) nl
            have el : (upd H6 l (.lst (M.map V.str))) l = some (.lst (M.map V.str)) := upd_same
            have k7 := k6.same sl
            have B7 := B6.trans (Same.bar (b := b) sl)
            generalize upd H6 l (.lst (M.map V.str)) = H7 at sl el k7 B7 ⊢
            clear sl nl eh2 eg2 k6 B6 fin w1 n1 nD eM
            refine ⟨l, rfl, ⟨_, .inl (.inl el)⟩, fun D nD => ?_⟩
            have Db : D ≠ b := k7.some nD
            refine lc_list (xs := M.map V.str) (fun i G => Same H7 G ∧ ∃ rs : List Addr, G D = some (.lst (rs.map V.ref)) ∧ rs.length = i ∧ (∀ r ∈ rs, r ≠ D ∧ r ≠ b ∧ H r = none ∧ ∃ x y, G r = some (.lst [.str x, .str y]) ∧ Sm x ∧ Sm y)) ⟨same_new nD, [], upd_same, rfl, fun r h => (by cases h)⟩ (fun i G _ p1 => .inl (.inl (p1.1 _ _ el))) (fun i x G ex p1 => ?_) (fun G p1 => ?_)
            · obtain ⟨sG, rs, eD, lrs, inR⟩ := p1
              rw [List.getElem?_map] at ex
              cases ey : M[i]? with
              | none => rw [ey] at ex; cases ex
              | some y =>
                rw [ey] at ex
                cases ex
                have hi := (List.getElem?_eq_some_iff.mp ey).1
                have my := List.mem_of_getElem? ey
                have ly := lenM y my
                obtain ⟨u, v, euv, lu, lv⟩ := hM y my
                refine ⟨rfl, tyes_if ⟨.str y, rfl, rfl, y, spT, rfl, rfl, by decide +kernel, by omega, fun r nr => ?_⟩⟩
                have au : Asc u := (ascM y my).split (by rw [euv]; simp)
                have av : Asc v := (ascM y my).split (by rw [euv]; simp)
                rw [euv]
                have sr := same_new (o := .lst ([u, v].map V.str)) nr
                have eD2 := sr _ _ eD
                have rD : r ≠ D := Ne.symm (ne_of_none eD nr)
                have kG := k7.same sG
                have rb : r ≠ b := kG.some nr
                have rH : H r = none := bar_free (B7.trans (Same.bar (b := b) sG)) rb nr
                have er : (upd G r (.lst ([u, v].map V.str))) r = some (.lst [.str u, .str v]) := upd_same
                generalize upd G r (.lst ([u, v].map V.str)) = G2 at sr eD2 er ⊢
                refine ⟨_, eD2, ?_, fun c o hc => ?_, rs ++ [r], ?_, ?_, fun c hc => ?_⟩
                · rw [List.length_map]
                  exact Nat.lt_of_lt_of_le (by omega : rs.length < 20000) big
                · rw [upd_ne (ne_of_none hc nD)]
                  exact sr _ _ (sG _ _ hc)
                · rw [upd_same, List.map_append]
                  rfl
                · rw [List.length_append, lrs]
                  rfl
                · rcases List.mem_append.mp hc with z | z
                  · obtain ⟨c1, c2, c3, x, y, c4, c5⟩ := inR c z
                    refine ⟨c1, c2, c3, x, y, ?_, c5⟩
                    rw [upd_ne c1]
                    exact sr _ _ c4
                  · rw [List.mem_singleton.mp z]
                    exact ⟨rD, rb, rH, u, v, (upd_ne rD).trans er, ⟨au, lu⟩, av, lv⟩
            obtain ⟨sG, rs, eD, lrs, inR⟩ := p1
            rw [List.length_map] at lrs
            have k8 := k7.same sG
            have B8 := B7.trans (Same.bar (b := b) sG)
            clear sG el nD k7 B7
            refine ⟨.ref D, rfl, .ref b, rfl, .ref D, rfl, D, _, rfl, .inl (.inl (.inl eD)), b, _, n + 2, rfl, by rw [List.length_map]; omega, by rw [List.length_map]; omega, k8, by omega, fun r1 H9 a1 b1 k9 B9 O9 => ?_⟩
            obtain ⟨j1, rfl⟩ := Int.eq_ofNat_of_zero_le a1
            rw [List.length_map] at b1
            have hj1 : j1 < rs.length := by omega
            obtain ⟨row, erow⟩ : ∃ row, rs[j1]? = some row := ⟨_, List.getElem?_eq_getElem hj1⟩
            have mrow := List.mem_of_getElem? erow
            obtain ⟨rowD, rowb, rowH, u, v, euv, smu, smv⟩ := inR row mrow
            have eD9 := B9 _ _ Db eD
            have euv9 := B9 _ _ rowb euv
            refine ⟨D, _, (j1 : Int), .ref row, rfl, rfl, .inl (.inl eD9), atI_nat (by rw [List.getElem?_map, erow]; rfl), ?_⟩
            have inR9 : ∀ r ∈ rs, r ≠ D ∧ r ≠ b ∧ H r = none ∧ ∃ x y, H9 r = some (.lst [.str x, .str y]) ∧ Sm x ∧ Sm y := fun r hr => by
              obtain ⟨c1, c2, c3, x, y, c4, c5⟩ := inR r hr
              exact ⟨c1, c2, c3, x, y, B9 _ _ c2 c4, c5⟩
            have B19 := B8.trans B9
            clear inR eD euv k8 B8 B9 O9
            refine ⟨Str.ofString "9", 40, rfl, rfl, by decide, by decide, by decide +kernel, Str.ofString "9", 41, rfl, rfl, by decide, by decide, by decide +kernel, Str.ofString "9", 41, rfl, rfl, by decide, by decide, by decide +kernel, _, _, rfl, rfl, by decide +kernel, (by show 14 ≤ sizeLine; decide), fun lS nS => ?_⟩
            obtain ⟨ws, ews, asw⟩ : ∃ ws : List Str, ws = [Str.ofString "00", Str.ofString "-0", Str.ofString "+1", Str.ofString "1_0", Str.ofString "01", Str.ofString "", Str.ofString "shop", Str.ofString "1.0", Str.ofString "-", repS (Str.ofString "9") 40, repS (Str.ofString "9") 41, Str.ofString "-" ++ repS (Str.ofString "9") 41, Str.ofString "39", Str.ofString "40"] ∧ ∀ y ∈ ws, Sm y := ⟨_, rfl, fun y hy => by
              have a9 : Asc (Str.ofString "9") := Asc.lit (by decide)
              simp only [List.mem_cons, List.not_mem_nil, or_false] at hy
              rcases hy with rfl | rfl | rfl | rfl | rfl | rfl | rfl | rfl | rfl | rfl | rfl | rfl | rfl | rfl
              iterate 9 exact ⟨Asc.lit (by decide), by decide +kernel⟩
              · exact ⟨Asc.rep a9 40, by decide +kernel⟩
              · exact ⟨Asc.rep a9 41, by decide +kernel⟩
              · exact ⟨(Asc.lit (by decide)).append (Asc.rep a9 41), by decide +kernel⟩
              all_goals exact ⟨Asc.lit (by decide), by decide +kernel⟩⟩
            have lws : ws.length = 14 := by rw [ews]; rfl
            have sS := same_new (o := .lst (ws.map V.str)) nS
            have eS : upd H9 lS (.lst (ws.map V.str)) lS = some (.lst (ws.map V.str)) := upd_same
            rw [show upd H9 lS (.lst [V.str (Str.ofString "00"), .str (Str.ofString "-0"), .str (Str.ofString "+1"), .str (Str.ofString "1_0"), .str (Str.ofString "01"), .str (Str.ofString ""), .str (Str.ofString "shop"), .str (Str.ofString "1.0"), .str (Str.ofString "-"), .str (repS (Str.ofString "9") 40), .str (repS (Str.ofString "9") 41), .str (Str.ofString "-" ++ repS (Str.ofString "9") 41), .str (Str.ofString "39"), .str (Str.ofString "40")]) = upd H9 lS (.lst (ws.map V.str)) by rw [ews]; rfl]
            have lSb : lS ≠ b := k9.some nS
            have k10 := k9.same sS
            have B10 := B19.trans (Same.bar (b := b) sS)
            have eD10 := sS _ _ eD9
            have euv10 := sS _ _ euv9
            have inR10 : ∀ r ∈ rs, r ≠ D ∧ r ≠ b ∧ H r = none ∧ ∃ x y, upd H9 lS (.lst (ws.map V.str)) r = some (.lst [.str x, .str y]) ∧ Sm x ∧ Sm y := fun r hr => by
              obtain ⟨c1, c2, c3, x, y, c4, c5⟩ := inR9 r hr
              exact ⟨c1, c2, c3, x, y, sS _ _ c4, c5⟩
            generalize upd H9 lS (.lst (ws.map V.str)) = H10 at eS k10 B10 eD10 euv10 inR10 ⊢
            clear sS nS eD9 euv9 inR9 k9 B19 ews
            refine ⟨.ref lS, rfl, .ref b, rfl, b, 14, n + 3, rfl, by decide, by decide, k10, by omega, fun r2 H11 a2 b2 k11 B11 O11 => ?_⟩
            obtain ⟨wd, ewd, hwd⟩ := at_texts53 ws a2 (by omega)
            refine ⟨lS, _, r2, .str wd, rfl, rfl, .inl (.inl (B11 _ _ lSb eS)), ewd, ?_⟩
            refine ⟨.ref row, rfl, .ref b, rfl, b, 2, n + 4, rfl, by decide, by decide, k11, by omega, fun r3 H12 a3 b3 k12 B12 O12 => ?_⟩
            obtain ⟨j3, rfl⟩ := Int.eq_ofNat_of_zero_le a3
            have j32 : j3 < 2 := by omega
            have B112 := B11.trans B12
            have eD12 := B112 _ _ Db eD10
            have euv12 := B112 _ _ rowb euv10
            have eix : ixN ([V.str u, .str v] : List V).length (j3 : Int) = some j3 := by
              unfold ixN
              show (if 0 ≤ (j3 : Int) then if (j3 : Int) < ((2 : Nat) : Int) then some (j3 : Int).toNat else none else _) = _
              rw [if_pos (by omega), if_pos (by omega)]
              rfl
            refine ⟨row, _, (j3 : Int), j3, rfl, rfl, euv12, eix, ?_⟩
            have smw := asw wd hwd
            obtain ⟨x, y, exy, smx, smy⟩ : ∃ x y : Str, ([V.str u, .str v] : List V).set j3 (.str wd) = [.str x, .str y] ∧ Sm x ∧ Sm y := by
              rcases (by omega : j3 = 0 ∨ j3 = 1) with rfl | rfl
              · exact ⟨wd, v, rfl, smw, smv⟩
              · exact ⟨u, wd, rfl, smu, smw⟩
            rw [exy]
            have k13 : PotAt (upd H12 row (.lst [V.str x, .str y])) b (n + 5) := by
              obtain ⟨x1, x2, x3, zb, wb⟩ := id k12
              exact ⟨x1, x2, x3, (upd_ne (Ne.symm rowb)).trans zb, wb⟩
            have B13 : Bar b H (upd H12 row (.lst [V.str x, .str y])) := fun a o ha h => (upd_ne (ne_of_none h rowH)).trans ((B10.trans B112) a o ha h)
            have eD13 := (upd_ne (o := .lst [V.str x, .str y]) (Ne.symm rowD)).trans eD12
            have inR13 : ∀ r ∈ rs, ∃ x2 y2, upd H12 row (.lst [V.str x, .str y]) r = some (.lst [.str x2, .str y2]) ∧ Sm x2 ∧ Sm y2 := fun r hr => by
              obtain ⟨c1, c2, c3, x3, y3, c4, c5⟩ := inR10 r hr
              by_cases z : r = row
              · rw [z]
                exact ⟨x, y, upd_same, smx, smy⟩
              · exact ⟨x3, y3, (upd_ne z).trans (B112 _ _ c2 c4), c5⟩
            generalize upd H12 row (.lst [V.str x, .str y]) = H13 at k13 B13 eD13 inR13 ⊢
            clear exy euv12 eD12 B112 euv10 inR10 eD10 B10 k12 k11 k10 B11 B12 O11 O12 eS ewd hwd eix asw lws
            refine ⟨rfl, .ref D, rfl, D, rfl, ⟨_, .inl (.inl eD13)⟩, fun D2 nD2 => ?_⟩
            refine lc_list (xs := rs.map V.ref) (fun i G => Same H13 G ∧ ∃ ys : List Str, G D2 = some (.lst (ys.map V.str)) ∧ ys.length = i ∧ ∀ y ∈ ys, Asc y ∧ y.length ≤ 90) ⟨same_new nD2, [], upd_same, rfl, fun y h => (by cases h)⟩ (fun i G _ p1 => .inl (.inl (p1.1 _ _ eD13))) (fun i x G ex p1 => ?_) (fun G p1 => ?_)
            · obtain ⟨sG, ys, eD2, lys, gys⟩ := p1
              rw [List.getElem?_map] at ex
              cases er : rs[i]? with
              | none => rw [er] at ex; cases ex
              | some r =>
                rw [er] at ex
                cases ex
                have hi := (List.getElem?_eq_some_iff.mp er).1
                obtain ⟨x2, y2, e2, ⟨ax, lx⟩, ay, ly⟩ := inR13 r (List.mem_of_getElem? er)
                have j1 := joined_le (sep := spT) (by decide +kernel) [x2, y2]
                have j2 : ([x2, y2].map (·.length)).sum + [x2, y2].length = x2.length + (y2.length + 0) + 2 := rfl
                have aj : Asc (Txt.join spT [x2, y2]) := Asc.joined (Asc.lit (s := " ") (by decide)) fun z hz => by
                  simp only [List.mem_cons, List.not_mem_nil, or_false] at hz
                  rcases hz with rfl | rfl
                  · exact ax
                  · exact ay
                have ln : nlT.length = 1 := by decide +kernel
                have ls : spT.length = 1 := by decide +kernel
                refine ⟨rfl, tyes_if ⟨rfl, .ref r, rfl, spT, r, [x2, y2], rfl, rfl, .inl (.inl (.inl (sG _ _ e2))), ?_, Txt.join spT [x2, y2], nlT, rfl, rfl, by omega, ?_⟩⟩
                · rw [ls]
                  show x2.length + (y2.length + 0) + 2 * 1 ≤ _
                  omega
                refine ⟨_, eD2, ?_, fun c o hc => ?_, ys ++ [Txt.join spT [x2, y2] ++ nlT], ?_, ?_, fun z hz => ?_⟩
                · rw [List.length_map]
                  exact Nat.lt_of_lt_of_le (by omega : ys.length < 20000) big
                · rw [upd_ne (ne_of_none hc nD2)]
                  exact sG _ _ hc
                · rw [upd_same, List.map_append]
                  rfl
                · rw [List.length_append, lys]
                  rfl
                · rcases List.mem_append.mp hz with q | q
                  · exact gys z q
                  · rw [List.mem_singleton.mp q]
                    exact ⟨aj.append (Asc.lit (s := "\n") (by decide)), by rw [Str.length_append]; omega⟩
            · obtain ⟨sG, ys, eD2, lys, gys⟩ := p1
              rw [List.length_map] at lys
              have l0 : (Str.ofString "").length = 0 := by decide +kernel
              have sm : (ys.map (·.length)).sum ≤ 40 * 90 := by
                have := sum_le (B := 90) (ys := ys) fun y h => (gys y h).2
                have m : ys.length * 90 ≤ 40 * 90 := Nat.mul_le_mul_right _ (by omega)
                omega
              refine ⟨Str.ofString "", D2, ys, rfl, rfl, .inl (.inl (.inl eD2)), by rw [l0]; omega, ?_⟩
              refine k _ _ (n + 5) (by omega) (k13.same sG) (B13.trans (Same.bar (b := b) sG)) (Asc.joined (Asc.lit (by decide)) fun y hy => (gys y hy).1) ?_
              have := join_len0 ys
              omega
          · rw [decide_eq_false fun z => way5 (by have := V.int.inj z; omega)]
            refine iteF ?_
            clear fin w1 wl n1 nD eh2 eg2
            refine ⟨.str (Str.ofString " !\"#$&'()*+,-./0123456789:;<=>?@ABCDEFGHIJKLMNOPQRSTUVWXYZ[\\]^_`"), rfl, _, _, rfl, rfl, by decide +kernel, (by show 2 ≤ sizeLine; decide), fun lS nS => ?_⟩
            obtain ⟨ws, ews, asw⟩ : ∃ ws : List Str, ws = [Str.ofString " !\"#$&'()*+,-./0123456789:;<=>?@ABCDEFGHIJKLMNOPQRSTUVWXYZ[\\]^_`" ++ Str.ofString "abcdefghijklmnopqrstuvwxyz{|}~\n", Str.ofString "0123 \n-shop"] ∧ ∀ y ∈ ws, Asc y ∧ 0 < y.length ∧ y.length ≤ 200 := ⟨_, rfl, fun y hy => by
              simp only [List.mem_cons, List.not_mem_nil, or_false] at hy
              rcases hy with rfl | rfl
              · exact ⟨(Asc.lit (by decide)).append (Asc.lit (by decide)), by decide +kernel, by decide +kernel⟩
              · exact ⟨Asc.lit (by decide), by decide +kernel, by decide +kernel⟩⟩
            have lws : ws.length = 2 := by rw [ews]; rfl
            have sS := same_new (o := .lst (ws.map V.str)) nS
            have eS : upd H6 lS (.lst (ws.map V.str)) lS = some (.lst (ws.map V.str)) := upd_same
            have lSb : lS ≠ b := k6.some nS
            have k7 := k6.same sS
            have B7 := B6.trans (Same.bar (b := b) sS)
            rw [show upd H6 lS (.lst [V.str (Str.ofString " !\"#$&'()*+,-./0123456789:;<=>?@ABCDEFGHIJKLMNOPQRSTUVWXYZ[\\]^_`" ++ Str.ofString "abcdefghijklmnopqrstuvwxyz{|}~\n"), .str (Str.ofString "0123 \n-shop")]) = upd H6 lS (.lst (ws.map V.str)) by rw [ews]; rfl]
            generalize upd H6 lS (.lst (ws.map V.str)) = H7 at eS k7 B7 ⊢
            clear sS nS k6 B6 ews
            refine ⟨.ref b, rfl, b, 2, n + 2, rfl, by decide, by decide, k7, by omega, fun r1 H8 a1 b1 k8 B8 O8 => ?_⟩
            obtain ⟨sg, esg, hsg⟩ := at_texts53 ws a1 (by omega)
            obtain ⟨asg, psg, lsg⟩ := asw sg hsg
            refine ⟨lS, _, r1, .str sg, rfl, rfl, .inl (.inl (B8 _ _ lSb eS)), esg, ?_⟩
            have B18 := B7.trans B8
            clear B7 B8 O8 k7 eS lSb esg hsg asw lws
            refine ⟨.ref b, rfl, b, 3, n + 3, rfl, by decide, by decide, k8, by omega, fun r2 H9 a2 b2 k9 B9 O9 => ?_⟩
            obtain ⟨j2, rfl⟩ := Int.eq_ofNat_of_zero_le a2
            refine ⟨_, _, rfl, rfl, (1 : Int) + (j2 : Int), rfl, by omega, by omega, ?_⟩
            rw [show ((1 : Int) + (j2 : Int)).toNat = j2 + 1 by omega]
            refine for_range (lo := 0) (n := j2 + 1) (fun i σ G => ∃ (u : Str) (y12 y13 y14 : Option V), σ = [some (.ref b), some (.str u), some (.int (way : Int)), some (.str sep), some (.ref l), some (.int (at_ : Int)), some (.ref h), some (.ref g), none, none, none, some (.str sg), y12, y13, y14, none, none] ∧ PotAt G b (n + 4 + 4 * i) ∧ Bar b H G ∧ Asc u ∧ u.length ≤ 2000 + i) ⟨t, none, none, none, rfl, k9, B18.trans B9, as, lt⟩ (fun i σ G hi p => ?_) (fun σ G p => ?_)
            · obtain ⟨u, y12, y13, y14, rfl, kG, BG, au, lu⟩ := p
              have hi3 : i ≤ 2 := by omega
              refine ⟨.ref b, rfl, .str u, rfl, u, rfl, by omega, _, _, rfl, rfl, b, _, n + 4 + 4 * i, rfl, by omega, by omega, kG, by omega, fun r1 G1 a1 b1 k1 B1 O1 => ?_⟩
              obtain ⟨sp, rfl⟩ := Int.eq_ofNat_of_zero_le a1
              refine ⟨.str sg, rfl, .ref b, rfl, .str sg, rfl, sg, rfl, by omega, b, _, n + 4 + 4 * i + 1, rfl, by omega, by omega, k1, by omega, fun r2 G2 a2 b2 k2 B2 O2 => ?_⟩
              obtain ⟨c, ec, hc⟩ := at_sign asg a2 b2
              refine ⟨sg, r2, c, rfl, rfl, by omega, ec, (by show 2 ≤ sizeLine; decide), fun lQ nQ => ?_⟩
              have sQ := same_new (o := .lst [V.str ⟨#[c]⟩, .str (Str.ofString "")]) nQ
              have eQ : upd G2 lQ (.lst [V.str ⟨#[c]⟩, .str (Str.ofString "")]) lQ = some (.lst [V.str ⟨#[c]⟩, .str (Str.ofString "")]) := upd_same
              have lQb : lQ ≠ b := k2.some nQ
              have k3 := k2.same sQ
              have B3 := BG.trans (B1.trans (B2.trans (Same.bar (b := b) sQ)))
              generalize upd G2 lQ (.lst [V.str ⟨#[c]⟩, .str (Str.ofString "")]) = G3 at eQ k3 B3 ⊢
              clear sQ nQ k2 B2 O2 k1 B1 O1 kG BG
              refine ⟨.ref b, rfl, b, 3, n + 4 + 4 * i + 2, rfl, by decide, by decide, k3, by omega, fun r3 G4 a3 b3 k4 B4 O4 => ?_⟩
              refine ⟨_, 2, rfl, rfl, ⟨by decide, by decide⟩, ?_⟩
              obtain ⟨z, ez, az, lz⟩ : ∃ z : Str, atI [V.str ⟨#[c]⟩, .str (Str.ofString "")] (r3 / 2) = some (.str z) ∧ Asc z ∧ z.length ≤ 1 := by
                rcases (by omega : r3 / 2 = 0 ∨ r3 / 2 = 1) with e | e
                · rw [e]
                  exact ⟨_, rfl, hc, Nat.le_refl _⟩
                · rw [e]
                  exact ⟨_, rfl, Asc.lit (by decide), by decide +kernel⟩
              refine ⟨lQ, _, r3 / 2, .str z, rfl, rfl, .inl (.inl (B4 _ _ lQb eQ)), ez, ?_⟩
              have l1 := cutS_length u none (some (sp : Int))
              refine ⟨.str u, rfl, .int (sp : Int), rfl, (sp : Int), rfl, u, rfl, by omega, .str z, rfl, _, _, rfl, rfl, by omega, ?_⟩
              refine ⟨.str u, rfl, .int (sp : Int), rfl, .ref b, rfl, b, 2, n + 4 + 4 * i + 3, rfl, by decide, by decide, k4, by omega, fun r4 G5 a4 b4 k5 B5 O5 => ?_⟩
              obtain ⟨j4, rfl⟩ := Int.eq_ofNat_of_zero_le a4
              refine ⟨_, _, rfl, rfl, ((sp : Int) + (j4 : Int)), rfl, u, rfl, by omega, ?_⟩
              rw [show (sp : Int) + (j4 : Int) = ((sp + j4 : Nat) : Int) by omega]
              have l2 := cut_two u (Nat.le_add_right sp j4)
              refine ⟨_, _, rfl, rfl, by rw [Str.length_append]; omega, ?_⟩
              exact ⟨_, _, _, _, rfl, k5, B3.trans (B4.trans B5), ((Asc.cut au _ _).append az).append (Asc.cut au _ _), by rw [Str.length_append, Str.length_append]; omega⟩
            · obtain ⟨u, y12, y13, y14, rfl, kG, BG, au, lu⟩ := p
              exact ⟨.str u, rfl, k _ u _ (by omega) kG BG au (by omega)⟩
end
end PT


set_option maxHeartbeats 4000000
/-! a live plant made with no stock -/
namespace PT
open PySem PySem.Spec PyProof.Rows L2 LamX NdefX
/-- each box has its station's number -/
def ownS (n : Nat) : List Int := (List.range n).map fun i : Nat => (i : Int)
theorem ownS_rg (n : Nat) : rgV 0 (n : Int) = (ownS n).map V.int := by
  unfold rgV ownS
  rw [List.map_map]
  refine List.map_congr_left fun i _ => ?_
  exact congrArg V.int (Int.zero_add _)
theorem ownS_len (n : Nat) : (ownS n).length = n := by
  unfold ownS
  rw [List.length_map, List.length_range]
theorem ownS_nd (n : Nat) : (ownS n).Nodup := by
  unfold ownS
  exact List.pairwise_map.mpr (List.nodup_range.imp fun h z => h (Int.ofNat.inj z))
section
variable {P : Program} {w : World} {K : PySem.W.Frag} {mg : Str → Option Value} {base : Heap}
def spLvInitN (T : Tx K mg) : Sp := fun vs H Q _ => ∃ (x p dx : Addr) (pl : List Int), vs = [.ref x, .ref p, .non] ∧ H x = some (.ins T.x_LivePlant dx []) ∧ PlantAt H p pl ∧
  ∀ (H' : Hp) (r q : Addr), (∀ c o, c ≠ x → H c = some o → H' c = some o) → H r = none → LiveAt T.x_LivePlant H' x r p q pl (ownS (pl.length + 1)) [] → Q .non H'
theorem ok_lv_initN (T : Tx K mg) : FnOk P w K mg base CX0 5 T.f_lv_init T.d_lv_init ["self", "plant", "stock"] (spLvInitN T) := by
  refine okK T.F_lv_init scLvInit (fun vs H Q E h => ?_) (fun cdv A outer s H vs Q E hr h => ?_)
  · obtain ⟨x, p, dx, pl, rfl, _⟩ := h
    rfl
  · obtain ⟨x, p, dx, pl, rfl, e, PA, k⟩ := h
    have nd := scLvInit.nd
    have lp := PA.ok.len
    refine ⟨_, (pss_cons (ps_expr (pe_call (T.checkPlant (k := 0)) (hr.mono (by omega)) (by rfl) T.g_check_plant T.F_check_plant.kp T.b_check_plant .nil pass0 (pa_cons (pv 1) pa_nil)))
(pss_cons (ps_if (pt_cmpR op_isN (pv 2) pe_non (nomark _))
(pss_one (ps_set (i := 2) nd rfl (.inl rfl) (pe_tupRg rfl (by rfl) T.n_tuple (prg_1 (by rfl) T.n_range (pe_op op_add (pe_callB call_len_seq (by rfl) T.n_len PySem.boot_len (pa_cons (pv 1) pa_nil)) pe_int))))) pss_nil)
(pss_cons (ps_expr (pe_call (T.checkStock (k := 0)) (hr.mono (by omega)) (by rfl) T.g_check_stock T.F_check_stock.kp T.b_check_stock .nil pass0 (pa_cons (pv 1) (pa_cons (pv 2) pa_nil))))
(pss_cons (ps_fld (pv 0) (pv 1) rfl)
(pss_cons (ps_fld (pv 0) (pv 2) rfl)
(pss_one (ps_fld (pv 0) (pe_lst pa_nil) rfl))))))), ?_⟩
    refine ⟨.ref p, rfl, .ref p, rfl, PA.fits, fun G1 s1 => ?_⟩
    refine ⟨.non, rfl, rfl, _, rfl, iteT ?_⟩
    have lpm : (pl.map V.int).length = pl.length := List.length_map ..
    refine ⟨.ref p, rfl, p, _, rfl, .inr (PA.same s1).seq, _, _, rfl, rfl, _, rfl, RgOk.of_le (by decide) (by omega) (by decide) (by omega), fun q nq => ?_⟩
    have eo : rgV 0 (((pl.map V.int).length : Int) + 1) = (ownS (pl.length + 1)).map V.int := by
      rw [lpm]
      exact ownS_rg (pl.length + 1)
    rw [eo]
    have sq := same_new (o := .tup ((ownS (pl.length + 1)).map V.int)) nq
    have SS : StAt (upd G1 q (.tup ((ownS (pl.length + 1)).map V.int))) p q pl (ownS (pl.length + 1)) := ⟨(PA.same s1).same sq, upd_same, ownS_len _, ownS_nd _⟩
    have s1 := s1.trans sq
    generalize upd G1 q (.tup ((ownS (pl.length + 1)).map V.int)) = G3 at SS s1 ⊢
    have ls := SS.ls
    refine ⟨.ref p, rfl, .ref q, rfl, p, q, pl.map V.int, ownS (pl.length + 1), rfl, SS.P.seq, SS.S, by rw [List.length_map]; exact SS.ls, by omega, SS.nd, fun G2 s2 => ?_⟩
    have s12 := s1.trans s2
    have e2 := s12 _ _ e
    refine ⟨.ref p, rfl, .ref x, rfl, x, _, dx, _, rfl, e2, T.C_LivePlant, T.a_customers, (by show 0 < 1000; decide), .ref q, rfl, .ref x, rfl, x, _, dx, _, rfl, upd_same, T.C_LivePlant, T.a_boxes, (by show 1 < 1000; decide), Nat.zero_le _, fun r nr => ?_⟩
    have xr : x ≠ r := fun z => by rw [← z, upd_same] at nr; cases nr
    refine ⟨.ref x, rfl, x, _, dx, _, rfl, (upd_ne xr).trans upd_same, T.C_LivePlant, T.a_past, ?_, ?_⟩
    · refine Nat.lt_of_le_of_lt (length_putF _ _ _) ?_
      show 1 + 1 < 1000
      decide
    rw [lvF_made]
    have nr2 : G2 r = none := by
      rw [upd_ne (Ne.symm xr), upd_ne (Ne.symm xr)] at nr
      exact nr
    have kp : ∀ c o, c ≠ x → G3 c = some o → (upd (upd (upd (upd G2 x (.ins T.x_LivePlant dx (putF "customers" (.ref p) []))) x (.ins T.x_LivePlant dx (putF "boxes" (.ref q) (putF "customers" (.ref p) [])))) r (.lst [])) x (.ins T.x_LivePlant dx (lvF p q r))) c = some o := fun c o h1 h => by
      have z := s2 _ _ h
      rw [upd_ne h1, upd_ne (ne_of_none z nr2), upd_ne h1, upd_ne h1]
      exact z
    have e3 := s1 _ _ e
    have kt : KT G3 _ := fun c xs h => kp c _ (ne_of h e3 (by intro z; cases z)) h
    exact k _ r q (fun c o h1 h => kp c o h1 (s1 _ _ h)) (s12.free nr2) ⟨⟨dx, upd_same⟩, SS.kt kt, ⟨[], (upd_ne (Ne.symm xr)).trans upd_same, .nil⟩⟩
end
end PT


set_option maxHeartbeats 4000000
/-! other values, and texts at the limits (law 53) -/
namespace PT
open PySem PySem.Spec PyProof.Rows L2 LamX NdefX TL
section
variable {P : Program} {w : World} {K : PySem.W.Frag} {mg : Str → Option Value} {base : Heap}
theorem cat_lit {H G : Hp} {l : Addr} {xs vs : List V} {ts : List Str} {Q : VK} (S : Same H G) (e : G l = some (.lst xs)) (h : ∀ v ∈ xs, Val53 K G v) (lx : xs.length ≤ 60) (ev : vs = ts.map V.str) (lt : ts.length ≤ 60) (ht : ∀ t ∈ ts, GdT t)
    (k : ∀ (G2 : Hp) (m : Addr) (xs2 : List V), Same H G2 → G2 m = some (.lst xs2) → xs2.length = xs.length + ts.length → (∀ v ∈ xs2, Val53 K G2 v) → Q (.ref m) G2) : ∀ q, G q = none → rCat (.ref l) (.ref q) (upd G q (.lst vs)) Q := fun q nq => by
  subst ev
  have sq := same_new (o := .lst (ts.map V.str)) nq
  refine ⟨l, q, _, _, rfl, rfl, sq _ _ e, upd_same, by rw [List.length_map]; exact Nat.le_trans (by omega : xs.length + ts.length ≤ 120) (by decide), fun m nm => ?_⟩
  have sm := same_new (o := .lst (xs ++ ts.map V.str)) nm
  refine k _ m _ (S.trans (sq.trans sm)) upd_same (by rw [List.length_append, List.length_map]) fun v hv => ?_
  rcases List.mem_append.mp hv with z | z
  · rcases h v z with y | ⟨t, rfl, y⟩
    · exact .inl (noTxt_same (sq.trans sm) y)
    · exact .inr ⟨t, rfl, y⟩
  · obtain ⟨t, h1, rfl⟩ := List.mem_map.mp z
    exact .inr ⟨t, rfl, ht t h1⟩
theorem gd_rep {t : Str} {n : Nat} (h : Asc t) (l : n * t.length ≤ 6000) : GdT (repS t (n : Int)) := ⟨Asc.rep h _, by rw [repS_len]; exact l⟩
theorem num40 : ((List.range 40).all fun i => ((toString (1 + (i : Int))).toList.map Char.toNat).all (· < 128) && decide ((Str.ofString (toString (1 + (i : Int)))).length ≤ 3)) = true := by decide +kernel
theorem num40_at {i : Nat} (h : i < 40) : Asc (Str.ofString (toString (1 + (i : Int)))) ∧ (Str.ofString (toString (1 + (i : Int)))).length ≤ 3 := by
  have := List.all_eq_true.mp num40 i (List.mem_range.mpr h)
  rw [Bool.and_eq_true] at this
  exact ⟨Asc.lit this.1, of_decide_eq_true this.2⟩
def spFixed53 : Sp := fun vs H Q _ => vs = [] ∧ ∀ (H' : Hp) (l : Addr) (xs : List V), Same H H' → H' l = some (.lst xs) → xs.length ≤ 45 → (∀ v ∈ xs, Val53 K H' v) → Q (.ref l) H'
theorem ok_fixed53 (T : Tx K mg) : FnOk P w K mg base CX0 7 T.f__law_fixed T.d__law_fixed [] (spFixed53 (K := K)) := by
  refine T.F__law_fixed.ok scLawFixed (fun vs H Q E h => ?_) (fun cdv A outer s0 H vs Q E hr h => ?_)
  · obtain ⟨rfl, _⟩ := h
    rfl
  · obtain ⟨rfl, k⟩ := h
    have nd := scLawFixed.nd
    refine ⟨_, (pss_cons (ps_set (i := 0) nd rfl (.inl rfl) (pe_lst (pa_cons pe_non (pa_cons pe_int (pa_cons pe_bl (pa_cons (pe_lst pa_nil) (pa_cons (pe_tup pa_nil) (pa_cons pe_dnewK (pa_cons (pe_make T.M_LivePlant (ok_lv_initN T) (hr.mono (by omega)) (by rfl) T.g_LivePlant T.b_lv_init T.V_lv_init pass0 (pa_cons (pe_tup pa_nil) pa_nil)) (pa_cons (pe_tup (pa_cons pe_str pa_nil)) (pa_cons (pe_lst (pa_cons pe_str pa_nil)) pa_nil)))))))))))
(pss_cons (ps_set (i := 0) nd rfl (.inl rfl) (pe_op op_cat (pv 0) (pe_lst (pa_cons pe_str (pa_cons pe_str (pa_cons pe_str (pa_cons pe_str (pa_cons pe_str (pa_cons pe_str (pa_cons pe_str pa_nil))))))))))
(pss_cons (ps_set (i := 0) nd rfl (.inl rfl) (pe_op op_cat (pv 0) (pe_lst (pa_cons pe_str (pa_cons pe_str (pa_cons pe_str (pa_cons pe_str (pa_cons pe_str (pa_cons pe_str (pa_cons pe_str pa_nil))))))))))
(pss_cons (ps_set (i := 0) nd rfl (.inl rfl) (pe_op op_cat (pv 0) (pe_lst (pa_cons pe_str (pa_cons pe_str (pa_cons pe_str (pa_cons pe_str (pa_cons pe_str (pa_cons pe_str pa_nil)))))))))
(pss_cons (ps_set (i := 0) nd rfl (.inl rfl) (pe_op op_cat (pv 0) (pe_lst (pa_cons pe_str (pa_cons pe_str (pa_cons pe_str (pa_cons pe_str (pa_cons pe_str (pa_cons pe_str pa_nil)))))))))
(pss_cons (ps_set (i := 0) nd rfl (.inl rfl) (pe_op op_cat (pv 0) (pe_lst (pa_cons pe_str (pa_cons pe_str (pa_cons (pe_op op_add_str (pe_op op_add_str pe_str (pe_op op_repB pe_str pe_int)) pe_str) (pa_cons (pe_op op_add_str (pe_op op_add_str pe_str (pe_op op_repB pe_str pe_int)) pe_str) pa_nil)))))))
(pss_cons (ps_setLc (i := 1) (own := [("at", 2)]) (g := gName 2) (tt := tYes) (te := (tOp rCatS (tOp rCatS (tC (.str "0 ")) (tCB (fun xs H Q => ∃ i : Int, xs = [.int i] ∧ i.natAbs.log2 < 1920 ∧ Q (.str (toString i)) H) (tCons (tVar 2) tNil))) (tC (.str "
")))) (by rfl) nd rfl rfl (sw_true rfl rfl rfl (by decide +kernel)) (pi_range2 (by rfl) T.n_range (pa_cons pe_int (pa_cons pe_int pa_nil)))
(blkOk_by (N := ["found", "rows", "at"]) (sc := defScope sLawFixed) (by decide +kernel)) (fun _ _ _ _ _ => (pg_name (i := 2) nd rfl (.inl rfl))) (fun _ _ _ _ _ => pts_nil) (fun _ _ _ _ _ => (pe_op op_add_str (pe_op op_add_str pe_str (pe_callTy call_str_int (by rfl) T.n_str (by decide +kernel) (pa_cons (pv 2) pa_nil))) pe_str)))
(pss_cons (ps_set (i := 0) nd rfl (.inl rfl) (pe_op op_cat (pv 0) (pe_lst (pa_cons (pe_op op_add_str pe_str (pe_bm PySem.F.plainAttrs_str PySem.F.slot_str_join PySem.F.type_str_join mt_join pe_str (pa_cons (pe_slice sl_list (pv 1) po_none (po_some pe_int)) pa_nil))) (pa_cons (pe_op op_add_str pe_str (pe_bm PySem.F.plainAttrs_str PySem.F.slot_str_join PySem.F.type_str_join mt_join pe_str (pa_cons (pv 1) pa_nil))) (pa_cons (pe_op op_add_str (pe_op op_add_str pe_str (pe_op op_repB pe_str pe_int)) pe_str) pa_nil))))))
(pss_one (ps_ret (pe_op op_cat (pv 0) (pe_lst (pa_cons (pe_op op_add_str pe_str (pe_op op_repB pe_str pe_int)) (pa_cons (pe_op op_add_str (pe_op op_repB pe_str pe_int) pe_str) pa_nil)))))))))))))), ?_⟩
    refine ⟨Nat.zero_le _, fun c1 n1 => ?_⟩
    have s1 := same_new (o := .lst []) n1
    have e1 : upd H c1 (.lst []) c1 = some (.lst []) := upd_same
    generalize upd H c1 (.lst []) = H1 at s1 e1 ⊢
    refine ⟨Nat.zero_le _, fun c2 n2 => ?_⟩
    have s2 := same_new (o := .tup []) n2
    have e2 : upd H1 c2 (.tup []) c2 = some (.tup []) := upd_same
    have e1 := s2 _ _ e1
    have s2 := s1.trans s2
    generalize upd H1 c2 (.tup []) = H2 at s2 e1 e2 ⊢
    refine fun c3 n3 => ?_
    have s3 := same_new (o := .dK []) n3
    have e3 : upd H2 c3 (.dK []) c3 = some (.dK []) := upd_same
    have e1 := s3 _ _ e1
    have e2 := s3 _ _ e2
    have s3 := s2.trans s3
    generalize upd H2 c3 (.dK []) = H3 at s3 e1 e2 e3 ⊢
    refine ⟨Nat.zero_le _, fun t nt => ?_⟩
    have s4 := same_new (o := .tup []) nt
    have P1 : PlantAt (upd H3 t (.tup [])) t [] := ⟨upd_same, ⟨by decide, fun i x e => by cases e⟩⟩
    have e1 := s4 _ _ e1
    have e2 := s4 _ _ e2
    have e3 := s4 _ _ e3
    have s4 := s3.trans s4
    generalize upd H3 t (.tup []) = H4 at s4 e1 e2 e3 P1 ⊢
    clear s1 s2 s3 n1 n2 n3 nt
    refine fun x dx nx ndx nex => ?_
    have nx2 : upd H4 dx (.own x) x = none := by rw [upd_ne (Ne.symm nex)]; exact nx
    have s5 : Same H4 (upd (upd H4 dx (.own x)) x (.ins T.x_LivePlant dx [])) := (same_new ndx).trans (same_new nx2)
    refine ⟨x, t, dx, [], rfl, upd_same, P1.same s5, fun H5 r q kp nr L => ⟨rfl, ?_⟩⟩
    have s6 : Same H4 H5 := fun c o h => kp c o (ne_of_none h nx) (s5 _ _ h)
    have e1 := s6 _ _ e1
    have e2 := s6 _ _ e2
    have e3 := s6 _ _ e3
    have s7 := s4.trans s6
    obtain ⟨dx2, eo⟩ := L.ob
    clear L kp nr s5 s6 nx2 P1 nx ndx nex s4
    refine ⟨(by show 1 ≤ sizeLine; decide), fun c4 n4 => ?_⟩
    have s8 := same_new (o := .tup [V.str (Str.ofString "shop 1\n")]) n4
    have e4 : upd H5 c4 (.tup [V.str (Str.ofString "shop 1\n")]) c4 = some (.tup [V.str (Str.ofString "shop 1\n")]) := upd_same
    have e1 := s8 _ _ e1
    have e2 := s8 _ _ e2
    have e3 := s8 _ _ e3
    have eo := s8 _ _ eo
    have s8 := s7.trans s8
    generalize upd H5 c4 (.tup [V.str (Str.ofString "shop 1\n")]) = H6 at s8 e1 e2 e3 e4 eo ⊢
    refine ⟨(by show 1 ≤ sizeLine; decide), fun c5 n5 => ?_⟩
    have s9 := same_new (o := .lst [V.str (Str.ofString "shop 1\n")]) n5
    have e5 : upd H6 c5 (.lst [V.str (Str.ofString "shop 1\n")]) c5 = some (.lst [V.str (Str.ofString "shop 1\n")]) := upd_same
    have e1 := s9 _ _ e1
    have e2 := s9 _ _ e2
    have e3 := s9 _ _ e3
    have e4 := s9 _ _ e4
    have eo := s9 _ _ eo
    have s9 := s8.trans s9
    generalize upd H6 c5 (.lst [V.str (Str.ofString "shop 1\n")]) = H7 at s9 e1 e2 e3 e4 e5 eo ⊢
    clear s7 s8 n4 n5
    refine ⟨(by show 9 ≤ sizeLine; decide), fun l nl => ?_⟩
    have s10 := same_new (o := .lst [V.non, .int 0, .bl true, .ref c1, .ref c2, .ref c3, .ref x, .ref c4, .ref c5]) nl
    have el : upd H7 l (.lst [V.non, .int 0, .bl true, .ref c1, .ref c2, .ref c3, .ref x, .ref c4, .ref c5]) l = some (.lst [V.non, .int 0, .bl true, .ref c1, .ref c2, .ref c3, .ref x, .ref c4, .ref c5]) := upd_same
    have e1 := s10 _ _ e1
    have e2 := s10 _ _ e2
    have e3 := s10 _ _ e3
    have e4 := s10 _ _ e4
    have e5 := s10 _ _ e5
    have eo := s10 _ _ eo
    have S := s9.trans s10
    generalize upd H7 l (.lst [V.non, .int 0, .bl true, .ref c1, .ref c2, .ref c3, .ref x, .ref c4, .ref c5]) = G at S e1 e2 e3 e4 e5 eo el ⊢
    clear s9 s10 nl
    have h0 : ∀ v ∈ [V.non, .int 0, .bl true, .ref c1, .ref c2, .ref c3, .ref x, .ref c4, .ref c5], Val53 K G v := fun v hv => by
      simp only [List.mem_cons, List.not_mem_nil, or_false] at hv
      rcases hv with rfl | rfl | rfl | rfl | rfl | rfl | rfl | rfl | rfl
      · exact .inl ⟨_, .non, kit_ty (by decide +kernel)⟩
      · exact .inl ⟨_, .int 0, kit_ty (by decide +kernel)⟩
      · exact .inl ⟨_, .bl true, kit_ty (by decide +kernel)⟩
      · exact .inl ⟨_, .lst e1, kit_ty (by decide +kernel)⟩
      · exact .inl ⟨_, .tup e2, kit_ty (by decide +kernel)⟩
      · exact .inl ⟨_, .dK e3, kit_ty (by decide +kernel)⟩
      · exact .inl ⟨_, .ins eo T.I_LivePlant.cl T.I_LivePlant.ha T.I_LivePlant.hn T.I_LivePlant.htk T.I_LivePlant.hm, T.W_LivePlant⟩
      · exact .inl ⟨_, .tup e4, kit_ty (by decide +kernel)⟩
      · exact .inl ⟨_, .lst e5, kit_ty (by decide +kernel)⟩
    obtain ⟨xs, exs, lxs⟩ : ∃ xs, xs = [V.non, .int 0, .bl true, .ref c1, .ref c2, .ref c3, .ref x, .ref c4, .ref c5] ∧ xs.length = 9 := ⟨_, rfl, rfl⟩
    rw [← exs] at el h0
    clear e1 e2 e3 e4 e5 eo exs
    refine ⟨.ref l, rfl, (by show 7 ≤ sizeLine; decide), cat_lit (ts := ["", "\n", "shop", "shop 1", "1\n", "shop 1\n\n", "\nshop 1\n"].map Str.ofString) S el h0 (by omega) rfl (by decide) (gdTs (by decide +kernel)) fun G1 l1 xs1 S1 e1 lx1 h1 => ?_⟩
    refine ⟨.ref l1, rfl, (by show 7 ≤ sizeLine; decide), cat_lit (ts := ["shop  1\n", "shop 1 \n", " shop 1\n", "Shop 1\n", "shop 1\n0 1\n", "shop 1\n1 2\n", "0 1\n"].map Str.ofString) S1 e1 h1 (by simp at lx1; omega) rfl (by decide) (gdTs (by decide +kernel)) fun G2 l2 xs2 S2 e2 lx2 h2 => ?_⟩
    refine ⟨.ref l2, rfl, (by show 6 ≤ sizeLine; decide), cat_lit (ts := ["shop 1\n00 2\n", "shop 1\n-0 2\n", "shop 1\n0 -0\n", "shop 1;0 2\n", "shop -\n", "shop --1\n"].map Str.ofString) S2 e2 h2 (by simp at lx1 lx2; omega) rfl (by decide) (gdTs (by decide +kernel)) fun G3 l3 xs3 S3 e3 lx3 h3 => ?_⟩
    refine ⟨.ref l3, rfl, (by show 6 ≤ sizeLine; decide), cat_lit (ts := ["shop 1e2\n", "shop 0b1\n", "shop 0x1\n", "shop 1j\n", "shop inf\n", " shop 1\n"].map Str.ofString) S3 e3 h3 (by simp at lx1 lx2 lx3; omega) rfl (by decide) (gdTs (by decide +kernel)) fun G4 l4 xs4 S4 e4 lx4 h4 => ?_⟩
    have len4 : xs4.length = 35 := by simp at lx1 lx2 lx3 lx4; omega
    clear S e1 e2 e3 S1 S2 S3 h0 h1 h2 h3 el lx1 lx2 lx3 lx4 lxs
    have a9 : Asc (Str.ofString "9") := Asc.lit (by decide)
    have r9 : GdT (repS (Str.ofString "9") ((4900 : Nat) : Int)) := gd_rep a9 (by decide +kernel)
    obtain ⟨R9, eR9⟩ : ∃ R, R = repS (Str.ofString "9") 4900 := ⟨_, rfl⟩
    have l9 : R9.length = 4900 := by rw [eR9, repS_len]; decide +kernel
    have r9 : Asc R9 := by rw [eR9]; exact r9.1
    have q1 : (Str.ofString "shop ").length = 5 := by decide +kernel
    have q2 : (Str.ofString "\n").length = 1 := by decide +kernel
    have q3 : (Str.ofString "shop -").length = 6 := by decide +kernel
    have aN : Asc (Str.ofString "\n") := Asc.lit (by decide)
    refine ⟨.ref l4, rfl, Str.ofString "9", 4900, rfl, rfl, by decide, by decide, by decide +kernel, ?_⟩
    rw [← eR9]
    have big : 20000 ≤ sizeLine := (by decide)
    refine ⟨_, _, rfl, rfl, by rw [q1, l9]; omega, _, _, rfl, rfl, by rw [Str.length_append, q1, q2, l9]; omega, Str.ofString "9", 4900, rfl, rfl, by decide, by decide, by decide +kernel, ?_⟩
    rw [← eR9]
    refine ⟨_, _, rfl, rfl, by rw [q3, l9]; omega, _, _, rfl, rfl, by rw [Str.length_append, q3, q2, l9]; omega, (by show 4 ≤ sizeLine; decide), cat_lit (ts := [Str.ofString "shop 1\nshop 2\n", Str.ofString "shop 1\n- 2\n", Str.ofString "shop " ++ R9 ++ Str.ofString "\n", Str.ofString "shop -" ++ R9 ++ Str.ofString "\n"]) S4 e4 h4 (by omega) rfl (by show 4 ≤ 60; decide) (fun t ht => ?_) fun G5 l5 xs5 S5 e5 lx5 h5 => ?_⟩
    · simp only [List.mem_cons, List.not_mem_nil, or_false] at ht
      rcases ht with rfl | rfl | rfl | rfl
      · exact ⟨Asc.lit (by decide), by decide +kernel⟩
      · exact ⟨Asc.lit (by decide), by decide +kernel⟩
      · exact ⟨((Asc.lit (by decide)).append r9).append aN, by rw [Str.length_append, Str.length_append]; omega⟩
      · exact ⟨((Asc.lit (by decide)).append r9).append aN, by rw [Str.length_append, Str.length_append]; omega⟩
    have len5 : xs5.length = 39 := by rw [lx5, len4]; rfl
    clear S4 e4 h4 len4 lx5
    refine ⟨1, 41, rfl, ⟨by decide, by decide, by decide, by decide⟩, fun D nD => ?_⟩
    rw [show ((41 : Int) - 1).toNat = 40 from rfl]
    refine lc_range (lo := 1) (n := 40) (fun i G => Same G5 G ∧ ∃ ys : List Str, G D = some (.lst (ys.map V.str)) ∧ ys.length = i ∧ ∀ y ∈ ys, Asc y ∧ y.length ≤ 10) ⟨same_new nD, [], upd_same, rfl, fun y h => (by cases h)⟩ (fun i G hi p1 => ?_) (fun G p1 => ?_)
    · obtain ⟨sG, ys, eD, ly, gy⟩ := p1
      obtain ⟨an, ln⟩ := num40_at hi
      have p0 : (Str.ofString "0 ").length = 2 := by decide +kernel
      refine ⟨rfl, tyes_if ⟨.int (1 + ((i : Nat) : Int)), rfl, 1 + ((i : Nat) : Int), rfl, Nat.lt_of_le_of_lt (Nat.log2_le_self _) (by omega), _, _, rfl, rfl, by rw [p0]; omega, _, _, rfl, rfl, by rw [Str.length_append, p0, q2]; omega, _, eD, ?_, fun c o hc => ?_, ys ++ [Str.ofString "0 " ++ Str.ofString (toString (1 + ((i : Nat) : Int))) ++ Str.ofString "\n"], ?_, ?_, fun y hy => ?_⟩⟩
      · rw [List.length_map]
        exact Nat.lt_of_lt_of_le (by omega : ys.length < 20000) big
      · rw [upd_ne (ne_of_none hc nD)]
        exact sG _ _ hc
      · rw [upd_same, List.map_append]
        rfl
      · rw [List.length_append, ly]
        rfl
      · rcases List.mem_append.mp hy with z | z
        · exact gy y z
        · rw [List.mem_singleton.mp z]
          exact ⟨((Asc.lit (by decide)).append an).append aN, by rw [Str.length_append, Str.length_append, p0, q2]; omega⟩
    obtain ⟨sG, ys, eD, ly, gy⟩ := p1
    have S6 := S5.trans sG
    have e6 := sG _ _ e5
    have h6 : ∀ v ∈ xs5, Val53 K G v := fun v hv => by
      rcases h5 v hv with y | ⟨t, rfl, y⟩
      · exact .inl (noTxt_same sG y)
      · exact .inr ⟨t, rfl, y⟩
    clear S5 e5 h5 sG nD
    have q0 : (Str.ofString "").length = 0 := by decide +kernel
    have q4 : (Str.ofString "shop 0\n").length = 7 := by decide +kernel
    have q5 : (Str.ofString "shop 1\n").length = 7 := by decide +kernel
    have q6 : (Str.ofString " 2\n").length = 3 := by decide +kernel
    have jn : ∀ zs : List Str, (∀ y ∈ zs, Asc y ∧ y.length ≤ 10) → zs.length ≤ 40 → (zs.map (·.length)).sum ≤ 400 ∧ Asc (Txt.join (Str.ofString "") zs) ∧ (Txt.join (Str.ofString "") zs).length ≤ 400 := fun zs hz lz => by
      have s := sum_le (B := 10) (ys := zs) fun y h => (hz y h).2
      have m : zs.length * 10 ≤ 40 * 10 := Nat.mul_le_mul_right _ lz
      have j := join_len0 zs
      exact ⟨by omega, Asc.joined (Asc.lit (by decide)) fun y h => (hz y h).1, by omega⟩
    obtain ⟨s39, a39, l39⟩ := jn (ys.take 39) (fun y h => gy y (List.mem_of_mem_take h)) (by rw [List.length_take]; omega)
    obtain ⟨s40, a40, l40⟩ := jn ys gy (by omega)
    refine ⟨.ref l5, rfl, rfl, .ref D, rfl, 39, rfl, D, _, rfl, .inl (.inl eD), fun c nc => ?_⟩
    have sc := same_new (o := .lst (cutV (ys.map V.str) none (some 39))) nc
    have ec : upd G c (.lst (cutV (ys.map V.str) none (some 39))) c = some (.lst ((ys.take 39).map V.str)) := by
      have q : cutV (ys.map V.str) none (some 39) = (ys.map V.str).take 39 := cutV_to (ys.map V.str) 39
      rw [upd_same, q, List.map_take]
    have S7 := S6.trans sc
    have e7 := sc _ _ e6
    have eD7 := sc _ _ eD
    have h7 : ∀ v ∈ xs5, Val53 K (upd G c (.lst (cutV (ys.map V.str) none (some 39)))) v := fun v hv => by
      rcases h6 v hv with y | ⟨t, rfl, y⟩
      · exact .inl (noTxt_same sc y)
      · exact .inr ⟨t, rfl, y⟩
    generalize upd G c (.lst (cutV (ys.map V.str) none (some 39))) = G7 at ec S7 e7 eD7 h7 ⊢
    clear sc nc S6 e6 h6 eD
    refine ⟨Str.ofString "", c, ys.take 39, rfl, rfl, .inl (.inl (.inl ec)), by rw [q0]; omega, ?_⟩
    refine ⟨_, _, rfl, rfl, by rw [q4]; omega, ?_⟩
    refine ⟨rfl, .ref D, rfl, Str.ofString "", D, ys, rfl, rfl, .inl (.inl (.inl eD7)), by rw [q0]; omega, _, _, rfl, rfl, by rw [q4]; omega, ?_⟩
    refine ⟨Str.ofString "9", 4900, rfl, rfl, by decide, by decide, by decide +kernel, ?_⟩
    rw [← eR9]
    refine ⟨_, _, rfl, rfl, by rw [q5, l9]; omega, _, _, rfl, rfl, by rw [Str.length_append, q5, q6, l9]; omega, (by show 3 ≤ sizeLine; decide), cat_lit (ts := [Str.ofString "shop 0\n" ++ Txt.join (Str.ofString "") (ys.take 39), Str.ofString "shop 0\n" ++ Txt.join (Str.ofString "") ys, Str.ofString "shop 1\n" ++ R9 ++ Str.ofString " 2\n"]) S7 e7 h7 (by omega) rfl (by show 3 ≤ 60; decide) (fun t ht => ?_) fun G8 l8 xs8 S8 e8 lx8 h8 => ?_⟩
    · simp only [List.mem_cons, List.not_mem_nil, or_false] at ht
      rcases ht with rfl | rfl | rfl
      · exact ⟨(Asc.lit (by decide)).append a39, by rw [Str.length_append]; omega⟩
      · exact ⟨(Asc.lit (by decide)).append a40, by rw [Str.length_append]; omega⟩
      · exact ⟨((Asc.lit (by decide)).append r9).append (Asc.lit (by decide)), by rw [Str.length_append, Str.length_append]; omega⟩
    have len8 : xs8.length = 42 := by rw [lx8, len5]; rfl
    clear S7 e7 h7 lx8 eD7 ec
    refine ⟨.ref l8, rfl, Str.ofString "0 2\n", 1200, rfl, rfl, by decide, by decide, by decide +kernel, ?_⟩
    obtain ⟨R2, eR2, aR2, lR2⟩ : ∃ R, R = repS (Str.ofString "0 2\n") 1200 ∧ Asc R ∧ R.length = 4800 := ⟨_, rfl, Asc.rep (Asc.lit (by decide)) _, by rw [repS_len]; decide +kernel⟩
    obtain ⟨R3, eR3, aR3, lR3⟩ : ∃ R, R = repS (Str.ofString "shop") 1200 ∧ Asc R ∧ R.length = 4800 := ⟨_, rfl, Asc.rep (Asc.lit (by decide)) _, by rw [repS_len]; decide +kernel⟩
    have q7 : (Str.ofString " 1\n").length = 3 := by decide +kernel
    rw [← eR2]
    refine ⟨_, _, rfl, rfl, by rw [q5, lR2]; omega, Str.ofString "shop", 1200, rfl, rfl, by decide, by decide, by decide +kernel, ?_⟩
    rw [← eR3]
    refine ⟨_, _, rfl, rfl, by rw [lR3, q7]; omega, (by show 2 ≤ sizeLine; decide), cat_lit (ts := [Str.ofString "shop 1\n" ++ R2, R3 ++ Str.ofString " 1\n"]) S8 e8 h8 (by omega) rfl (by show 2 ≤ 60; decide) (fun t ht => ?_) fun G9 l9 xs9 S9 e9 lx9 h9 => ?_⟩
    · simp only [List.mem_cons, List.not_mem_nil, or_false] at ht
      rcases ht with rfl | rfl
      · exact ⟨(Asc.lit (by decide)).append aR2, by rw [Str.length_append]; omega⟩
      · exact ⟨aR3.append (Asc.lit (by decide)), by rw [Str.length_append]; omega⟩
    exact k G9 l9 xs9 S9 e9 (by rw [lx9, len8]; show 42 + 2 ≤ 45; decide) h9
end
end PT


set_option maxHeartbeats 4000000
/-! pots, rows in another order, plants and stocks out of a pot -/
namespace PT
open PySem PySem.Spec PyProof.Rows L2
section
variable {P : Program} {w : World} {K : PySem.W.Frag} {mg : Str → Option Value} {base : Heap}
theorem pot38 : (0 : Int) < 10 ^ (Int.toNat 38) + 133 := by decide
def spFount (K : PySem.W.Frag) : Sp := fun vs H Q _ => ∃ (a : Addr) (ns : List Int) (k : Nat), vs = [.ref a, .int (k : Int)] ∧ SqL K H a (ns.map V.int) ∧ k ≤ 1000 ∧ ∀ (b : Addr) (o : HO), H b = none → PotAt (upd H b o) b 0 → Q (.ref b) (upd H b o)
theorem ok_fount (T : Tx K mg) : FnOk P w K mg base CX0 1 T.f__law_fount T.d__law_fount ["script", "k"] (spFount K) := by
  refine T.F__law_fount.ok scLawFount (fun vs H Q E h => ?_) (fun cdv A outer s H vs Q E hr h => ?_)
  · obtain ⟨a, ns, k, rfl, _⟩ := h
    rfl
  · obtain ⟨a, ns, k, rfl, hS, hk, q⟩ := h
    have nd := scLawFount.nd
    refine ⟨_, pss_cons (ps_set (i := 2) nd rfl (.inl rfl) pe_int)
      (pss_cons (ps_if (pt_cmpR op_lt (pv 1) (pe_callB call_len_seq (by rfl) T.n_len PySem.boot_len (pa_cons (pv 0) pa_nil)) (nomark _)) (pss_one (ps_set (i := 2) nd rfl (.inl rfl) (pe_ix ix_list (pv 0) (pv 1) (fun _ _ => rfl)))) pss_nil)
      (pss_one (ps_ret (pe_lst (pa_cons (pe_callB (call_max2 rfl) (by rfl) T.n_max (by decide +kernel) (pa_cons pe_int (pa_cons (pe_op op_sub (pv 2) (pe_op op_pow pe_int pe_int)) pa_nil)))
        (pa_cons (pe_op op_add (pe_op op_mul (pe_op op_mod (pv 2) (pe_op op_add (pe_op op_pow pe_int pe_int) pe_int)) pe_int) (pv 1)) (pa_cons pe_int pa_nil))))))), ?_⟩
    refine ⟨.int (k : Int), rfl, .ref a, rfl, a, _, rfl, .inl hS, (k : Int), _, rfl, rfl, _, rfl, ite2 (fun e => ?_) fun e => ?_⟩
    · have hk2 : k < ns.length := by
        have z := of_decide_eq_true e
        rw [List.length_map] at z
        omega
      refine ⟨.ref a, rfl, .int (k : Int), rfl, a, _, (k : Int), .int ns[k], rfl, rfl, hS, atI_nat (by rw [List.getElem?_map, List.getElem?_eq_getElem hk2]; rfl), ?_⟩
      generalize ns[k] = c
      refine ⟨.int c, rfl, 10, 18, rfl, rfl, ⟨by decide, by decide, by decide⟩, _, _, rfl, rfl, _, _, rfl, .int c, rfl, 10, 38, rfl, rfl, ⟨by decide, by decide, by decide⟩, _, 133, rfl, rfl, _, _, rfl, rfl, pot38, _, 512, rfl, rfl, .inr ⟨by decide, by decide⟩, .int (k : Int), rfl, _, _, rfl, rfl, (by show 3 ≤ sizeLine; decide), fun b nb => ?_⟩
      have t0 : 0 ≤ c % (10 ^ (Int.toNat 38) + 133) := Int.emod_nonneg _ (Int.ne_of_gt pot38)
      have t1 : c % (10 ^ (Int.toNat 38) + 133) < 10 ^ (Int.toNat 38) + 133 := Int.emod_lt_of_pos _ pot38
      have t2 : (10 : Int) ^ (Int.toNat 38) + 133 ≤ 10 ^ 39 := by decide
      exact q b _ nb ⟨_, _, _, upd_same, by omega, by omega, by decide, by decide⟩
    · refine ⟨.int 0, rfl, 10, 18, rfl, rfl, ⟨by decide, by decide, by decide⟩, _, _, rfl, rfl, _, _, rfl, .int 0, rfl, 10, 38, rfl, rfl, ⟨by decide, by decide, by decide⟩, _, 133, rfl, rfl, _, _, rfl, rfl, pot38, _, 512, rfl, rfl, .inr ⟨by decide, by decide⟩, .int (k : Int), rfl, _, _, rfl, rfl, (by show 3 ≤ sizeLine; decide), fun b nb => ?_⟩
      have t0 : 0 ≤ (0 : Int) % (10 ^ (Int.toNat 38) + 133) := Int.emod_nonneg _ (Int.ne_of_gt pot38)
      have t1 : (0 : Int) % (10 ^ (Int.toNat 38) + 133) < 10 ^ (Int.toNat 38) + 133 := Int.emod_lt_of_pos _ pot38
      have t2 : (10 : Int) ^ (Int.toNat 38) + 133 ≤ 10 ^ 39 := by decide
      exact q b _ nb ⟨_, _, _, upd_same, by omega, by omega, by decide, by decide⟩
/-! ### a row in another order -/
def spMixed : Sp := fun vs H Q _ => ∃ (b q : Addr) (xs : List V) (n : Nat), vs = [.ref b, .ref q] ∧ PotAt H b n ∧ n ≤ 100000000000 ∧ (H q = some (.lst xs) ∨ H q = some (.tup xs)) ∧ xs.length ≤ 300 ∧ ∀ (H' : Hp) (l : Addr) (ys : List V), PotAt H' b (n + xs.length) → Bar b H H' → H l = none → H' l = some (.lst ys) → ys.Perm xs → Q (.ref l) H'
theorem ok_mixed (T : Tx K mg) : FnOk P w K mg base CX0 2 T.f__law_mixed T.d__law_mixed ["fount", "items"] spMixed := by
  refine T.F__law_mixed.ok scLawMixed (fun vs H Q E h => ?_) (fun cdv A outer s H vs Q E hr h => ?_)
  · obtain ⟨b, q, xs, n, rfl, _⟩ := h
    rfl
  · obtain ⟨b, q, xs, n, rfl, hb, hn, hq, hl, qq⟩ := h
    have nd := scLawMixed.nd
    refine ⟨_, pss_cons (ps_set (i := 2) nd rfl (.inr rfl) (pe_callTy call_list_of (by rfl) T.n_list (by decide +kernel) (pa_cons (pv 1) pa_nil)))
      (pss_one (ps_ret (pe_lc (own := [("turn", 3)]) (g := gName 3) (tt := tYes) (te := tBM K "list" rPopAt (tVar 2) (tCons (tCall spSip [] E0 (tCons (tVar 0) (tCons (tCB (fun xs H Q => ∃ p ys, xs = [.ref p] ∧ (SqL K H p ys ∨ SqT K H p ys) ∧ Q (.int (ys.length : Int)) H) (tCons (tVar 2) tNil)) tNil))) tNil)) rfl nd (pi_range1 rfl T.n_range (pa_cons (pe_callB call_len_seq (by rfl) T.n_len PySem.boot_len (pa_cons (pv 2) pa_nil)) pa_nil))
        (blkOk_by (N := ["fount", "items", "left", "turn"]) (sc := defScope sLawMixed) (by decide +kernel)) (fun _ _ _ _ _ => pg_name (i := 3) nd rfl (Or.inl rfl)) (fun _ _ _ _ _ => pts_nil)
        (fun _ _ _ _ _ => pe_bm PySem.F.plainAttrs_list PySem.F.slot_list_pop PySem.F.type_list_pop mt_popAt (pv 2) (pa_cons (pe_call (ok_sip T) hr (by rfl) T.g__law_sip T.F__law_sip.kp T.b__law_sip .nil pass0
          (pa_cons (pv 0) (pa_cons (pe_callB call_len_seq (by rfl) T.n_len PySem.boot_len (pa_cons (pv 2) pa_nil)) pa_nil))) pa_nil))))), ?_⟩
    have hq0 : SqL K H q xs ∨ SqT K H q xs := hq.imp (fun z => .inl (.inl z)) fun z => .inl (.inl z)
    refine ⟨.ref q, rfl, q, _, rfl, hq0, fun lf nlf => ?_⟩
    have s1 : Same H (upd H lf (.lst xs)) := same_new nlf
    have hq1 : SqL K (upd H lf (.lst xs)) q xs ∨ SqT K (upd H lf (.lst xs)) q xs := hq.imp (fun z => .inl (.inl (s1 _ _ z))) fun z => .inl (.inl (s1 _ _ z))
    have hb1 := hb.same s1
    have hlfb : lf ≠ b := hb.some nlf
    refine ⟨.ref lf, rfl, lf, xs, rfl, .inl (.inl (.inl upd_same)), (xs.length : Int), rfl, by omega, by omega, ?_⟩
    rw [Int.toNat_natCast]
    intro D nD
    have hDb : D ≠ b := hb1.some nD
    have nHD : H D = none := s1.free nD
    have hDl : D ≠ lf := fun e => by
      rw [e, upd_same] at nD
      cases nD
    refine lc_range (lo := 0) (n := xs.length) (fun i H' => ∃ rest out : List V, PotAt H' b (n + i) ∧ Bar b H H' ∧ H' lf = some (.lst rest) ∧ H' D = some (.lst out) ∧ (out ++ rest).Perm xs ∧ rest.length + i = xs.length)
      ⟨xs, [], hb1.same (same_new nD), (Same.bar (s1.trans (same_new nD))), upd_at upd_same nD, upd_same, .refl _, rfl⟩ (fun i H1 hi p1 => ?_) (fun H1 p1 => ?_)
    · obtain ⟨rest, out, kb, br, el, eD, pm, ln⟩ := p1
      have hr0 : 0 < rest.length := by omega
      refine ⟨rfl, tyes_if ⟨.ref lf, rfl, .inl ⟨rfl, _, .inl (.inl el)⟩, .ref b, rfl, .ref lf, rfl, lf, _, rfl, .inl (.inl (.inl el)), b, (rest.length : Int), n + i, rfl, by omega, by omega, kb, by omega, fun r H2 h0 h1 k2 b2 o2 => ?_⟩⟩
      have hk : r.toNat < rest.length := by omega
      have ek : rest[r.toNat]? = some rest[r.toNat] := List.getElem?_eq_getElem hk
      have el2 : H2 lf = some (.lst rest) := b2 _ _ hlfb el
      have eD2 : (upd H2 lf (.lst (rest.eraseIdx r.toNat))) D = some (.lst out) := by
        rw [upd_ne hDl]
        exact b2 _ _ hDb eD
      refine ⟨lf, _, r, r.toNat, rest[r.toNat], rfl, rfl, el2, by omega, by omega, seqIndex_of h0 h1, ek, _, eD2, ?_, rest.eraseIdx r.toNat, out ++ [rest[r.toNat]], ?_, ?_, ?_, ?_, ?_, ?_⟩
      · have := pm.length_eq
        rw [List.length_append] at this
        exact small300 (by omega)
      · obtain ⟨x, y, z, k3, k4⟩ := k2
        refine ⟨x, y, z, ?_, k4⟩
        rw [upd_ne (Ne.symm hDb), upd_ne (Ne.symm hlfb)]
        exact k3
      · intro c o nc hc
        rw [upd_ne (ne_of_none hc nHD), upd_ne (ne_of_none hc nlf)]
        exact b2 _ _ nc (br c o nc hc)
      · rw [upd_ne (Ne.symm hDl), upd_same]
      · rw [upd_same]
      · rw [List.append_assoc]
        exact ((perm_pick ek).append_left out).trans pm
      · rw [List.length_eraseIdx, if_pos hk]
        omega
    · obtain ⟨rest, out, kb, br, el, eD, pm, ln⟩ := p1
      have e0 : rest = [] := List.eq_nil_of_length_eq_zero (by omega)
      rw [e0, List.append_nil] at pm
      exact qq H1 D out kb br nHD eD pm
end
end PT


set_option maxHeartbeats 4000000
/-! plants out of a fount -/
namespace PT
open PySem PySem.Spec PyProof.Rows L2
section
variable {P : Program} {w : World} {K : PySem.W.Frag} {mg : Str → Option Value} {base : Heap}
def spGrown : Sp := fun vs H Q _ => ∃ (b : Addr) (m : Int) (n : Nat), vs = [.ref b, .int m] ∧ 1 ≤ m ∧ m ≤ 40 ∧ PotAt H b n ∧ n ≤ 100000000000 ∧ ∀ (H' : Hp) (p : Addr) (pl : List Int), PotAt H' b (n + 100) → Bar b H H' → H p = none → PlantAt H' p pl → pl.length + 1 ≤ m → Q (.ref p) H'
theorem ok_grown (T : Tx K mg) : FnOk P w K mg base CX0 2 T.f__law_grown T.d__law_grown ["fount", "most"] spGrown := by
  refine T.F__law_grown.ok scLawGrown (fun vs H Q E h => ?_) (fun cdv A outer s H vs Q E hr h => ?_)
  · obtain ⟨b, m, n, rfl, _⟩ := h
    rfl
  · obtain ⟨b, m, n, rfl, hm1, hm2, hb, hn, q⟩ := h
    have nd := scLawGrown.nd
    refine ⟨_, (pss_cons (ps_set (i := 2) nd rfl (.inl rfl) (pe_ix ix_list (pe_lst (pa_cons (pe_op op_add pe_int (pe_call (ok_sip T) (hr.mono (by omega)) (by rfl) T.g__law_sip T.F__law_sip.kp T.b__law_sip .nil pass0 (pa_cons (pv 0) (pa_cons (pv 1) pa_nil)))) (pa_cons (pv 1) (pa_cons (pe_op op_add pe_int (pe_call (ok_sip T) (hr.mono (by omega)) (by rfl) T.g__law_sip T.F__law_sip.kp T.b__law_sip .nil pass0 (pa_cons (pv 0) (pa_cons (pe_callB (call_min2 rfl) (by rfl) T.n_min (by decide +kernel) (pa_cons (pv 1) (pa_cons pe_int pa_nil))) pa_nil)))) pa_nil)))) (pe_call (ok_sip T) (hr.mono (by omega)) (by rfl) T.g__law_sip T.F__law_sip.kp T.b__law_sip .nil pass0 (pa_cons (pv 0) (pa_cons pe_int pa_nil))) (fun _ _ => rfl)))
(pss_cons (ps_par (i := 3) (j := 4) rfl nd rfl rfl (by decide) rfl rfl (pa_cons (pe_call (ok_sip T) (hr.mono (by omega)) (by rfl) T.g__law_sip T.F__law_sip.kp T.b__law_sip .nil pass0 (pa_cons (pv 0) (pa_cons pe_int pa_nil))) (pa_cons (pe_lst pa_nil) pa_nil)) (by rfl))
(pss_cons (ps_for PassesOwn.never rfl (pi_range2 (by rfl) T.n_range (pa_cons pe_int (pa_cons (pv 2) pa_nil))) (pg_name (i := 5) nd rfl (.inl rfl))
(pss_cons (ps_set (i := 6) nd rfl (.inl rfl) (pe_call (ok_sip T) (hr.mono (by omega)) (by rfl) T.g__law_sip T.F__law_sip.kp T.b__law_sip .nil pass0 (pa_cons (pv 0) (pa_cons (pv 5) pa_nil))))
(pss_one (ps_expr (pe_bm PySem.F.plainAttrs_list PySem.F.slot_list_append PySem.F.type_list_append mt_append (pv 4) (pa_cons (pe_ix ix_list (pe_lst (pa_cons (pe_op op_sub (pv 5) pe_int) (pa_cons pe_int (pa_cons (pe_callB (call_max2 rfl) (by rfl) T.n_max (by decide +kernel) (pa_cons pe_int (pa_cons (pe_op op_sub (pv 5) pe_int) pa_nil))) (pa_cons (pe_op op_fdiv (pe_op op_sub (pv 5) pe_int) pe_int) (pa_cons (pv 6) pa_nil)))))) (pv 3) (fun _ _ => rfl)) pa_nil))))))
(pss_one (ps_ret (pe_callTy call_tuple_of (by rfl) T.n_tuple (by decide +kernel) (pa_cons (pv 4) pa_nil))))))), ?_⟩
    obtain ⟨m5, em5, m51, m52⟩ : ∃ M : Int, (if (5 : Int) < m then (5 : Int) else m) = M ∧ 1 ≤ M ∧ M ≤ m := ⟨_, rfl, by split <;> omega, by split <;> omega⟩
    refine ⟨.ref b, rfl, .int m, rfl, b, m, n, rfl, by omega, by omega, hb, by omega, fun r1 H1 a0 a1 k1 B1 O1 => ⟨_, _, rfl, rfl, .int m, rfl, .ref b, rfl, .int m, rfl, _, _, rfl, b, m5, n + 1, congrArg (fun z => [V.ref b, V.int z]) em5, by omega, by omega, k1, by omega, fun r2 H2 c0 c1 k2 B2 O2 => ⟨_, _, rfl, rfl, (by show 3 ≤ sizeLine; decide), fun z nz => ?_⟩⟩⟩
    have zb : z ≠ b := k2.some nz
    refine ⟨.ref b, rfl, b, 3, n + 2, rfl, by decide, by decide, k2.same (same_new nz), by omega, fun r3 H3 d0 d1 k3 B3 O3 => ?_⟩
    obtain ⟨v, ev, cv⟩ := three_at (u0 := .int (1 + r1)) (u1 := .int m) (u2 := .int (1 + r2)) d0 d1
    obtain ⟨M, rfl, M1, M2⟩ : ∃ W : Int, v = .int W ∧ 1 ≤ W ∧ W ≤ m := by
      rcases cv with rfl | rfl | rfl
      · exact ⟨_, rfl, by omega, by omega⟩
      · exact ⟨_, rfl, by omega, by omega⟩
      · exact ⟨_, rfl, by omega, by omega⟩
    refine ⟨z, _, r3, .int M, rfl, rfl, .inl (.inl (B3 _ _ zb upd_same)), ev, .ref b, rfl, b, 5, n + 3, rfl, by decide, by decide, k3, by omega, fun way H4 f0 f1 k4 B4 O4 => ⟨Nat.zero_le _, fun l nl => ⟨_, _, rfl, ?_⟩⟩⟩
    have B5' : Bar b H H4 := (B1.trans B2).trans ((Same.bar (same_new nz)).trans (B3.trans B4))
    have lb : l ≠ b := k4.some nl
    have l0 : H l = none := by
      cases e : H l with
      | none => rfl
      | some o => rw [B5' _ _ lb e] at nl; cases nl
    refine ⟨.int M, rfl, 1, M, rfl, ⟨by decide, by decide, by omega, by omega⟩, ?_⟩
    refine for_range (lo := 1) (n := (M - 1).toNat) (fun i σ H' => ∃ (y5 y6 : Option V) (pl : List Int), σ = [some (.ref b), some (.int m), some (.int M), some (.int way), some (.ref l), y5, y6] ∧ PotAt H' b (n + 4 + i) ∧ Bar b H H' ∧ H' l = some (.lst (pl.map V.int)) ∧ pl.length = i ∧ Plant pl)
      ⟨none, none, [], rfl, k4.same (same_new nl), B5'.trans (Same.bar (same_new nl)), upd_same, rfl, ⟨Nat.zero_le _, fun i x e => by simp at e⟩⟩ (fun i σ H' hi p1 => ?_) (fun σ H' p1 => ?_)
    · obtain ⟨y5, y6, pl, rfl, hB, sb, el, ln, hP⟩ := p1
      have hi2 : i ≤ 38 := by omega
      refine ⟨.ref b, rfl, .int (1 + ((i : Nat) : Int)), rfl, b, _, n + 4 + i, rfl, by omega, by omega, hB, by omega, fun r5 H5 g0 g1 k5 B5 O5 => ?_⟩
      have el5 := B5 _ _ lb el
      refine ⟨.ref l, rfl, .inl ⟨rfl, _, .inl (.inl el5)⟩, .int (1 + ((i : Nat) : Int)), rfl, _, 1, rfl, rfl, .int (1 + ((i : Nat) : Int)), rfl, _, 2, rfl, rfl, _, _, rfl, .int (1 + ((i : Nat) : Int)), rfl, _, 1, rfl, rfl, _, 2, rfl, rfl, ⟨by decide, by decide⟩, .int r5, rfl, (by show 5 ≤ sizeLine; decide), fun t nt => ?_⟩
      obtain ⟨v, ev, cv⟩ := five_at (u0 := .int (1 + ((i : Nat) : Int) - 1)) (u1 := .int 0) (u2 := .int (if 1 + ((i : Nat) : Int) - 2 > 0 then 1 + ((i : Nat) : Int) - 2 else 0)) (u3 := .int ((1 + ((i : Nat) : Int) - 1) / 2)) (u4 := .int r5) f0 f1
      obtain ⟨u, rfl, u0, u1⟩ : ∃ u : Int, v = .int u ∧ 0 ≤ u ∧ u ≤ i := by
        rcases cv with rfl | rfl | rfl | rfl | rfl
        · exact ⟨_, rfl, by omega, by omega⟩
        · exact ⟨_, rfl, by omega, by omega⟩
        · refine ⟨_, rfl, ?_, ?_⟩ <;> split <;> omega
        · exact ⟨_, rfl, by omega, by omega⟩
        · exact ⟨_, rfl, by omega, by omega⟩
      have tb : t ≠ b := k5.some nt
      refine ⟨.int way, rfl, t, _, way, .int u, rfl, rfl, .inl (.inl upd_same), ev, l, _, _, rfl, rfl, upd_at el5 nt, ?_, ?_⟩
      · rw [List.length_map, ln]
        exact small300 (by omega)
      · refine ⟨_, _, pl ++ [u], rfl, ?_, ?_, ?_, ?_, hP.snoc (by omega) (by omega) (by omega)⟩
        · obtain ⟨x, y, z, k7, k8, k9, k10, k11⟩ := k5.same (same_new nt)
          exact ⟨x, y, z, by rw [upd_ne (Ne.symm lb)]; exact k7, k8, k9, k10, by omega⟩
        · intro c o nc hc
          rw [upd_ne (ne_of_none hc l0)]
          exact same_new nt _ _ (B5 _ _ nc (sb c o nc hc))
        · rw [upd_same, List.map_append]
          rfl
        · rw [List.length_append, ln]
          rfl
    · obtain ⟨y5, y6, pl, rfl, hB, sb, el, ln, hP⟩ := p1
      refine ⟨.ref l, rfl, l, _, rfl, .inl ⟨.inl (.inl el), fun p np => ?_⟩⟩
      have p0 : H p = none := sb.freeP hB np
      exact q _ p pl ((hB.same (same_new np)).mono (by omega)) (sb.trans (Same.bar (same_new np))) p0 ⟨upd_same, hP⟩ (by omega)
end
end PT


set_option maxHeartbeats 4000000
/-! stocks out of a fount -/
namespace PT
open PySem PySem.Spec PyProof.Rows L2
theorem six_at {u0 u1 u2 u3 u4 u5 : V} {r : Int} (h0 : 0 ≤ r) (h6 : r < 6) : ∃ v, atI [u0, u1, u2, u3, u4, u5] r = some v ∧ (v = u0 ∨ v = u1 ∨ v = u2 ∨ v = u3 ∨ v = u4 ∨ v = u5) := by
  have c : r = 0 ∨ r = 1 ∨ r = 2 ∨ r = 3 ∨ r = 4 ∨ r = 5 := by omega
  rcases c with rfl | rfl | rfl | rfl | rfl | rfl
  · exact ⟨_, rfl, .inl rfl⟩
  · exact ⟨_, rfl, .inr (.inl rfl)⟩
  · exact ⟨_, rfl, .inr (.inr (.inl rfl))⟩
  · exact ⟨_, rfl, .inr (.inr (.inr (.inl rfl)))⟩
  · exact ⟨_, rfl, .inr (.inr (.inr (.inr (.inl rfl))))⟩
  · exact ⟨_, rfl, .inr (.inr (.inr (.inr (.inr rfl))))⟩
/-- different numbers, none of them great -/
structure NumsOk (m : Nat) (ns : List Int) : Prop where
  len : ns.length = m
  nd : ns.Nodup
  sm : ∀ x ∈ ns, -(10 ^ 36) ≤ x ∧ x ≤ 10 ^ 36
theorem nums_row {m : Nat} {l s : Int} (hs : 1 ≤ s) (h0 : -(10 ^ 36) ≤ l) (h1 : ∀ i : Nat, i < m → l + (i : Int) * s ≤ 10 ^ 36) : NumsOk m ((List.range m).map fun i : Nat => l + (0 + (i : Int)) * s) := by
  refine ⟨by rw [List.length_map, List.length_range], ?_, fun x hx => ?_⟩
  · rw [List.Nodup, List.pairwise_map]
    refine List.nodup_range.imp fun {a b} ne e => ne ?_
    have z : (0 + (a : Int)) * s = (0 + (b : Int)) * s := by omega
    have y := Int.eq_of_mul_eq_mul_right (by omega : s ≠ 0) z
    omega
  · obtain ⟨i, hi, rfl⟩ := List.mem_map.mp hx
    have hi := List.mem_range.mp hi
    have z := h1 i hi
    have y : 0 ≤ (i : Int) * s := Int.mul_nonneg (by omega) (by omega)
    rw [Int.zero_add]
    omega
section
variable {P : Program} {w : World} {K : PySem.W.Frag} {mg : Str → Option Value} {base : Heap}
def spFilled : Sp := fun vs H Q _ => ∃ (b p : Addr) (pl : List Int) (n : Nat), vs = [.ref b, .ref p] ∧ PotAt H b n ∧ n ≤ 10000000000 ∧ PlantAt H p pl ∧ ∀ (H' : Hp) (q : Addr) (ss : List Int), PotAt H' b (n + 200) → Bar b H H' → H q = none → H' q = some (.tup (ss.map V.int)) → StockOk pl ss → Q (.ref q) H'
theorem ok_filled (T : Tx K mg) : FnOk P w K mg base CX0 3 T.f__law_filled T.d__law_filled ["fount", "plant"] spFilled := by
  refine T.F__law_filled.ok scLawFilled (fun vs H Q E h => ?_) (fun cdv A outer s H vs Q E hr h => ?_)
  · obtain ⟨b, p, pl, n, rfl, _⟩ := h
    rfl
  · obtain ⟨b, p, pl, n, rfl, hb, hn, hP, qq⟩ := h
    have nd := scLawFilled.nd
    have lp := hP.ok.len
    refine ⟨_, (pss_cons (ps_asg (pe_tup (pa_cons (pe_op op_add (pe_callB call_len_seq (by rfl) T.n_len PySem.boot_len (pa_cons (pv 1) pa_nil)) pe_int) (pa_cons (pe_call (ok_sip T) (hr.mono (by omega)) (by rfl) T.g__law_sip T.F__law_sip.kp T.b__law_sip .nil pass0 (pa_cons (pv 0) (pa_cons pe_int pa_nil))) (pa_cons (pe_call (ok_sip T) (hr.mono (by omega)) (by rfl) T.g__law_sip T.F__law_sip.kp T.b__law_sip .nil pass0 (pa_cons (pv 0) (pa_cons pe_int pa_nil))) pa_nil)))) (pg_tup (by rfl) (pgs_cons (pg_name (i := 2) nd rfl (.inl rfl)) (pgs_cons (pg_name (i := 3) nd rfl (.inr rfl)) (pgs_cons (pg_name (i := 4) nd rfl (.inl rfl)) pgs_nil)))))
(pss_cons (ps_set (i := 5) nd rfl (.inr rfl) (pe_ix ix_list (pe_lst (pa_cons pe_int (pa_cons (pe_op op_sub (pe_call (ok_sip T) (hr.mono (by omega)) (by rfl) T.g__law_sip T.F__law_sip.kp T.b__law_sip .nil pass0 (pa_cons (pv 0) (pa_cons pe_int pa_nil))) pe_int) (pa_cons (pe_op op_sub pe_int (pe_op op_pow pe_int pe_int)) (pa_cons (pe_op op_sub (pe_op op_pow pe_int pe_int) pe_int) (pa_cons (pe_op op_sub pe_int (pe_call (ok_sip T) (hr.mono (by omega)) (by rfl) T.g__law_sip T.F__law_sip.kp T.b__law_sip .nil pass0 (pa_cons (pv 0) (pa_cons (pe_op op_pow pe_int pe_int) pa_nil)))) pa_nil)))))) (pv 3) (fun _ _ => rfl)))
(pss_cons (ps_setLc (i := 7) (own := [("at", 6)]) (g := gName 6) (tt := tYes) (te := (tOp (rI0 fun i j => .int (i + j)) (tVar 5) (tOp (rI CMul fun i j => .int (i * j)) (tVar 6) (tOp (rIxL K) (tLst (tCons (tC (.int 1)) (tCons (tC (.int 7)) (tCons (tOp (rI CPow fun i j => .int (i ^ j.toNat)) (tC (.int 10)) (tC (.int 34))) (tCons (tC (.int 1)) (tCons (tC (.int 1)) tNil)))))) (tVar 3))))) (by rfl) nd rfl rfl (sw_true rfl rfl rfl (by decide +kernel)) (pi_range1 (by rfl) T.n_range (pa_cons (pv 2) pa_nil))
(blkOk_by (N := ["fount", "plant", "count", "style", "way", "last", "at", "found", "wide"]) (sc := defScope sLawFilled) (by decide +kernel)) (fun _ _ _ _ _ => (pg_name (i := 6) nd rfl (.inl rfl))) (fun _ _ _ _ _ => pts_nil) (fun _ _ _ _ _ => (pe_op op_add (pv 5) (pe_op op_mul (pv 6) (pe_ix ix_list (pe_lst (pa_cons pe_int (pa_cons pe_int (pa_cons (pe_op op_pow pe_int pe_int) (pa_cons pe_int (pa_cons pe_int pa_nil)))))) (pv 3) (fun _ _ => rfl))))))
(Evl.pss_cut (ps_if (pt_cmpR op_eq (pv 3) pe_int (nomark _))
(pss_cons (ps_set (i := 7) nd rfl (.inl rfl) (pe_lst pa_nil))
(pss_one (ps_for PassesOwn.never rfl (pi_range1 (by rfl) T.n_range (pa_cons (pv 2) pa_nil)) (pg_name (i := 6) nd rfl (.inl rfl))
(pss_cons (ps_set (i := 8) nd rfl (.inl rfl) (pe_ix ix_list (pe_lst (pa_cons (pe_op op_pow pe_int pe_int) (pa_cons (pe_op op_pow pe_int pe_int) (pa_cons (pe_op op_pow pe_int pe_int) (pa_cons (pe_op op_pow pe_int pe_int) (pa_cons (pe_op op_pow pe_int pe_int) (pa_cons (pe_op op_pow pe_int pe_int) pa_nil))))))) (pe_call (ok_sip T) (hr.mono (by omega)) (by rfl) T.g__law_sip T.F__law_sip.kp T.b__law_sip .nil pass0 (pa_cons (pv 0) (pa_cons pe_int pa_nil))) (fun _ _ => rfl)))
(pss_cons (ps_set (i := 5) nd rfl (.inr rfl) (pe_op op_add (pe_op op_add (pv 5) pe_int) (pe_call (ok_sip T) (hr.mono (by omega)) (by rfl) T.g__law_sip T.F__law_sip.kp T.b__law_sip .nil pass0 (pa_cons (pv 0) (pa_cons (pv 8) pa_nil)))))
(pss_one (ps_expr (pe_bm PySem.F.plainAttrs_list PySem.F.slot_list_append PySem.F.type_list_append mt_append (pv 7) (pa_cons (pv 5) pa_nil))))))))) pss_nil)
(Evl.pss_cut (ps_if (pt_cmpR op_eq (pv 4) pe_int (nomark _))
(pss_one (ps_set (i := 7) nd rfl (.inl rfl) (pe_call (ok_mixed T) (hr.mono (by omega)) (by rfl) T.g__law_mixed T.F__law_mixed.kp T.b__law_mixed .nil pass0 (pa_cons (pv 0) (pa_cons (pv 7) pa_nil))))) pss_nil)
(pss_one (ps_ret (pe_callTy call_tuple_of (by rfl) T.n_tuple (by decide +kernel) (pa_cons (pe_ifExp (pt_cmpR op_eq (pv 4) pe_int (nomark _)) (pe_revL (pv 7)) (pv 7)) pa_nil))))))))), ?_⟩
    have el : ((pl.map V.int).length : Nat) = pl.length := List.length_map ..
    have pb : p ≠ b := hb.neT hP.at_
    refine ⟨.ref p, rfl, p, _, rfl, .inr hP.seq, _, 1, rfl, rfl, .ref b, rfl, b, 5, n, rfl, by decide, by decide, hb, by omega, fun st H1 a0 a1 k1 B1 O1 => ⟨.ref b, rfl, b, 3, n + 1, rfl, by decide, by decide, k1, by omega, fun way H2 b0 b1 k2 B2 O2 => ⟨(by show 3 ≤ sizeLine; decide), fun t nt => ⟨t, _, rfl, .inl (.inl upd_same), rfl, _, _, rfl, _, _, rfl, _, _, rfl, rfl, ?_⟩⟩⟩⟩
    rw [el]
    have s3 := same_new (o := .tup [V.int (((pl.length : Nat) : Int) + 1), .int st, .int way]) nt
    have k3 := k2.same s3
    have B3 := (B1.trans B2).trans (Same.bar s3)
    generalize upd H2 t (.tup [V.int (((pl.length : Nat) : Int) + 1), .int st, .int way]) = H3 at k3 B3 ⊢
    clear s3 nt k2 B2 O2 k1 B1 O1
    -- the first number
    refine ⟨.ref b, rfl, b, 50, n + 2, rfl, by decide, by decide, k3, by omega, fun r1 H4 c0 c1 k4 B4 O4 => ⟨_, _, rfl, rfl, 10, 36, rfl, rfl, ⟨by decide, by decide, by decide⟩, _, _, rfl, rfl, 10, 36, rfl, rfl, ⟨by decide, by decide, by decide⟩, _, _, rfl, rfl, .ref b, rfl, 10, 20, rfl, rfl, ⟨by decide, by decide, by decide⟩, b, _, n + 3, rfl, by decide, by decide, k4, by omega, fun r2 H5 d0 d1 k5 B5 O5 => ⟨_, _, rfl, rfl, (by show 5 ≤ sizeLine; decide), fun z nz => ?_⟩⟩⟩
    have zb : z ≠ b := k5.some nz
    have k6 := k5.same (same_new (o := .lst [V.int 0, .int (r1 - 25), .int (0 - 10 ^ (Int.toNat 36)), .int (10 ^ (Int.toNat 36) - 40), .int (0 - r2)]) nz)
    have B6 := ((B3.trans B4).trans B5).trans (Same.bar (same_new (o := .lst [V.int 0, .int (r1 - 25), .int (0 - 10 ^ (Int.toNat 36)), .int (10 ^ (Int.toNat 36) - 40), .int (0 - r2)]) nz))
    obtain ⟨L0, S, eL, eS, S1, L1, L2', hL4⟩ : ∃ L0 S : Int, atI [V.int 0, .int (r1 - 25), .int (0 - 10 ^ (Int.toNat 36)), .int (10 ^ (Int.toNat 36) - 40), .int (0 - r2)] st = some (.int L0) ∧ atI [V.int 1, .int 7, .int (10 ^ (Int.toNat 34)), .int 1, .int 1] st = some (.int S) ∧ 1 ≤ S ∧ -(10 ^ 36) ≤ L0 ∧ (∀ i : Nat, i < pl.length + 1 → L0 + (i : Int) * S ≤ 10 ^ 36) ∧ (st = 4 → -(10 ^ 20) ≤ L0 ∧ L0 ≤ 0) := by
      have d1' : r2 < 10 ^ (Int.toNat 20) := d1
      have h20 : (10 : Int) ^ (Int.toNat 20) = 10 ^ 20 := by decide
      have h36 : (10 : Int) ^ (Int.toNat 36) = 10 ^ 36 := by decide
      have h34 : (10 : Int) ^ (Int.toNat 34) = 10 ^ 34 := by decide
      rw [h20] at d1'
      have cs : st = 0 ∨ st = 1 ∨ st = 2 ∨ st = 3 ∨ st = 4 := by omega
      rcases cs with rfl | rfl | rfl | rfl | rfl
      · exact ⟨_, _, rfl, rfl, by decide, by decide, fun i hi => by omega, fun e => by omega⟩
      · exact ⟨_, _, rfl, rfl, by decide, by omega, fun i hi => by omega, fun e => by omega⟩
      · refine ⟨_, _, rfl, rfl, by decide, by rw [h36]; omega, fun i hi => ?_, fun e => by omega⟩
        rw [h36, h34]
        omega
      · refine ⟨_, _, rfl, rfl, by decide, by rw [h36]; omega, fun i hi => ?_, fun e => by omega⟩
        rw [h36]
        omega
      · exact ⟨_, _, rfl, rfl, by decide, by omega, fun i hi => by omega, fun e => ⟨by omega, by omega⟩⟩
    refine ⟨.int st, rfl, z, _, st, .int L0, rfl, rfl, .inl (.inl upd_same), eL, ?_⟩
    generalize upd H5 z (.lst [V.int 0, .int (r1 - 25), .int (0 - 10 ^ (Int.toNat 36)), .int (10 ^ (Int.toNat 36) - 40), .int (0 - r2)]) = H6 at k6 B6 ⊢
    clear nz zb k5 B5 O5 k4 B4 O4 k3 B3 eL c0 c1 d0 d1
    -- the numbers
    have ez : (((pl.length : Nat) : Int) + 1).toNat = pl.length + 1 := by omega
    refine ⟨.int (((pl.length : Nat) : Int) + 1), rfl, _, rfl, by omega, by omega, fun D nD => ?_⟩
    rw [ez]
    refine lc_range (lo := 0) (n := pl.length + 1) (fun i G => Same H6 G ∧ G D = some (.lst (((List.range i).map fun i : Nat => L0 + (0 + (i : Int)) * S).map V.int))) ⟨same_new nD, upd_same⟩ (fun i G hi p1 => ?_) (fun G p1 => ?_)
    · obtain ⟨sG, eD⟩ := p1
      refine ⟨rfl, tyes_if ⟨.int L0, rfl, .int (0 + (i : Int)), rfl, 10, 34, rfl, rfl, ⟨by decide, by decide, by decide⟩, (by show 5 ≤ sizeLine; decide), fun y ny => ⟨.int st, rfl, y, _, st, .int S, rfl, rfl, .inl (.inl upd_same), eS, _, _, rfl, rfl, .inl ⟨by omega, by omega⟩, _, _, rfl, rfl, _, same_new ny _ _ eD, ?_, fun c o h => ?_, ?_⟩⟩⟩
      · rw [List.length_map, List.length_map, List.length_range]
        exact small300 (by omega)
      · rw [upd_ne (ne_of_none h nD)]
        exact same_new ny _ _ (sG _ _ h)
      · rw [upd_same, List.range_succ, List.map_append, List.map_append]
        rfl
    obtain ⟨sG, eD⟩ := p1
    have Db : D ≠ b := k6.some nD
    have NO := nums_row (m := pl.length + 1) S1 L1 L2'
    have k7 := k6.same sG
    have B7 := B6.trans (Same.bar sG)
    revert eD NO
    generalize (List.range (pl.length + 1)).map (fun i : Nat => L0 + (0 + (i : Int)) * S) = ns
    intro eD NO
    clear sG k6 B6 nD
    refine ⟨fun σ' G => ∃ (f : Addr) (ms : List Int) (y5 y6 y8 : Option V), σ' = [some (.ref b), some (.ref p), some (.int (((pl.length : Nat) : Int) + 1)), some (.int st), some (.int way), y5, y6, some (.ref f), y8] ∧ PotAt G b (n + 4 + 90) ∧ Bar b H G ∧ f ≠ b ∧ G f = some (.lst (ms.map V.int)) ∧ NumsOk (pl.length + 1) ms, ?_, ?_⟩
    · refine ⟨.int st, rfl, rfl, _, rfl, ?_⟩
      by_cases h4 : st = 4
      · rw [decide_eq_true (congrArg V.int h4)]
        obtain ⟨q0, q1⟩ := hL4 h4
        refine iteT ⟨Nat.zero_le _, fun f nf => ?_⟩
        have fb : f ≠ b := k7.some nf
        have k8 := k7.same (same_new (o := .lst []) nf)
        have B8 := B7.trans (Same.bar (same_new (o := .lst []) nf))
        have f0 : H f = none := B7.freeP k7 nf
        refine ⟨.int (((pl.length : Nat) : Int) + 1), rfl, _, rfl, by omega, by omega, ?_⟩
        rw [ez]
        refine for_range (lo := 0) (n := pl.length + 1) (fun i σ G => ∃ (l : Int) (ms : List Int) (y6 y8 : Option V), σ = [some (.ref b), some (.ref p), some (.int (((pl.length : Nat) : Int) + 1)), some (.int st), some (.int way), some (.int l), y6, some (.ref f), y8] ∧ PotAt G b (n + 4 + 2 * i) ∧ Bar b H G ∧ G f = some (.lst (ms.map V.int)) ∧ ms.length = i ∧ ms.Pairwise (· < ·) ∧ (∀ x ∈ ms, -(10 ^ 20) ≤ x ∧ x ≤ l) ∧ -(10 ^ 20) ≤ l ∧ l ≤ i * 10 ^ 34)
          ⟨L0, [], _, _, rfl, k8, B8, upd_same, rfl, .nil, fun x hx => (by cases hx), q0, by omega⟩ (fun i σ G hi p1 => ?_) (fun σ G p1 => ?_)
        · obtain ⟨l, ms, y6, y8, rfl, kG, BG, ef, lm, pw, bd, l0, l1⟩ := p1
          refine ⟨10, 3, rfl, rfl, ⟨by decide, by decide, by decide⟩, 10, 7, rfl, rfl, ⟨by decide, by decide, by decide⟩, 10, 12, rfl, rfl, ⟨by decide, by decide, by decide⟩, 10, 18, rfl, rfl, ⟨by decide, by decide, by decide⟩, 10, 25, rfl, rfl, ⟨by decide, by decide, by decide⟩, 10, 33, rfl, rfl, ⟨by decide, by decide, by decide⟩, (by show 6 ≤ sizeLine; decide), fun y ny => ?_⟩
          have yb : y ≠ b := kG.some ny
          refine ⟨.ref b, rfl, b, 6, n + 4 + 2 * i, rfl, by decide, by decide, kG.same (same_new ny), by omega, fun r Ga e0 e1 ka Ba Oa => ?_⟩
          obtain ⟨v, ev, cv⟩ := six_at (u0 := .int (10 ^ (Int.toNat 3))) (u1 := .int (10 ^ (Int.toNat 7))) (u2 := .int (10 ^ (Int.toNat 12))) (u3 := .int (10 ^ (Int.toNat 18))) (u4 := .int (10 ^ (Int.toNat 25))) (u5 := .int (10 ^ (Int.toNat 33))) e0 e1
          obtain ⟨wd, rfl, w0, w1⟩ : ∃ x : Int, v = .int x ∧ 0 < x ∧ x ≤ 10 ^ 33 := by
            rcases cv with rfl | rfl | rfl | rfl | rfl | rfl <;> exact ⟨_, rfl, by decide, by decide⟩
          have kb := ka
          refine ⟨y, _, r, .int wd, rfl, rfl, .inl (.inl (Ba _ _ yb upd_same)), ev, ?_⟩
          refine ⟨.int l, rfl, l, 1, rfl, rfl, .ref b, rfl, .int wd, rfl, b, wd, n + 4 + 2 * i + 1, rfl, w0, by omega, ka, by omega, fun r3 Hc g0 g1 kc Bc Oc => ⟨_, _, rfl, rfl, ?_⟩⟩
          have ef2 : Hc f = some (.lst (ms.map V.int)) := Bc _ _ fb (Ba _ _ fb (same_new ny _ _ ef))
          refine ⟨.ref f, rfl, .inl ⟨rfl, _, .inl (.inl ef2)⟩, .int (l + 1 + r3), rfl, f, _, _, rfl, rfl, ef2, ?_, l + 1 + r3, ms ++ [l + 1 + r3], _, _, rfl, ?_, ?_, ?_, ?_, ?_, ?_, ?_, ?_⟩
          · rw [List.length_map, lm]
            exact small300 (by omega)
          · obtain ⟨x1, x2, x3, x4, x5, x6, x7, x8⟩ := kc
            exact ⟨x1, x2, x3, by rw [upd_ne (Ne.symm fb)]; exact x4, x5, x6, x7, by omega⟩
          · intro c o nc hc
            rw [upd_ne (ne_of_none hc f0)]
            exact Bc _ _ nc (Ba _ _ nc (same_new ny _ _ (BG c o nc hc)))
          · rw [upd_same, List.map_append]
            rfl
          · rw [List.length_append, lm]
            rfl
          · refine List.pairwise_append.mpr ⟨pw, List.pairwise_singleton .., fun x hx y hy => ?_⟩
            rw [List.mem_singleton.mp hy]
            have := (bd x hx).2
            omega
          · intro x hx
            rcases List.mem_append.mp hx with hx | hx
            · have := bd x hx
              omega
            · rw [List.mem_singleton.mp hx]
              omega
          · omega
          · omega
        · obtain ⟨l, ms, y6, y8, rfl, kG, BG, ef, lm, pw, bd, l0, l1⟩ := p1
          refine ⟨f, ms, _, _, _, rfl, kG.mono (by omega), BG, fb, ef, lm, pw.imp fun h e => by omega, fun x hx => ?_⟩
          have := bd x hx
          omega
      · rw [decide_eq_false fun e => h4 (V.int.inj e)]
        exact iteF ⟨D, ns, _, _, _, rfl, k7.mono (by omega), B7, Db, eD, NO⟩
    rintro σ' G ⟨f, ms, y5, y6, y8, rfl, kG, BG, fb, ef, NM⟩
    clear k7 B7 Db eD NO eS hL4 L2' L1 S1
    refine ⟨fun σ' G => ∃ (f : Addr) (ms : List Int) (y5 y6 y8 : Option V), σ' = [some (.ref b), some (.ref p), some (.int (((pl.length : Nat) : Int) + 1)), some (.int st), some (.int way), y5, y6, some (.ref f), y8] ∧ PotAt G b (n + 4 + 150) ∧ Bar b H G ∧ G f = some (.lst (ms.map V.int)) ∧ NumsOk (pl.length + 1) ms, ?_, ?_⟩
    · refine ⟨.int way, rfl, rfl, _, rfl, ?_⟩
      by_cases h2 : way = 2
      · rw [decide_eq_true (congrArg V.int h2)]
        refine iteT ⟨.ref b, rfl, .ref f, rfl, b, f, ms.map V.int, n + 4 + 90, rfl, kG, by omega, .inl ef, by rw [List.length_map, NM.len]; omega, fun Ha l ys ka Ba nl el2 pm => ?_⟩
        rw [List.length_map, NM.len] at ka
        obtain ⟨zs, ez2, pz⟩ : ∃ zs : List Int, ys = zs.map V.int ∧ zs.Perm ms := by
          have hall : ∀ v ∈ ys, ∃ i : Int, v = .int i := fun v hv => by
            obtain ⟨i, _, e⟩ := List.mem_map.mp (pm.subset hv)
            exact ⟨i, e.symm⟩
          obtain ⟨zs, rfl⟩ : ∃ zs : List Int, ys = zs.map V.int := by
            clear pm el2
            induction ys with
            | nil => exact ⟨[], rfl⟩
            | cons y ys ih =>
              obtain ⟨i, rfl⟩ := hall y List.mem_cons_self
              obtain ⟨zs, rfl⟩ := ih fun v hv => hall v (List.mem_cons_of_mem _ hv)
              exact ⟨i :: zs, rfl⟩
          refine ⟨zs, rfl, ?_⟩
          have f : Function.Injective V.int := fun _ _ y => V.int.inj y
          have z := pm.map (fun v : V => match v with | .int i => i | _ => 0)
          rw [List.map_map, List.map_map] at z
          have e : ((fun v : V => match v with | .int i => i | _ => 0) ∘ V.int) = id := rfl
          rw [e, List.map_id, List.map_id] at z
          exact z
        subst ez2
        exact ⟨l, zs, _, _, _, rfl, ka.mono (by omega), BG.trans Ba, el2, pz.length_eq.trans NM.len, pz.nodup_iff.mpr NM.nd, fun x hx => NM.sm x (pz.subset hx)⟩
      · rw [decide_eq_false fun e => h2 (V.int.inj e)]
        exact iteF ⟨f, ms, _, _, _, rfl, kG.mono (by omega), BG, ef, NM⟩
    clear kG BG fb ef NM
    rintro σ' G ⟨f, ms, y5, y6, y8, rfl, kG, BG, ef, NM⟩
    refine ⟨.int way, rfl, rfl, _, rfl, ?_⟩
    by_cases h1 : way = 1
    · rw [decide_eq_true (congrArg V.int h1)]
      refine iteT ⟨.ref f, rfl, f, _, rfl, .inl (.inl ef), fun g ng => ?_⟩
      have sg := same_new (o := .lst (ms.map V.int).reverse) ng
      refine ⟨g, _, rfl, .inl ⟨.inl (.inl upd_same), fun q nq => ?_⟩⟩
      have s2 := sg.trans (same_new (o := .tup (ms.map V.int).reverse) nq)
      have q0 : H q = none := BG.freeP kG (sg.free nq)
      refine qq _ q ms.reverse ((kG.same s2).mono (by omega)) (BG.trans (Same.bar s2)) q0 (by rw [upd_same, List.map_reverse]) ⟨by rw [List.length_reverse]; exact NM.len, List.pairwise_reverse.mpr (NM.nd.imp fun h => Ne.symm h), fun x hx => NM.sm x (List.mem_reverse.mp hx)⟩
    · rw [decide_eq_false fun e => h1 (V.int.inj e)]
      refine iteF ⟨.ref f, rfl, f, _, rfl, .inl ⟨.inl (.inl ef), fun q nq => ?_⟩⟩
      have s2 := same_new (o := .tup (ms.map V.int)) nq
      exact qq _ q ms ((kG.same s2).mono (by omega)) (BG.trans (Same.bar s2)) (BG.freeP kG nq) upd_same ⟨NM.len, NM.nd, NM.sm⟩
end
end PT

set_option maxHeartbeats 4000000
/-! plain data in the heap; displays of written values -/
namespace PT
open PySem PySem.Spec PyProof.Rows L2 LamX NdefX
/-- the heap without one list that is written to -/
def hide (H : Hp) (b : Addr) : Hp := fun c => if c = b then none else H c
mutual
/-- v stands for d, no locked tuple within -/
inductive DP (H : Hp) : V → PyData → Prop
  | non : DP H .non .none
  | bl (b : Bool) : DP H (.bl b) (.bool b)
  | int (i : Int) : DP H (.int i) (.int i)
  | str (x : Str) : DP H (.str x) (.str x)
  | dic {a : Addr} : H a = some (.dK []) → DP H (.ref a) (.dict [])
  | lst {a : Addr} {xs : List V} {ds : List PyData} : H a = some (.lst xs) → DPs H xs ds → DP H (.ref a) (.list ds)
  | tup {a : Addr} {xs : List V} {ds : List PyData} : H a = some (.tup xs) → DPs H xs ds → DP H (.ref a) (.tuple ds)
inductive DPs (H : Hp) : List V → List PyData → Prop
  | nil : DPs H [] []
  | cons {v : V} {d : PyData} {vs : List V} {ds : List PyData} : DP H v d → DPs H vs ds → DPs H (v :: vs) (d :: ds)
end
mutual
theorem DP.ext {H H' : Hp} (e : ExtN H H') : ∀ (d : PyData) (v : V), DP H v d → DP H' v d
  | .none, _, h => by cases h; exact .non
  | .bool b, _, h => by cases h; exact .bl b
  | .int i, _, h => by cases h; exact .int i
  | .str x, _, h => by cases h; exact .str x
  | .list ds, _, h => by
    cases h with
    | lst a b => exact .lst (extN_lst e a) (DPs.ext e ds _ b)
  | .tuple ds, _, h => by
    cases h with
    | tup a b => exact .tup (extN_tup e a) (DPs.ext e ds _ b)
  | .dict _, _, h => by
    cases h with
    | dic a => exact .dic (e _ _ a fun _ z => by cases z)
theorem DPs.ext {H H' : Hp} (e : ExtN H H') : ∀ (ds : List PyData) (vs : List V), DPs H vs ds → DPs H' vs ds
  | [], _, h => by cases h; exact .nil
  | d :: ds, _, h => by
    cases h with
    | cons a b => exact .cons (DP.ext e d _ a) (DPs.ext e ds _ b)
end
mutual
theorem DP.dd {H : Hp} : ∀ (d : PyData) (v : V), DP H v d → DD H v d
  | .none, _, h => by cases h; exact .non
  | .bool b, _, h => by cases h; exact .bl b
  | .int i, _, h => by cases h; exact .int i
  | .str x, _, h => by cases h; exact .str x
  | .list ds, _, h => by
    cases h with
    | lst a b => exact .lst a (DPs.dd ds _ b)
  | .tuple ds, _, h => by
    cases h with
    | tup a b => exact .tup a (DPs.dd ds _ b)
  | .dict _, _, h => by
    cases h with
    | dic a => exact .dic a
theorem DPs.dd {H : Hp} : ∀ (ds : List PyData) (vs : List V), DPs H vs ds → DDs H vs ds
  | [], _, h => by cases h; exact .nil
  | d :: ds, _, h => by
    cases h with
    | cons a b => exact .cons (DP.dd d _ a) (DPs.dd ds _ b)
end
theorem DP.same {H H' : Hp} (e : Same H H') {v : V} {d : PyData} (h : DP H v d) : DP H' v d := DP.ext (same_extN e) d v h
theorem DPs.same {H H' : Hp} (e : Same H H') {vs : List V} {ds : List PyData} (h : DPs H vs ds) : DPs H' vs ds := DPs.ext (same_extN e) ds vs h
theorem DPs.len {H : Hp} : ∀ {xs : List V} {ds : List PyData}, DPs H xs ds → xs.length = ds.length
  | _, _, .nil => rfl
  | _, _, .cons _ b => by rw [List.length_cons, List.length_cons, b.len]
theorem DPs.ints {H : Hp} : ∀ ns : List Int, DPs H (ns.map V.int) (ns.map PyData.int)
  | [] => .nil
  | n :: r => .cons (.int n) (DPs.ints r)
theorem DPs.rep {H : Hp} {v : V} {d : PyData} (h : DP H v d) : ∀ n : Nat, DPs H (List.replicate n v) (List.replicate n d)
  | 0 => .nil
  | n + 1 => .cons h (DPs.rep h n)
theorem DPs.get {H : Hp} : ∀ {xs : List V} {ds : List PyData}, DPs H xs ds → ∀ (i : Nat) (x : V), xs[i]? = some x → ∃ d, ds[i]? = some d ∧ DP H x d
  | _, _, .cons a _, 0, x, e => by
    cases e
    exact ⟨_, rfl, a⟩
  | _, _, .cons _ b, i + 1, x, e => b.get i x e
theorem DPs.mem {H : Hp} {xs : List V} {ds : List PyData} (h : DPs H xs ds) {x : V} (hx : x ∈ xs) : ∃ d ∈ ds, DP H x d := by
  obtain ⟨i, e⟩ := List.mem_iff_getElem?.mp hx
  obtain ⟨d, e2, z⟩ := h.get i x e
  exact ⟨d, List.mem_of_getElem? e2, z⟩
theorem DP.kd {H : Hp} {v : V} {d : PyData} (h : DP H v d) : ∃ n, Kd H v n := by
  cases h with
  | non => exact ⟨_, .non⟩
  | bl b => exact ⟨_, .bl b⟩
  | int i => exact ⟨_, .int i⟩
  | str x => exact ⟨_, .str x⟩
  | dic a => exact ⟨_, .dic a⟩
  | lst a b => exact ⟨_, .lst a⟩
  | tup a b => exact ⟨_, .tup a⟩
/-! ### what the checks say of data -/
def okPy (lo hi : Int) : PyData → Bool
  | .int j => decide (lo ≤ j) && decide (j ≤ hi)
  | _ => false
def okPys : Nat → List PyData → Bool
  | _, [] => true
  | i, d :: ds => okPy 0 (i : Nat) d && okPys (i + 1) ds
def fitsD : PyData → Bool
  | .tuple ds => decide (ds.length < 40) && okPys 0 ds
  | _ => false
theorem DP.okV {H : Hp} {v : V} {d : PyData} (h : DP H v d) (lo hi : Int) : okV lo hi v = okPy lo hi d := by
  cases h <;> rfl
theorem okPys_all {H : Hp} : ∀ {xs : List V} {ds : List PyData} (k : Nat), DPs H xs ds → ((List.range xs.length).map fun i => PT.okV 0 ((k + i : Nat) : Int) (xs.getD i .non)).all id = okPys k ds
  | _, _, k, .nil => rfl
  | _, _, k, .cons (v := v) (vs := vs) a b => by
    rw [List.length_cons, List.range_succ_eq_map, List.map_cons, List.all_cons, List.map_map]
    have ih := okPys_all (k + 1) b
    have e : ((fun i => PT.okV 0 ((k + i : Nat) : Int) ((v :: vs).getD i V.non)) ∘ Nat.succ) = fun i => PT.okV 0 ((k + 1 + i : Nat) : Int) (vs.getD i V.non) := by
      funext i
      show PT.okV 0 ((k + (i + 1) : Nat) : Int) _ = _
      rw [show k + (i + 1) = k + 1 + i by omega]
      rfl
    rw [e, ih, show okPys k (_ :: _) = (okPy 0 (k : Nat) _ && okPys (k + 1) _) from rfl, ← a.okV]
    rfl
theorem DP.fits {H : Hp} {v : V} {d : PyData} (h : DP H v d) (small : ∀ ds, d = .tuple ds → ds.length ≤ 300) : FitsIs H v (fitsD d) := by
  cases h with
  | non => exact .no .non (by decide)
  | bl b => exact .no (.bl b) (by decide)
  | int i => exact .no (.int i) (by decide)
  | str x => exact .no (.str x) (by decide)
  | dic a => exact .no (.dic a) (by decide)
  | lst a b => exact .no (.lst a) (by decide)
  | @tup a xs ds e b =>
    have s := small ds rfl
    have z : fitsD (.tuple ds) = fitsV xs := by
      show (decide (ds.length < 40) && okPys 0 ds) = (decide (xs.length < 40) && (okVs xs).all id)
      unfold okVs
      rw [← okPys_all 0 b, b.len]
      congr 2
      refine List.map_congr_left fun i hi => ?_
      rw [Nat.zero_add]
    rw [z]
    exact .tup e (by rw [b.len]; exact s) fun x hx => let ⟨d, _, k⟩ := b.mem hx; k.kd
/-! ### lists of plain data, where b is written to -/
theorem PotNe.same {H H' : Hp} {b : Addr} (e : Same H H') (h : H b ≠ none) : H' b ≠ none := fun z => by
  cases e2 : H b with
  | none => exact h e2
  | some o => rw [e _ _ e2] at z; cases z
/-! ### written values: te reads a display of d -/
def LEv (b : Addr) (te : TE) (d : PyData) : Prop := ∀ (σ : L2.St) (H : Hp) (Q : VK), H b ≠ none → (∀ v H', Same H H' → DP (hide H' b) v d → Q v H') → te σ H Q
def LEvs (b : Addr) (ta : TA) (ds : List PyData) : Prop := ∀ (σ : L2.St) (H : Hp) (Q : List V → Hp → Prop), H b ≠ none → (∀ vs H', Same H H' → DPs (hide H' b) vs ds → Q vs H') → ta σ H Q
section
variable {K : PySem.W.Frag} {b : Addr} {te : TE} {ta : TA} {d : PyData} {ds : List PyData}
/-- a written value, as one step -/
def tLev (b : Addr) (d : PyData) : TE := fun _ H Q => H b ≠ none ∧ ∀ v H', Same H H' → DP (hide H' b) v d → Q v H'
def tLevs (b : Addr) (ds : List PyData) : TA := fun _ H Q => H b ≠ none ∧ ∀ vs H', Same H H' → DPs (hide H' b) vs ds → Q vs H'
end
/-! ### what may be shown, and is short -/
def NiceV (d : PyData) : Prop := Nice 20000 6 d
def niceB (d : PyData) : Bool := d.showable && decide (d.depth ≤ 6) && d.leavesShort 60 && decide (d.weight ≤ 20000)
end PT


set_option maxHeartbeats 4000000
/-! the same data, as the law compares it (without live plants) -/
namespace PT
open PySem PySem.Spec PyProof.Rows L2 LamX NdefX
inductive Flt : PyData → Prop
  | non : Flt .none
  | bl (b : Bool) : Flt (.bool b)
  | int (i : Int) : Flt (.int i)
  | str (s : Str) : Flt (.str s)
def Deep : Nat → PyData → Prop
  | 0, d => Flt d
  | n + 1, d => Flt d ∨ ∃ ds, (d = .list ds ∨ d = .tuple ds) ∧ ds.length ≤ 1000 ∧ ∀ e ∈ ds, Deep n e
theorem kit2 {K : PySem.W.Frag} {n : String} {x y : Bool} (h1 : kitB n "list" = some x) (h2 : kitB n "tuple" = some y) : PySem.W.kitAny K (.type n) [.type "list", .type "tuple"] = some (x || y) := by
  refine kitAny_cons (kit_ty h1) (fun e1 => kitAny_cons (kit_ty h2) (fun e2 => ?_) fun e2 => ?_) fun e1 => ?_
  · rw [e1, e2]; rfl
  · rw [e1, e2]; rfl
  · rw [e1]; rfl
theorem same_cls {K : PySem.W.Frag} {H : Hp} {x y : V} {d : PyData} {n : Nat} (hx : DP H x d) (hy : DP H y d) (hd : Deep n d) :
    (∃ n' : String, x = y ∧ TyX K H x (.type n') ∧ kitB n' "list" = some false ∧ kitB n' "tuple" = some false ∧ (∃ b, kitB n' "bool" = some b) ∧ scal x x = true) ∨
      ∃ (ds : List PyData), (d = .list ds ∨ d = .tuple ds) ∧ ∃ m, ds.length ≤ 1000 ∧ n = m + 1 ∧ ∀ e ∈ ds, Deep m e := by
  have fl : Flt d → (∃ n' : String, x = y ∧ TyX K H x (.type n') ∧ kitB n' "list" = some false ∧ kitB n' "tuple" = some false ∧ (∃ b, kitB n' "bool" = some b) ∧ scal x x = true) := fun f => by
    cases f with
    | non => cases hx; cases hy; exact ⟨_, rfl, .base .non, by decide +kernel, by decide +kernel, ⟨false, by decide +kernel⟩, rfl⟩
    | bl b => cases hx; cases hy; exact ⟨_, rfl, .base (.bl b), by decide +kernel, by decide +kernel, ⟨true, by decide +kernel⟩, rfl⟩
    | int i => cases hx; cases hy; exact ⟨_, rfl, .base (.int i), by decide +kernel, by decide +kernel, ⟨false, by decide +kernel⟩, rfl⟩
    | str z => cases hx; cases hy; exact ⟨_, rfl, .base (.str z), by decide +kernel, by decide +kernel, ⟨false, by decide +kernel⟩, rfl⟩
  cases n with
  | zero => exact .inl (fl hd)
  | succ m =>
    rcases hd with f | ⟨ds, e, l, h⟩
    · exact .inl (fl f)
    · exact .inr ⟨ds, e, m, l, rfl, h⟩
theorem same_con {K : PySem.W.Frag} {H : Hp} {x y : V} {d : PyData} {ds : List PyData} (hx : DP H x d) (hy : DP H y d) (hd : d = .list ds ∨ d = .tuple ds) :
    ∃ (n' : String) (a b : Addr) (xs ys : List V) (kl kt : Bool), x = .ref a ∧ y = .ref b ∧ (∀ H', Same H H' → TyX K H' x (.type n') ∧ TyX K H' y (.type n')) ∧ kitB n' "list" = some kl ∧ kitB n' "tuple" = some kt ∧ (kl || kt) = true ∧ DPs H xs ds ∧ DPs H ys ds ∧
      ∀ H', Same H H' → (SqL K H' a xs ∨ SqT K H' a xs) ∧ (SqL K H' b ys ∨ SqT K H' b ys) := by
  rcases hd with rfl | rfl
  · cases hx with
    | lst e1 c1 => cases hy with
      | lst e2 c2 => exact ⟨"list", _, _, _, _, true, false, rfl, rfl, fun H' s => ⟨.base (.lst (s _ _ e1)), .base (.lst (s _ _ e2))⟩, by decide +kernel, by decide +kernel, rfl, c1, c2, fun H' s => ⟨.inl (.inl (.inl (s _ _ e1))), .inl (.inl (.inl (s _ _ e2)))⟩⟩
  · cases hx with
    | tup e1 c1 => cases hy with
      | tup e2 c2 => exact ⟨"tuple", _, _, _, _, false, true, rfl, rfl, fun H' s => ⟨.base (.tup (s _ _ e1)), .base (.tup (s _ _ e2))⟩, by decide +kernel, by decide +kernel, rfl, c1, c2, fun H' s => ⟨.inr (.inl (.inl (s _ _ e1))), .inr (.inl (.inl (s _ _ e2)))⟩⟩
abbrev rLT (K : PySem.W.Frag) : R2 := fun x y H Q => rIxL K x y H Q ∨ rIxT K x y H Q
theorem lt_at {K : PySem.W.Frag} {H : Hp} {a : Addr} {xs : List V} {i : Nat} {v : V} {Q : VK} (h : SqL K H a xs ∨ SqT K H a xs) (e : xs[i]? = some v) (q : Q v H) : rLT K (.ref a) (.int (i : Int)) H Q := by
  rcases h with h | h
  · exact .inl ⟨a, xs, (i : Int), v, rfl, rfl, h, atI_nat e, q⟩
  · exact .inr ⟨a, xs, (i : Int), v, rfl, rfl, h, atI_nat e, q⟩
section
variable {P : Program} {w : World} {K : PySem.W.Frag} {mg : Str → Option Value} {base : Heap}
def spSame : Nat → Sp
  | 0 => fun _ _ _ _ => False
  | n + 1 => fun vs H Q _ => ∃ (x y : V) (d : PyData), vs = [x, y] ∧ DP H x d ∧ DP H y d ∧ Deep n d ∧ ∀ H', Same H H' → Q (.bl true) H'
theorem ok_same (T : Tx K mg) : ∀ n, FnOk P w K mg base CX0 n T.f__law_same T.d__law_same ["found", "due"] (spSame n)
  | 0 => ⟨fun _ _ _ _ h => h.elim, fun _ _ _ _ _ _ _ _ _ _ _ _ _ h => h.elim⟩
  | n + 1 => by
    have ih := ok_same T n
    refine T.F__law_same.ok scLawSame (fun vs H Q E h => ?_) (fun cdv A outer s H vs Q E hr h => ?_)
    · obtain ⟨x, y, d, rfl, _⟩ := h
      rfl
    · obtain ⟨x, y, d, rfl, hx, hy, hd, k⟩ := h
      have nd := scLawSame.nd
      refine ⟨_, (pss_cons (ps_if (pt_val (pe_callB call_isiT (by rfl) T.n_isinstance (by decide +kernel) (pa_cons (pv 1) (pa_cons (pe_tup (pa_cons (pe_bltn (v := .ty "list") (by rfl) T.n_list (by decide +kernel) rfl) (pa_cons (pe_bltn (v := .ty "tuple") (by rfl) T.n_tuple (by decide +kernel) rfl) pa_nil))) pa_nil))))
(pss_cons (ps_if (PW.pt (pw_or (pt_cmpR op_ne (pe_callB call_isi (by rfl) T.n_isinstance (by decide +kernel) (pa_cons (pv 0) (pa_cons (pe_bltn (v := .ty "list") (by rfl) T.n_list (by decide +kernel) rfl) pa_nil))) (pe_callB call_isi (by rfl) T.n_isinstance (by decide +kernel) (pa_cons (pv 1) (pa_cons (pe_bltn (v := .ty "list") (by rfl) T.n_list (by decide +kernel) rfl) pa_nil))) (nomark _)) (pw_or1 (pt_cmpR op_ne (pe_callB call_isi (by rfl) T.n_isinstance (by decide +kernel) (pa_cons (pv 0) (pa_cons (pe_bltn (v := .ty "tuple") (by rfl) T.n_tuple (by decide +kernel) rfl) pa_nil))) (pe_callB call_isi (by rfl) T.n_isinstance (by decide +kernel) (pa_cons (pv 1) (pa_cons (pe_bltn (v := .ty "tuple") (by rfl) T.n_tuple (by decide +kernel) rfl) pa_nil))) (nomark _)))))
(pss_one (ps_ret pe_bl)) pss_nil)
(pss_one (ps_ret (pe_and (pe_cmpR op_eq (pe_callB call_len_seq (by rfl) T.n_len PySem.boot_len (pa_cons (pv 0) pa_nil)) (pe_callB call_len_seq (by rfl) T.n_len PySem.boot_len (pa_cons (pv 1) pa_nil)) (nomark _)) (pe_one (pe_callB (cr_all rfl) (by rfl) T.n_all (by decide +kernel) (pa_cons (pe_lc (own := [("k", 2)]) (g := gName 2) (tt := tYes) (te := (tCall (spSame n) [] E0 (tCons (tOp (rLT K) (tVar 0) (tVar 2)) (tCons (tOp (rLT K) (tVar 1) (tVar 2)) tNil)))) rfl nd (pi_range1 (by rfl) T.n_range (pa_cons (pe_callB call_len_seq (by rfl) T.n_len PySem.boot_len (pa_cons (pv 1) pa_nil)) pa_nil))
(blkOk_by (N := ["found", "due", "k"]) (sc := defScope sLawSame) (by decide +kernel)) (fun _ _ _ _ _ => (pg_name (i := 2) nd rfl (.inl rfl))) (fun _ _ _ _ _ => pts_nil) (fun _ _ _ _ _ => (pe_call ih hr (by rfl) T.g__law_same T.F__law_same.kp T.b__law_same .nil pass0 (pa_cons (pe_ix ix_lt (pv 0) (pv 2) (fun _ _ => rfl)) (pa_cons (pe_ix ix_lt (pv 1) (pv 2) (fun _ _ => rfl)) pa_nil))))) pa_nil))))))) pss_nil)
(pss_one (ps_ret (pe_and (pe_cmpR op_eq (pe_callB call_isi (by rfl) T.n_isinstance (by decide +kernel) (pa_cons (pv 0) (pa_cons (pe_bltn (v := .ty "bool") (by rfl) T.n_bool (by decide +kernel) rfl) pa_nil))) (pe_callB call_isi (by rfl) T.n_isinstance (by decide +kernel) (pa_cons (pv 1) (pa_cons (pe_bltn (v := .ty "bool") (by rfl) T.n_bool (by decide +kernel) rfl) pa_nil))) (nomark _)) (pe_one (pe_cmpR op_eq (pv 0) (pv 1) (nomark _))))))), ?_⟩
      refine ⟨y, rfl, (by show 2 ≤ sizeLine; decide), fun tp ntp => ?_⟩
      have s1 := same_new (o := .tup [.ty "list", .ty "tuple"]) ntp
      have hx1 := hx.same s1
      have hy1 := hy.same s1
      rcases same_cls (K := K) hx1 hy1 hd with ⟨n', rfl, ty, k1, k2, ⟨b, k3⟩, sc⟩ | ⟨ds, hl, n1, hlen, rfl, hds⟩
      · refine ⟨x, tp, _, .type n', _, false, rfl, upd_same, .cons (.ty _) (.cons (.ty _) .nil), ty, kit2 k1 k2, false, rfl, iteF ?_⟩
        refine ⟨x, rfl, x, .ty "bool", .type n', _, b, rfl, .ty _, ty, kit_ty k3, x, rfl, x, .ty "bool", .type n', _, b, rfl, .ty _, ty, kit_ty k3, rfl, ?_⟩
        refine ⟨true, congrArg V.bl (decide_eq_true rfl), ?_⟩
        rw [if_pos rfl]
        refine ⟨x, rfl, x, rfl, sc, ?_⟩
        have z := k _ s1
        rw [decide_eq_true rfl]
        exact z
      · obtain ⟨n', a, b, xs, ys, kl, kt, rfl, rfl, ty, k1, k2, k3, c1, c2, sq⟩ := same_con (K := K) hx1 hy1 hl
        obtain ⟨tx, ty'⟩ := ty _ (Same.refl _)
        refine ⟨.ref b, tp, _, .type n', _, true, rfl, upd_same, .cons (.ty _) (.cons (.ty _) .nil), ty', by rw [kit2 k1 k2, k3], true, rfl, iteT ?_⟩
        refine ⟨.ref a, rfl, .ref a, .ty "list", .type n', _, kl, rfl, .ty _, tx, kit_ty k1, .ref b, rfl, .ref b, .ty "list", .type n', _, kl, rfl, .ty _, ty', kit_ty k1, rfl, _, rfl, iteNS rfl ?_⟩
        refine ⟨.ref a, rfl, .ref a, .ty "tuple", .type n', _, kt, rfl, .ty _, tx, kit_ty k2, .ref b, rfl, .ref b, .ty "tuple", .type n', _, kt, rfl, .ty _, ty', kit_ty k2, rfl, _, rfl, iteNS rfl ?_⟩
        have lx := c1.len
        have ly := c2.len
        have q0 := sq _ (Same.refl _)
        refine ⟨.ref a, rfl, a, xs, rfl, q0.1, .ref b, rfl, b, ys, rfl, q0.2, rfl, true, congrArg V.bl (decide_eq_true (by rw [lx, ly])), ?_⟩
        rw [if_pos rfl]
        refine ⟨.ref b, rfl, b, ys, rfl, q0.2, (ys.length : Int), rfl, by omega, by omega, fun D nD => ?_⟩
        rw [Int.toNat_natCast]
        have sD := same_new (o := .lst []) nD
        refine lc_range (lo := 0) (n := ys.length) (fun i G => Same (upd H tp (.tup [.ty "list", .ty "tuple"])) G ∧ G D = some (.lst (List.replicate i (.bl true)))) ⟨sD, upd_same⟩ (fun i G hi p1 => ?_) (fun G p1 => ?_)
        · obtain ⟨sG, eD⟩ := p1
          have qi := sq _ sG
          have ex : xs[i]? = some xs[i] := List.getElem?_eq_getElem (by omega)
          have ey : ys[i]? = some ys[i] := List.getElem?_eq_getElem hi
          obtain ⟨e1, he1, hv1⟩ := c1.get i _ ex
          obtain ⟨e2, he2, hv2⟩ := c2.get i _ ey
          cases he1.symm.trans he2
          refine ⟨rfl, tyes_if ⟨.ref a, rfl, .int (0 + (i : Nat)), rfl, ?_⟩⟩
          rw [show (0 + (i : Int)) = (i : Int) by omega]
          refine lt_at qi.1 ex ⟨.ref b, rfl, .int (i : Int), rfl, ?_⟩
          refine lt_at qi.2 ey ⟨_, _, e1, rfl, hv1.same sG, hv2.same sG, hds e1 (List.mem_of_getElem? he1), fun G2 s2 => ?_⟩
          refine ⟨_, s2 _ _ eD, ?_, fun c o h => ?_, ?_⟩
          · rw [List.length_replicate]
            exact small1000 (by omega)
          · rw [upd_ne (ne_of_none h nD)]
            exact s2 _ _ (sG _ _ h)
          · rw [upd_same, List.replicate_succ']
        · obtain ⟨sG, eD⟩ := p1
          refine ⟨D, List.replicate ys.length true, rfl, .inl (.inl (by rw [eD, List.map_replicate])), ?_⟩
          have z := k G (s1.trans sG)
          rw [show (List.replicate ys.length true).all id = true from List.all_eq_true.mpr fun b hb => (List.mem_replicate.mp hb).2]
          exact z
end
end PT


set_option maxHeartbeats 4000000
/-! the law's own text of a plant -/
namespace PT
open PySem PySem.Spec PyProof.Rows L2 TL
section
variable {P : Program} {w : World} {K : PySem.W.Frag} {mg : Str → Option Value} {base : Heap}
def spLawText : Sp := fun vs H Q _ => ∃ (p q : Addr) (pl ss : List Int), vs = [.ref p, .ref q] ∧ PlantAt H p pl ∧ H q = some (.tup (ss.map V.int)) ∧ ss.length = pl.length + 1 ∧ (∀ n ∈ ss, n.natAbs < 10 ^ 50) ∧ ∀ H', Same H H' → Q (.str (showT pl ss)) H'
theorem ok_text (T : Tx K mg) {k : Nat} : FnOk P w K mg base CX0 (k + 1) T.f__law_text T.d__law_text ["plant", "boxes"] spLawText := by
  refine T.F__law_text.ok scLawText (fun vs H Q E h => ?_) (fun cdv A outer s H vs Q E hr h => ?_)
  · obtain ⟨p, q, pl, ss, rfl, _⟩ := h
    rfl
  · obtain ⟨p, q, pl, ss, rfl, hP, hq, ls, sm, qq⟩ := h
    have nd := scLawText.nd
    have lp := hP.ok.len
    refine ⟨_, (pss_cons (ps_set (i := 2) nd rfl (.inl rfl) (pe_op op_cat (pe_lst (pa_cons (pe_op op_add_str pe_str (pe_callTy call_str_int (by rfl) T.n_str (by decide +kernel) (pa_cons (pe_ix ix_tup (pv 1) pe_int (fun _ _ => rfl)) pa_nil))) pa_nil)) (pe_lc (own := [("boss", 3), ("box", 4)]) (g := gTup K 2 (gCons (gName 3) (gCons (gName 4) gNil))) (tt := tYes) (te := (tOp rCatS (tOp rCatS (tCB (fun xs H Q => ∃ i : Int, xs = [.int i] ∧ i.natAbs.log2 < 1920 ∧ Q (.str (toString i)) H) (tCons (tVar 3) tNil)) (tC (.str " "))) (tCB (fun xs H Q => ∃ i : Int, xs = [.int i] ∧ i.natAbs.log2 < 1920 ∧ Q (.str (toString i)) H) (tCons (tVar 4) tNil)))) rfl nd (RZ.pi_zipA (by rfl) T.n_zip (pa_cons (pv 0) (pa_cons (pe_slice sl_tupG (pv 1) (po_some pe_int) po_none) pa_nil)))
(blkOk_by (N := ["plant", "boxes", "lines", "boss", "box", "line"]) (sc := defScope sLawText) (by decide +kernel)) (fun _ _ _ _ _ => (pg_tup (by rfl) (pgs_cons (pg_name (i := 3) nd rfl (.inl rfl)) (pgs_cons (pg_name (i := 4) nd rfl (.inl rfl)) pgs_nil)))) (fun _ _ _ _ _ => pts_nil) (fun _ _ _ _ _ => (pe_op op_add_str (pe_op op_add_str (pe_callTy call_str_int (by rfl) T.n_str (by decide +kernel) (pa_cons (pv 3) pa_nil)) pe_str) (pe_callTy call_str_int (by rfl) T.n_str (by decide +kernel) (pa_cons (pv 4) pa_nil)))))))
(pss_one (ps_ret (pe_bm PySem.F.plainAttrs_str PySem.F.slot_str_join PySem.F.type_str_join mt_join pe_str (pa_cons (pe_lc (own := [("line", 5)]) (g := gName 5) (tt := tYes) (te := (tOp rCatS (tVar 5) (tC (.str "
")))) rfl nd (pi_list (pv 2))
(blkOk_by (N := ["plant", "boxes", "lines", "boss", "box", "line"]) (sc := defScope sLawText) (by decide +kernel)) (fun _ _ _ _ _ => (pg_name (i := 5) nd rfl (.inl rfl))) (fun _ _ _ _ _ => pts_nil) (fun _ _ _ _ _ => (pe_op op_add_str (pv 5) pe_str))) pa_nil))))), ?_⟩
    have qn := hq
    obtain ⟨s0, ts, rfl⟩ : ∃ s0 ts, ss = s0 :: ts := by
      cases ss with
      | nil => exact absurd ls (by simp)
      | cons a b => exact ⟨a, b, rfl⟩
    have lts : ts.length = pl.length := by simpa using ls
    have smP : ∀ x ∈ pl, x.natAbs < 10 ^ 50 := fun x hx => Nat.lt_trans (plant_sm hP.ok x hx) (by decide)
    have z0 := sm s0 List.mem_cons_self
    have line5 : 6000 ≤ sizeLine := by decide
    have l5 : (Str.ofString "shop ").length = 5 := by decide +kernel
    have l1 : (Str.ofString " ").length = 1 := by decide +kernel
    have l2 : (Str.ofString "\n").length = 1 := by decide +kernel
    have n0 := numT_len z0
    refine ⟨.ref q, rfl, q, _, 0, .int s0, rfl, rfl, .inl (.inl hq), atI_nat (j := 0) rfl, s0, rfl, numT_log z0, _, _, rfl, rfl, ?_, (by show 1 ≤ sizeLine; decide), fun l nl => ?_⟩
    · show (Str.ofString "shop ").length + (numT s0).length ≤ _
      omega
    rw [show Str.ofString "shop " ++ Str.ofString (toString s0) = rowT (Str.ofString "shop") s0 from shop_row s0]
    have sl := same_new (o := .lst [V.str (rowT (Str.ofString "shop") s0)]) nl
    have el : (upd H l (.lst [V.str (rowT (Str.ofString "shop") s0)])) l = some (.lst [V.str (rowT (Str.ofString "shop") s0)]) := upd_same
    have hq1 := sl _ _ hq
    have hP1 := hP.same sl
    generalize upd H l _ = H1 at sl el hq1 hP1 ⊢
    refine ⟨.ref p, rfl, .ref q, rfl, 1, rfl, q, _, rfl, hq1, fun c G1 s1 ec => ?_⟩
    have ec : G1 c = some (.tup (ts.map V.int)) := by
      rw [ec, cutV_tail]
      rfl
    have hP2 := hP1.same s1
    refine ⟨p, c, _, _, rfl, .inr ⟨hP2.seq, .inl (.inl ec), fun D nD => ?_⟩⟩
    refine lc_it (walk_TT (K := K) (a := p) (b := c) (n := pl.length) (xs := pl.map V.int) (ys := ts.map V.int) (by rw [List.length_map]) (by rw [List.length_map, lts])) (fun i G => Same G1 G ∧ G D = some (.lst (((rowsT (pl.map numT) ts).take i).map V.str))) ⟨same_new nD, upd_same⟩
      (fun i G _ p1 => ⟨(hP2.same p1.1).seq, .inl (.inl (p1.1 _ _ ec))⟩) (fun i x G3 G4 hi p1 y => ?_) (fun G p1 => ?_)
    · obtain ⟨sG, eD⟩ := p1
      obtain ⟨T2, x1, x2, rfl, n2, rfl, g1, g2⟩ := y
      have e1 : pl[i]? = some pl[i] := List.getElem?_eq_getElem hi
      have e2 : ts[i]? = some ts[i] := List.getElem?_eq_getElem (by omega)
      have m1 := smP pl[i] (List.getElem_mem _)
      have m2 := sm ts[i] (List.mem_cons_of_mem _ (List.getElem_mem _))
      obtain rfl : V.int pl[i] = x1 := by
        have e : (pl.map V.int)[i]? = some x1 := g1
        rw [List.getElem?_map, e1] at e
        cases e
        rfl
      obtain rfl : V.int ts[i] = x2 := by
        have e : (ts.map V.int)[i]? = some x2 := g2
        rw [List.getElem?_map, e2] at e
        cases e
        rfl
      have ex := rowsT_get (as := pl.map numT) (is := ts) (k := i) (a := numT pl[i]) (i := ts[i]) (by rw [List.getElem?_map, e1]; rfl) e2
      revert m1 m2 ex
      generalize pl[i] = bo
      generalize ts[i] = bx
      intro m1 m2 ex
      have sT := same_new (o := .tup [V.int bo, .int bx]) n2
      have k1 := numT_len m1
      have k2 := numT_len m2
      refine ⟨T2, _, rfl, .inl (.inl upd_same), rfl, _, _, rfl, _, _, rfl, rfl, rfl, tyes_if ⟨.int bo, rfl, bo, rfl, numT_log m1, _, _, rfl, rfl, ?_, .int bx, rfl, bx, rfl, numT_log m2, _, _, rfl, rfl, ?_, _, sT _ _ eD, ?_, fun c' o h => ?_, ?_⟩⟩
      · show (numT bo).length + (Str.ofString " ").length ≤ _
        omega
      · rw [Str.length_append]
        show (numT bo).length + (Str.ofString " ").length + (numT bx).length ≤ _
        omega
      · rw [List.length_map, List.length_take]
        exact small300 (by omega)
      · rw [upd_ne (ne_of_none h nD)]
        exact sT _ _ (sG _ _ h)
      · rw [upd_same, take_next ex, List.map_append]
        rfl
    obtain ⟨sG, eD⟩ := p1
    have ll := rowsT_len (as := pl.map numT) (is := ts) (by rw [List.length_map, lts])
    rw [List.length_map] at ll
    rw [List.take_of_length_le (by omega)] at eD
    have el := sG _ _ (s1 _ _ el)
    refine ⟨l, D, _, _, rfl, rfl, el, eD, ?_, fun c2 nc2 => ?_⟩
    · rw [List.length_map, ll]
      show 1 + pl.length ≤ _
      exact Nat.le_of_lt (small300 (by omega))
    have s3 := (sl.trans s1).trans (sG.trans (same_new (o := .lst ([V.str (rowT (Str.ofString "shop") s0)] ++ (rowsT (pl.map numT) ts).map V.str)) nc2))
    have ec2 : (upd G c2 (.lst ([V.str (rowT (Str.ofString "shop") s0)] ++ (rowsT (pl.map numT) ts).map V.str))) c2 = some (.lst ((rowsT (bosses pl) (s0 :: ts)).map V.str)) := upd_same
    generalize upd G c2 _ = H3 at ec2 s3 ⊢
    have lr : (rowsT (bosses pl) (s0 :: ts)).length = pl.length + 1 := by
      rw [bosses, rowsT, List.length_cons, ll]
    have lrow : ∀ y ∈ rowsT (bosses pl) (s0 :: ts), y.length ≤ 200 := rowsT_all fun a ha i hi => by
      have z1 := bosses_len smP a ha
      have z2 := numT_len (sm i hi)
      have z3 : spT.length = 1 := by decide +kernel
      unfold rowT
      rw [Str.length_append, Str.length_append]
      omega
    clear nc2 el eD sG nD ec s1 sl
    refine ⟨rfl, .ref c2, rfl, c2, rfl, ⟨_, .inl (.inl ec2)⟩, fun E nE => ?_⟩
    refine lc_list (xs := (rowsT (bosses pl) (s0 :: ts)).map V.str) (fun i G => Same H3 G ∧ G E = some (.lst (((linesT (bosses pl) (s0 :: ts)).take i).map V.str))) ⟨same_new nE, upd_same⟩ (fun i G _ p1 => .inl (.inl (p1.1 _ _ ec2))) (fun i x G ex p1 => ?_) (fun G p1 => ?_)
    · obtain ⟨sG, eE⟩ := p1
      rw [List.getElem?_map] at ex
      cases er : (rowsT (bosses pl) (s0 :: ts))[i]? with
      | none => rw [er] at ex; cases ex
      | some r =>
        rw [er] at ex
        cases ex
        have hi := (List.getElem?_eq_some_iff.mp er).1
        have eln : (linesT (bosses pl) (s0 :: ts))[i]? = some (r ++ Str.ofString "\n") := by rw [← lines_rows, List.getElem?_map, er]; rfl
        have lrr := lrow r (List.mem_of_getElem? er)
        refine ⟨rfl, tyes_if ⟨.str r, rfl, _, _, rfl, rfl, ?_, _, eE, ?_, fun c o hc => ?_, ?_⟩⟩
        · omega
        · rw [List.length_map, List.length_take]
          exact small300 (by omega)
        · rw [upd_ne (ne_of_none hc nE)]
          exact sG _ _ hc
        · rw [upd_same, take_next eln, List.map_append]
          rfl
    obtain ⟨sG, eE⟩ := p1
    have l9 := linesT_len (as := bosses pl) (is := s0 :: ts) (by rw [List.length_cons, lts]; show (pl.map numT).length + 1 = _; rw [List.length_map])
    rw [List.length_map, lr, List.take_of_length_le (by rw [l9]; show (pl.map numT).length + 1 ≤ _; rw [List.length_map]; exact Nat.le_refl _)] at eE
    have big2 := sum_le (B := 130) (ys := linesT (bosses pl) (s0 :: ts)) (linesT_all fun a ha i hi => lineT_len (bosses_len smP a ha) (sm i hi))
    refine ⟨Str.ofString "", E, linesT (bosses pl) (s0 :: ts), rfl, rfl, .inl (.inl (.inl eE)), ?_, qq G (s3.trans sG)⟩
    have z : (Str.ofString "").length = 0 := rfl
    rw [z, Nat.mul_zero]
    have lb9 : (bosses pl).length = pl.length + 1 := by
      show (pl.map numT).length + 1 = _
      rw [List.length_map]
    have y : (linesT (bosses pl) (s0 :: ts)).length * 130 ≤ 40 * 130 := Nat.mul_le_mul_right _ (by omega)
    omega
end
end PT

set_option maxHeartbeats 4000000
/-! the law's own call, where it is also known that the table of modules stands in the base -/
namespace PT
open PySem PySem.Spec PyProof.Rows L2 LamX NdefX
theorem law_atGTS {P : Program} {w : World} {K : PySem.W.Frag} {mg mb : Str → Option Value} {fa a : Addr} {s₁ : Shared} {vs : List Value} {ns : List Int} {cs : List (Addr × Addr)}
    (kin : K.In s₁.heap) (gl : s₁.heap.Ns mainGlobals mg) (bl : s₁.heap.Ns builtinsNs mb) (bb : ∀ x : Str, x ≠ "__name__" → mb x = bootBuiltins x) (nl : s₁.heap.NoLimit) (sm : ∃ mm, s₁.heap.Ns sysModules mm) (gn : s₁.gens = #[])
    (tb : ∀ p ∈ cs, s₁.heap.get? p.2 = some (PySem.W.tabObj #[])) (tn : ∀ p ∈ cs, K.lookup p.2 = none) (tc : ∀ p ∈ cs, PySem.W.CodeHd s₁.heap p.1 p.2)
    (bm : ∃ (m : Addr) (ob : Obj), mg "__builtins__" = some (.ref m) ∧ m ≠ builtinsNs ∧ s₁.heap.get? m = some ob ∧ ob.cls = .type "module" ∧ ob.dict = some builtinsNs ∧ ob.data = .plain)
    (ha : s₁.heap.get? a = some { cls := .type "list", data := .seq vs.toArray }) (hi : IntsAre vs ns) (hl : ns.length ≤ sizeLine)
    (F : ∀ (base : Heap) (H : Hp), K.In base → base.Ns mainGlobals mg → (∃ mm, base.Ns sysModules mm) → (∀ p ∈ cs, TabB base mg p.1 p.2) → (∀ p ∈ cs, H p.2 = some (.tbl #[])) → SqL K H a (ns.map V.int) → Env0 P w K mg base callerA [] s₁ H →
      codeAny (model P w) callerA (.call (.ref fa) ⟨[.ref a], []⟩) (CR CX0 [] P w H s₁ (fun v _ => v = .bl true) fun _ _ _ => False) s₁) :
    codeAny (model P w) callerA (.call (.ref fa) ⟨[.ref a], []⟩) (fun r s' => r = .ok (.ret (.bool true)) ∧ OldK s₁.heap s'.heap ∧ s'.os = s₁.os ∧ AllBare s'.gens) s₁ := by
  have rv := vals_ints hi
  have ln := hi.length
  have tabAt : ∀ b, b ∈ cs.map (·.2) → s₁.heap.get? b = some (PySem.W.tabObj #[]) := fun b hb => by
    obtain ⟨p, hp, rfl⟩ := List.mem_map.mp hb
    exact tb p hp
  have aNot : a ∉ cs.map (·.2) := fun z => by
    have y := tabAt a z
    rw [ha] at y
    have y2 := congrArg Obj.data (Option.some.inj y)
    cases y2
  have inT : ∀ p ∈ cs, p.2 ∈ cs.map (·.2) := fun p hp => List.mem_map.mpr ⟨p, hp, rfl⟩
  suffices main : ∃ H : Hp, OnlyT cs H ∧ (∀ p ∈ cs, H p.2 = some (.tbl #[])) ∧ SqL K H a (ns.map V.int) ∧ HOk P w H s₁.heap ∧ (∀ b, H b ≠ none → b ∈ cs.map (·.2) ∨ (b = a ∧ K.lookup a = none)) by
    obtain ⟨H, o1, ot, o2, ok, tr⟩ := main
    have keepH : ∀ {b : Addr} {o : Obj}, s₁.heap.get? b = some o → H b = none → (hidT s₁.heap H).get? b = some o := fun z n => hidT_get z n
    -- what is no list and no empty table is not tracked
    have free : ∀ {b : Addr} {o : Obj}, s₁.heap.get? b = some o → (∀ us n, o.data ≠ .seq us n) → o.data ≠ .fields #[] → H b = none := fun {b o} z1 z2 z3 => by
      by_cases n : H b = none
      · exact n
      · rcases tr b n with y | ⟨y, _⟩
        · rw [tabAt b y] at z1
          cases z1
          exact absurd rfl z3
        · rw [y, ha] at z1
          cases z1
          exact absurd rfl (z2 _ _)
    have seqNot : ∀ {b : Addr} {o : Obj} {es : Array DictEntry} {ep : Nat}, s₁.heap.get? b = some o → o.data = .dict es ep → H b = none := fun {b o es ep} z1 z2 =>
      free z1 (fun us n y => by rw [z2] at y; cases y) fun y => by rw [z2] at y; cases y
    have nss : ∀ {b : Addr} {m : Str → Option Value}, s₁.heap.Ns b m → (hidT s₁.heap H).Ns b m := by
      rintro b m ⟨o, es, ep, z1, z2, r⟩
      exact ⟨o, es, ep, keepH z1 (seqNot z1 z2), z2, r⟩
    have kb : K.In (hidT s₁.heap H) := by
      intro b o z
      refine keepH (kin b o z) ?_
      by_cases n : H b = none
      · exact n
      · rcases tr b n with y | ⟨y, y2⟩
        · obtain ⟨p, hp, e⟩ := List.mem_map.mp y
          rw [← e, tn p hp] at z
          cases z
        · rw [y, y2] at z
          cases z
    have md : Mod K mg (hidT s₁.heap H) := by
      obtain ⟨mc, c1, c2⟩ := nl
      exact ⟨kb, nss gl, ⟨mb, nss bl, bb⟩, ⟨mc, nss c1, c2⟩⟩
    have tabs : ∀ p ∈ cs, TabB (hidT s₁.heap H) mg p.1 p.2 := fun p hp => by
      have tp := tb p hp
      refine ⟨?_, ?_, fun z => ?_⟩
      · obtain ⟨o, us, f1, f2, f3, f4, f5, f6, f7, e1, e2, e3, rest⟩ := tc p hp
        refine ⟨o, us, f1, f2, f3, f4, f5, f6, f7, keepH e1 (free e1 (fun _ _ y => ?_) fun y => ?_), e2, e3, rest⟩
        · rw [e3] at y
          cases y
        · rw [e3] at y
          cases y
          have z := rest.1
          simp at z
      · obtain ⟨m, ob, b1, b2, b3, b4, b5, b6⟩ := bm
        have m1 : m ≠ mainGlobals := fun z => by
          obtain ⟨o, es, ep, y, yd, _⟩ := gl
          rw [z, y] at b3
          cases b3
          rw [yd] at b6
          cases b6
        have m2 : m ≠ p.2 := fun z => by
          rw [z, tp] at b3
          cases b3
          cases b6
        refine ⟨m, ob, b1, b2, m1, m2, keepH b3 (free b3 (fun _ _ y => ?_) fun y => ?_), b4, b5, b6⟩
        · rw [b6] at y
          cases y
        · rw [b6] at y
          cases y
      · obtain ⟨o, es, ep, y, yd, _⟩ := gl
        rw [z, tp] at y
        cases y
        cases yd
    have en : Env0 P w K mg (hidT s₁.heap H) callerA [] s₁ H :=
      ⟨rfl, md, fun _ _ z => of_hidT z, Nat.le_of_eq (hidT_size _ _), trivial, fun b z => absurd (show b ∈ ([] : List Addr) from z) (by simp), ok, .of_eq gn⟩
    refine codeAny_mono (F _ H kb (nss gl) (sm.elim fun mm z => ⟨mm, nss z⟩) tabs ot o2 en) fun r s2 z => ?_
    match r, z with
    | .error _, z => exact False.elim z
    | .ok .next, z => exact False.elim z
    | .ok .brk, z => exact False.elim z
    | .ok .cont, z => exact False.elim z
    | .ok (.ret u), z =>
      obtain ⟨v, H2, os, bare, un, ok2, rr, q⟩ := z
      have q2 : v = .bl true := q
      subst q2
      obtain rfl : u = Value.bool true := rr
      have same : ∀ b o, b ∉ cs.map (·.2) → s₁.heap.get? b = some o → s2.heap.get? b = some o := fun b o nb z => by
        rcases o1 b with n | y | ⟨ob, xs, y⟩
        · exact un.keep b o z n (fun y => absurd (show b ∈ ([] : List Addr) from y) (by simp)) (by simp)
        · exact absurd y nb
        · obtain ⟨y1, _⟩ := ok b _ y
          obtain ⟨y2, _⟩ := ok2 b _ (un.frzs b ob _ y)
          rw [z] at y1
          cases y1
          exact y2
      have more : ∀ p ∈ cs, ∃ m : Array Value, s2.heap.get? p.2 = some (PySem.W.tabObj m) := fun p hp => by
        obtain ⟨m, y⟩ := un.tbls p.2 #[] (ot p hp)
        exact ⟨_, ok2 p.2 _ y⟩
      refine ⟨rfl, ⟨fun b o z => ?_, fun b o z => ?_⟩, os, bare⟩
      · by_cases hb : b ∈ cs.map (·.2)
        · obtain ⟨p, hp, e⟩ := List.mem_map.mp hb
          obtain ⟨m, hm⟩ := more p hp
          rw [← e] at z ⊢
          rw [tb p hp] at z
          cases z
          exact .inr (.inl ⟨((tc p hp).tab (tb p hp)).isCodeTable, rfl, #[], m, rfl, by rw [Array.empty_append]; exact hm⟩)
        · exact .inl (same b o hb z)
      · by_cases hb : b ∈ cs.map (·.2)
        · obtain ⟨p, hp, e⟩ := List.mem_map.mp hb
          obtain ⟨m, hm⟩ := more p hp
          rw [← e]
          exact ⟨_, hm⟩
        · exact ⟨o, same b o hb z⟩
  let tabH : Hp := fun b => if b ∈ cs.map (·.2) then some (.tbl #[]) else none
  have t1 : ∀ {b}, b ∈ cs.map (·.2) → tabH b = some (.tbl #[]) := fun hb => if_pos hb
  have t0 : ∀ {b}, b ∉ cs.map (·.2) → tabH b = none := fun hb => if_neg hb
  cases hk : K.lookup a with
  | some o =>
    have z := kin a o hk
    rw [ha] at z
    cases z
    refine ⟨tabH, fun b => ?_, fun p hp => t1 (inT p hp), .inr ⟨_, vs.toArray, _, hk, rfl, rfl, rfl, by rw [List.size_toArray, ln]; exact hl, by simpa using rv⟩, fun b u y => ?_, fun b y => ?_⟩
    · by_cases hb : b ∈ cs.map (·.2)
      · exact .inr (.inl hb)
      · exact .inl (t0 hb)
    · by_cases hb : b ∈ cs.map (·.2)
      · have y2 := (t1 hb).symm.trans y
        cases y2
        exact tabAt b hb
      · have y2 := (t0 hb).symm.trans y
        cases y2
    · by_cases hb : b ∈ cs.map (·.2)
      · exact .inl hb
      · exact absurd (t0 hb) y
  | none =>
    let scr : HO := .frz { cls := .type "list", data := .seq vs.toArray } (.lst (ns.map V.int))
    have s0 : upd tabH a scr a = some scr := upd_same
    have s1 : ∀ {b}, b ≠ a → upd tabH a scr b = tabH b := fun hb => upd_ne hb
    refine ⟨upd tabH a scr, fun b => ?_, fun p hp => ?_, .inl (.inr ⟨_, s0⟩), fun b u y => ?_, fun b y => ?_⟩
    · by_cases e : b = a
      · subst e
        exact .inr (.inr ⟨_, _, s0⟩)
      · by_cases hb : b ∈ cs.map (·.2)
        · exact .inr (.inl hb)
        · exact .inl ((s1 e).trans (t0 hb))
    · have e : p.2 ≠ a := fun z => aNot (z ▸ inT p hp)
      exact (s1 e).trans (t1 (inT p hp))
    · by_cases e : b = a
      · subst e
        have y2 := s0.symm.trans y
        cases y2
        exact ⟨ha, by rw [List.length_map]; exact hl, vs, _, rv, ha⟩
      · have y1 := (s1 e).symm.trans y
        by_cases hb : b ∈ cs.map (·.2)
        · have y2 := (t1 hb).symm.trans y1
          cases y2
          exact tabAt b hb
        · have y2 := (t0 hb).symm.trans y1
          cases y2
    · by_cases e : b = a
      · exact .inr ⟨e, rfl⟩
      · by_cases hb : b ∈ cs.map (·.2)
        · exact .inl hb
        · exact absurd ((s1 e).trans (t0 hb)) y
/-- what k_head leaves, from such a call -/
theorem walk_GTS {l : PySem.W.OpenLaw} {n : Nat} {q : Program} {loose : List Str} {XP : (Str → Option Value) → Heap → Prop} {YP : World → Heap → Prop} {d : DefRec} {K : Params → PySem.W.Frag} {ts : List Addr}
    (imp : importsNone q = true) (hn : l.most = some n) (hn2 : n ≤ sizeLine) (hdf : d.params.defaults = []) (hY : ∀ (w : World) (h : Heap), YP w h → (K w.params).In h ∧ ∀ P ∈ ts, h.get? P = some (PySem.W.tabObj #[]))
    (F : ∀ (w : World) (mg : Str → Option Value) (fa a : Addr) (st : Shared) (ns : List Int), (K w.params).In st.heap → st.heap.Ns mainGlobals mg → mg d.name = some (.ref fa) → ns.length ≤ n → (∀ P ∈ ts, st.heap.get? P = some (PySem.W.tabObj #[])) →
      ∃ cs : List (Addr × Addr), (∀ p ∈ cs, st.heap.get? p.2 = some (PySem.W.tabObj #[])) ∧ (∀ p ∈ cs, (K w.params).lookup p.2 = none) ∧ (∀ p ∈ cs, PySem.W.CodeHd st.heap p.1 p.2) ∧
        ∀ (base : Heap) (H : Hp), (K w.params).In base → base.Ns mainGlobals mg → (∃ mm, base.Ns sysModules mm) → (∀ p ∈ cs, TabB base mg p.1 p.2) → (∀ p ∈ cs, H p.2 = some (.tbl #[])) → SqL (K w.params) H a (ns.map V.int) → Env0 l.prog w (K w.params) mg base callerA [] st H →
          codeAny (model l.prog w) callerA (.call (.ref fa) ⟨[.ref a], []⟩) (CR CX0 [] l.prog w H st (fun v _ => v = .bl true) fun _ _ _ => False) st) :
    PySem.W.WalkO q loose XP YP l.row.toRowW d [] (fun f vs => PySem.call f vs) := by
  refine Att.attach_call hn hdf fun w s₀ s₁ mg mb fa o pm cd doc a vs ns G Y ho hd hcd hmg hobj hints hlen hg => ?_
  obtain ⟨kin, ht⟩ := hY w _ Y
  obtain ⟨cs, c1, c2, c3, c4⟩ := F w mg fa a s₁ ns kin G.T.g hmg hlen ht
  exact law_atGTS kin G.T.g G.T.b G.T.builtins G.T.nolimit ((G.T.seer imp).mods.elim fun mm z => ⟨mm, z.1⟩) hg c1 c2 c3 G.T.bmain hobj hints (Nat.le_trans hlen hn2) c4
end PT

set_option maxHeartbeats 4000000
/-! min(xs, key=lambda k: ys[k]), xs a list of stations -/
namespace PT
open PySem PySem.Spec PyProof.Rows L2 LamX NdefX
section
variable {prog : Program} {w : World} {A : Around} {E : Value → Shared → Prop} {s : Shared}
end
end PT
namespace PT
open PySem PySem.Spec PyProof.Rows L2 LamX NdefX
/-- the first station with the least number -/
def minK (js : List Nat) (f : Nat → Int) : Nat := js.getD (argBest (fun i j => decide (f (js.getD i 0) < f (js.getD j 0))) (js.length - 1)) 0
theorem extN_seqL {K : PySem.W.Frag} {H H' : Hp} (e : ExtN H H') {a : Addr} {xs : List V} (h : SqL K H a xs) : SqL K H' a xs := by
  rcases h with (h | ⟨o, h⟩) | h
  · exact .inl (.inl (e _ _ h fun ps z => by cases z))
  · exact .inl (.inr ⟨o, e _ _ h fun ps z => by cases z⟩)
  · exact .inr h
def tMinLam (K : PySem.W.Frag) (T : List (Addr × Str)) (j : Nat) (ta : TA) : TE := fun σ H Q => ta σ H fun vs H1 => ∃ (p a : Addr) (js : List Nat) (ns : List Int), vs = [.ref p] ∧ SqL K H1 p (js.map fun k : Nat => V.int (k : Int)) ∧ js ≠ [] ∧ σ[j]? = some (some (.ref a)) ∧ (SqL K H1 a (ns.map V.int) ∨ SqT K H1 a (ns.map V.int)) ∧ (∀ k ∈ js, k < ns.length) ∧ Tabs T H1 ∧
  ∀ (H2 : Hp), ExtN H1 H2 → Tabs T H2 → Q (.int (minK js fun k => ns.getD k 0 : Nat)) H2
/-! ### the oldest box -/
end PT


set_option maxHeartbeats 8000000
/-! law 53 -/
namespace PT
open PySem PySem.Spec PyProof.Rows L2 LamX NdefX TL
theorem two40 : ((List.range 40).all fun i => decide ((numT (i : Int)).length ≤ 4)) = true := by decide +kernel
theorem boss_len {pl : List Int} (P : Plant pl) : ∀ a ∈ bosses pl, a.length ≤ 4 := fun a ha => by
  rcases List.mem_cons.mp ha with rfl | ha
  · decide +kernel
  · obtain ⟨x, hx, rfl⟩ := List.mem_map.mp ha
    obtain ⟨j, hj, ej⟩ := List.getElem_of_mem hx
    obtain ⟨h0, h1⟩ := P.ok j x (by rw [List.getElem?_eq_getElem hj, ej])
    have := P.len
    obtain ⟨i, rfl⟩ := Int.eq_ofNat_of_zero_le h0
    exact of_decide_eq_true (List.all_eq_true.mp two40 i (List.mem_range.mpr (by omega)))
theorem page_facts {pl ss : List Int} (P : Plant pl) (l : ss.length = pl.length + 1) (sm : ∀ n ∈ ss, n.natAbs < 10 ^ 40) :
    Asc (showT pl ss) ∧ (showT pl ss).length ≤ 2000 ∧ (showT pl ss).length ≠ 0 ∧ (Txt.split (cutS (showT pl ss) none (some (-1))) nlT).length ≤ 40 ∧ ∀ y ∈ Txt.split (cutS (showT pl ss) none (some (-1))) nlT, ∃ a b, Txt.split y spT = [a, b] ∧ a.length ≤ 42 ∧ b.length ≤ 42 := by
  have lb : (bosses pl).length = ss.length := by
    rw [l]
    show (pl.map numT).length + 1 = _
    rw [List.length_map]
  have lr := rowsT_len lb
  have lp := P.len
  have e := showT_tl l
  have sp := show_split l
  rw [← cut_front _ (show_ends l)] at sp
  have rl : ∀ y ∈ rowsT (bosses pl) ss, y.length ≤ 46 := rowsT_all fun a ha i hi => by
    have h1 := boss_len P a ha
    have h2 := (num_ok (sm i hi)).2.2
    unfold rowT
    rw [Str.length_append, Str.length_append, show spT.length = 1 by decide +kernel]
    omega
  have ne : (rowsT (bosses pl) ss).map tl ≠ [] := fun z => by
    have := congrArg List.length z
    rw [List.length_map, lr, lb, l] at this
    cases this
  have sl := joinL_sum 10 _ ne
  have sw := sum_le (B := 46) rl
  have m : (rowsT (bosses pl) ss).length * 46 ≤ 40 * 46 := Nat.mul_le_mul_right _ (by omega)
  rw [List.map_map, List.length_map] at sl
  have q : (rowsT (bosses pl) ss).map (·.length) = (rowsT (bosses pl) ss).map (List.length ∘ tl) := List.map_congr_left fun y _ => len_tl y
  rw [← q] at sl
  have el : (showT pl ss).length = (joinL [10] ((rowsT (bosses pl) ss).map tl)).length + 1 := by
    rw [len_tl, e, List.length_append]
    rfl
  refine ⟨fun c hc => ?_, by omega, by omega, by rw [sp, lr]; omega, fun y hy => ?_⟩
  · rw [e] at hc
    rcases List.mem_append.mp hc with z | z
    · rcases mem_joinL z with z | ⟨y, hy, z⟩
      · rw [List.mem_singleton.mp z]
        decide
      · obtain ⟨x, hx, rfl⟩ := List.mem_map.mp hy
        revert z
        refine rowsT_all (p := fun x => c ∈ tl x → c < 128) (fun a ha i hi m => ?_) x hx
        unfold rowT at m
        rw [tl_append, tl_append, tl_sp] at m
        have num : ∀ i : Int, c ∈ tl (numT i) → c < 128 := fun i h => by
          by_cases z : c < 128
          · exact z
          · exact absurd h (numT_free (.inr (by omega)))
        rcases List.mem_append.mp m with m | m
        · rcases List.mem_append.mp m with m | m
          · rcases List.mem_cons.mp ha with rfl | ha
            · exact (Asc.lit (s := "shop") (by decide)) c m
            · obtain ⟨x, _, rfl⟩ := List.mem_map.mp ha
              exact num x m
          · rw [List.mem_singleton.mp m]
            decide
        · exact num i m
    · rw [List.mem_singleton.mp z]
      decide
  · rw [sp] at hy
    revert y
    refine rowsT_all (p := fun y => ∃ a b, Txt.split y spT = [a, b] ∧ a.length ≤ 42 ∧ b.length ≤ 42) fun a ha i hi => ?_
    have h1 := boss_len P a ha
    have h2 := (num_ok (sm i hi)).2.2
    exact ⟨a, numT i, row_split ha i, by omega, by omega⟩
theorem sqL_same {K : PySem.W.Frag} {H H' : Hp} {a : Addr} {xs : List V} (e : Same H H') (h : SqL K H a xs) : SqL K H' a xs := extN_seqL (same_extN e) h
theorem same_of_bar {H H2 H' : Hp} {b : Addr} (s : Same H H2) (nb : H b = none) (B : Bar b H2 H') : Same H H' := fun c o h => B _ _ (ne_of_none h nb) (s _ _ h)
theorem dps_ints {H : Hp} : ∀ ns : List Int, DPs H (ns.map V.int) (ns.map PyData.int)
  | [] => .nil
  | n :: ns => .cons (.int n) (dps_ints ns)
theorem val_same {K : PySem.W.Frag} {H H' : Hp} {v : V} (s : Same H H') (h : Val53 K H v) : Val53 K H' v := by
  rcases h with y | ⟨t, rfl, y⟩
  · exact .inl (noTxt_same s y)
  · exact .inr ⟨t, rfl, y⟩
theorem noPage_same {K : PySem.W.Frag} {H H' : Hp} {v : V} (s : Same H H') (h : NoPage K H v) : NoPage K H' v := h.imp (noTxt_same s) id
theorem deepP (pl ss : List Int) (hp : pl.length ≤ 1000) (hs : ss.length ≤ 1000) : Deep 2 (.tuple [.tuple (pl.map PyData.int), .tuple (ss.map PyData.int)]) := by
  have one : ∀ l : List Int, l.length ≤ 1000 → Deep 1 (.tuple (l.map PyData.int)) := fun l hl => .inr ⟨_, .inr rfl, by rw [List.length_map]; exact hl, fun e he => by
    obtain ⟨x, _, rfl⟩ := List.mem_map.mp he
    exact .int x⟩
  refine .inr ⟨_, .inr rfl, (by show 2 ≤ 1000; decide), fun e he => ?_⟩
  simp only [List.mem_cons, List.not_mem_nil, or_false] at he
  rcases he with rfl | rfl
  · exact one pl hp
  · exact one ss hs
theorem deep2 {d : PyData} {n : Nat} (h : Deep n d) : Deep (n + 1) (.list [d, d]) := .inr ⟨_, .inl rfl, (by show 2 ≤ 1000; decide), fun e he => by
  simp only [List.mem_cons, List.not_mem_nil, or_false] at he
  rcases he with rfl | rfl
  · exact h
  · exact h⟩
section
variable {P : Program} {w : World} {K : PySem.W.Frag} {mg : Str → Option Value} {base : Heap}
/-- what the law's reading of a value is -/
def Due53 (K : PySem.W.Frag) (H : Hp) (v d : V) : Prop := (d = .non ∧ NoPage K H v) ∨ ∃ (pl ss : List Int) (r p q : Addr), v = .str (showT pl ss) ∧ Plant pl ∧ ss.length = pl.length + 1 ∧ ss.Nodup ∧ (∀ n ∈ ss, n.natAbs < 10 ^ 40) ∧ d = .ref r ∧ H r = some (.tup [.ref p, .ref q]) ∧ H p = some (.tup (pl.map V.int)) ∧ H q = some (.tup (ss.map V.int))
theorem law_body (T : Tx K mg) (B2 : TabB base mg T.c_oldest_giver T.P_oldest_giver) (B : TabB base mg T.c_words_by_age T.P_words_by_age) {f a : Addr} {cdv : Value} {st : Shared} {H : Hp} {ns : List Int} (hl : ns.length ≤ 63) (hS : SqL K H a (ns.map V.int)) (sb : ∃ mm, base.Ns sysModules mm) (hT : Tabs T.tabW H) (hr : Room 14 (callerA.deeper (envOfC "law" (defScope sLaw) st.heap.objs.size f cdv))) :
    ∃ t, PSs (cxOf CX0 P w K mg base ["script", "fixed", "k", "fount", "plant", "text", "bent", "value", "due", "turn"] "law" (defScope sLaw) f cdv callerA [] st H fun _ _ _ => False).nox (defBody sLaw) t ∧ t { nx := fun _ _ => V.non = .bl true, rt := fun v _ => v = .bl true } (start ["script", "fixed", "k", "fount", "plant", "text", "bent", "value", "due", "turn"] [.ref a]) H := by
  have nd := scLaw.nd
  refine ⟨_, (pss_cons (ps_set (i := 1) nd rfl (.inl rfl) (pe_call0 (ok_fixed53 T) (hr.mono (by omega)) (by rfl) T.g__law_fixed T.F__law_fixed.kp T.b__law_fixed .nil pass0))
(pss_cons (ps_for PassesOwn.never rfl (pi_range1 (by rfl) T.n_range (pa_cons (pe_callB (call_max2 rfl) (by rfl) T.n_max (by decide +kernel) (pa_cons pe_int (pa_cons (pe_callB (call_min2 rfl) (by rfl) T.n_min (by decide +kernel) (pa_cons pe_int (pa_cons (pe_callB call_len_seq (by rfl) T.n_len PySem.boot_len (pa_cons (pv 0) pa_nil)) pa_nil))) pa_nil))) pa_nil)) (pg_name (i := 2) nd rfl (.inl rfl))
(pss_cons (ps_set (i := 3) nd rfl (.inr rfl) (pe_call (ok_fount T) (hr.mono (by omega)) (by rfl) T.g__law_fount T.F__law_fount.kp T.b__law_fount .nil pass0 (pa_cons (pv 0) (pa_cons (pv 2) pa_nil))))
(pss_cons (ps_set (i := 4) nd rfl (.inl rfl) (pe_call (ok_grown T) (hr.mono (by omega)) (by rfl) T.g__law_grown T.F__law_grown.kp T.b__law_grown .nil pass0 (pa_cons (pv 3) (pa_cons (pe_ix ix_list (pe_lst (pa_cons pe_int (pa_cons pe_int pa_nil))) (pe_call (ok_sip T) (hr.mono (by omega)) (by rfl) T.g__law_sip T.F__law_sip.kp T.b__law_sip .nil pass0 (pa_cons (pv 3) (pa_cons pe_int pa_nil))) (fun _ _ => rfl)) pa_nil))))
(pss_cons (ps_set (i := 5) nd rfl (.inr rfl) (pe_call (ok_text T (k := 0)) (hr.mono (by omega)) (by rfl) T.g__law_text T.F__law_text.kp T.b__law_text .nil pass0 (pa_cons (pv 4) (pa_cons (pe_call (ok_filled T) (hr.mono (by omega)) (by rfl) T.g__law_filled T.F__law_filled.kp T.b__law_filled .nil pass0 (pa_cons (pv 3) (pa_cons (pv 4) pa_nil))) pa_nil))))
(pss_cons (ps_setLc (i := 6) (own := [("turn", 9)]) (g := gName 9) (tt := tYes) (te := (tCall spBent53 [] E0 (tCons (tVar 3) (tCons (tVar 5) tNil)))) (by rfl) nd rfl rfl (sw_true rfl rfl rfl (by decide +kernel)) (pi_range1 (by rfl) T.n_range (pa_cons pe_int pa_nil))
(blkOk_by (N := ["script", "fixed", "k", "fount", "plant", "text", "bent", "value", "due", "turn"]) (sc := defScope sLaw) (by decide +kernel)) (fun _ _ _ _ _ => (pg_name (i := 9) nd rfl (.inl rfl))) (fun _ _ _ _ _ => pts_nil) (fun _ _ _ _ _ => (pe_call (ok_bent53 T) (hr.mono (by omega)) (by rfl) T.g__law_bent T.F__law_bent.kp T.b__law_bent .nil pass0 (pa_cons (pv 3) (pa_cons (pv 5) pa_nil)))))
(pss_one (ps_for PassesOwn.never rfl (pi_list (pe_op op_cat (pe_op op_cat (pv 1) (pv 6)) (pe_lst (pa_cons (pv 5) (pa_cons (pe_slice sl_str (pv 5) po_none (po_some (pe_un un_neg pe_int))) (pa_cons (pe_op op_add_str (pv 5) pe_str) (pa_cons (pe_op op_add_str (pv 5) pe_str) pa_nil))))))) (pg_name (i := 7) nd rfl (.inl rfl))
(Evl.pss_cut (ps_set (i := 8) nd rfl (.inl rfl) (pe_call (ok_rd53 T) (hr.mono (by omega)) (by rfl) T.g__law_read T.F__law_read.kp T.b__law_read .nil pass0 (pa_cons (pv 7) pa_nil)))
(pss_one (ps_if (pt_not (pt_val (pe_call (ok_same T 4) (hr.mono (by omega)) (by rfl) T.g__law_same T.F__law_same.kp T.b__law_same .nil pass0 (pa_cons (pe_lst (pa_cons (pe_call (ok_told53 T) (hr.mono (by omega)) (by rfl) T.g__law_told T.F__law_told.kp T.b__law_told .nil pass0 (pa_cons (pv 7) pa_nil)) (pa_cons (pe_call (ok_told53 T) (hr.mono (by omega)) (by rfl) T.g__law_told T.F__law_told.kp T.b__law_told .nil pass0 (pa_cons (pv 7) pa_nil)) pa_nil))) (pa_cons (pe_op op_rep (pe_lst (pa_cons (pe_ifExp (pt_cmpR op_isN (pv 8) pe_non (nomark _)) pe_str (pv 8)) pa_nil)) pe_int) pa_nil)))))
(pss_one (ps_ret pe_bl)) pss_nil))))))))))
(pss_one (ps_ret pe_bl)))), ?_⟩
  refine ⟨rfl, fun G0 lf xs S0 ef lx hx => ?_⟩
  have S1 := sqL_same S0 hS
  have el : ((ns.map V.int).length : Nat) = ns.length := List.length_map ..
  obtain ⟨m12, e12, l12⟩ : ∃ M : Nat, (if (if ((ns.map V.int).length : Int) < 12 then ((ns.map V.int).length : Int) else 12) > 1 then (if ((ns.map V.int).length : Int) < 12 then ((ns.map V.int).length : Int) else 12) else 1) = (M : Int) ∧ M ≤ 12 := by
    by_cases c1 : ((ns.map V.int).length : Int) < 12
    · rw [if_pos c1]
      by_cases c2 : ((ns.map V.int).length : Int) > 1
      · rw [if_pos c2]
        exact ⟨_, rfl, by omega⟩
      · rw [if_neg c2]
        exact ⟨1, rfl, by decide⟩
    · rw [if_neg c1, if_pos (by decide)]
      exact ⟨12, rfl, by decide⟩
  refine ⟨.ref a, rfl, a, _, rfl, .inl S1, _, _, rfl, _, _, rfl, (m12 : Int), congrArg (fun z => [V.int z]) e12, by omega, by omega, ?_⟩
  refine for_range (lo := 0) (n := m12) (fun i σ G => ∃ (y2 y3 y4 y5 y6 y7 y8 y9 : Option V), σ = [some (.ref a), some (.ref lf), y2, y3, y4, y5, y6, y7, y8, y9] ∧ Same G0 G)
    ⟨none, none, none, none, none, none, none, none, rfl, Same.refl _⟩ (fun i σ H1 hi p1 => ?_) (fun σ H1 p1 => rfl)
  obtain ⟨y2, y3, y4, y5, y6, y7, y8, y9, rfl, SG⟩ := p1
  refine ⟨.ref a, rfl, .int (0 + (i : Nat)), rfl, a, ns, i, congrArg (fun z => [V.ref a, V.int z]) (Int.zero_add _), sqL_same SG S1, by omega, fun b o nb pb => ?_⟩
  have S2 : Same H1 (upd H1 b o) := same_new nb
  generalize upd H1 b o = H2 at pb S2 ⊢
  refine ⟨.ref b, rfl, (by show 2 ≤ sizeLine; decide), fun z nz => ?_⟩
  have sz := same_new (o := .lst [V.int 5, .int 40]) nz
  have ez : upd H2 z (.lst [V.int 5, .int 40]) z = some (.lst [V.int 5, .int 40]) := upd_same
  have zb : z ≠ b := pb.some nz
  have k3 := pb.same sz
  have B3 : Bar b H2 (upd H2 z (.lst [V.int 5, .int 40])) := Same.bar sz
  generalize upd H2 z (.lst [V.int 5, .int 40]) = H3 at ez k3 B3 ⊢
  clear sz nz pb
  refine ⟨.ref b, rfl, b, 2, 0, rfl, by decide, by decide, k3, by decide, fun r H4 r0 r2 k4 B4 O4 => ?_⟩
  obtain ⟨M, eM, M1, M2⟩ : ∃ M : Int, atI [V.int 5, .int 40] r = some (.int M) ∧ 1 ≤ M ∧ M ≤ 40 := by
    rcases (by omega : r = 0 ∨ r = 1) with rfl | rfl
    · exact ⟨5, rfl, by decide, by decide⟩
    · exact ⟨40, rfl, by decide, by decide⟩
  refine ⟨z, _, r, .int M, rfl, rfl, .inl (.inl (B4 _ _ zb ez)), eM, b, M, _, rfl, M1, M2, k4, by decide, fun H5 p pl k5 B5 np P5 lp => ?_⟩
  have pb5 : p ≠ b := k5.neT P5.at_
  refine ⟨.ref p, rfl, .ref b, rfl, .ref p, rfl, b, p, pl, _, rfl, k5, by decide, P5, fun H6 q ss k6 B6 nq e6 so => ?_⟩
  have P6 : PlantAt H6 p pl := ⟨B6 _ _ pb5 P5.at_, P5.ok⟩
  have sm40 : ∀ n ∈ ss, n.natAbs < 10 ^ 40 := fun n hn => by
    have := so.sm n hn
    have e : (10 : Int) ^ 36 < 10 ^ 40 := by decide
    omega
  refine ⟨p, q, pl, ss, rfl, P6, e6, so.len, fun n hn => Nat.lt_trans (sm40 n hn) (by decide), fun H7 s7 => ?_⟩
  have k7 := k6.same s7
  have B7 := (B3.trans B4).trans (B5.trans (B6.trans (Same.bar (b := b) s7)))
  obtain ⟨at_, lt, l0, fewM, hM⟩ := page_facts P6.ok so.len sm40
  have S7 := SG.trans (same_of_bar S2 nb B7)
  obtain ⟨t, et⟩ : ∃ t, t = showT pl ss := ⟨_, rfl⟩
  rw [← et] at at_ lt l0 fewM hM ⊢
  have G0b : G0 b = none := SG.free nb
  clear B3 B4 B5 B6 B7 s7 k6 k5 k4 k3 P5 P6 e6 np nq O4 ez zb S2 nb SG et sm40 so
  refine ⟨12, rfl, by decide, by decide, fun D nD => ?_⟩
  have Db : D ≠ b := k7.some nD
  rw [show (12 : Int).toNat = 12 from rfl]
  refine lc_range (lo := 0) (n := 12) (fun i G => ∃ (m : Nat) (us : List Str), m ≤ 301 + 20 * i ∧ PotAt G b m ∧ Bar b H7 G ∧ G D = some (.lst (us.map V.str)) ∧ us.length = i ∧ ∀ u ∈ us, GdT u) ⟨301, [], by decide, k7.same (same_new nD), Same.bar (same_new nD), upd_same, rfl, fun y h => (by cases h)⟩ (fun i G hi p1 => ?_) (fun G p1 => ?_)
  · obtain ⟨m, us, lm, kG, BG, eD, lu, gu⟩ := p1
    refine ⟨rfl, tyes_if ⟨.ref b, rfl, .str t, rfl, b, t, m, rfl, kG, by omega, at_, lt, l0, fewM, hM, fun G2 u m2 lm2 k2 B2 au lu2 => ?_⟩⟩
    refine ⟨_, B2 _ _ Db eD, by rw [List.length_map]; exact Nat.lt_of_lt_of_le (by omega : us.length < 20000) (by decide), m2, us ++ [u], by omega, ?_, fun c o cb hc => ?_, ?_, ?_, fun y hy => ?_⟩
    · obtain ⟨x1, x2, x3, zb, wb⟩ := id k2
      exact ⟨x1, x2, x3, (upd_ne (Ne.symm Db)).trans zb, wb⟩
    · rw [upd_ne (ne_of_none hc nD)]
      exact B2 _ _ cb (BG _ _ cb hc)
    · rw [upd_same, List.map_append]
      rfl
    · rw [List.length_append, lu]
      rfl
    · rcases List.mem_append.mp hy with z | z
      · exact gu y z
      · rw [List.mem_singleton.mp z]
        exact ⟨au, by omega⟩
  obtain ⟨m, us, lm, kG, BG, eD, lu, gu⟩ := p1
  have S8 := same_of_bar S7 G0b BG
  have hx8 : ∀ v ∈ xs, Val53 K G v := fun v hv => val_same S8 (hx v hv)
  have ef8 := S8 _ _ ef
  clear S7 BG kG k7 nD lm
  refine ⟨.ref lf, rfl, .ref D, rfl, lf, D, xs, us.map V.str, rfl, rfl, ef8, eD, by rw [List.length_map]; exact Nat.le_trans (by omega : xs.length + us.length ≤ 60) (by decide), fun m2 nm2 => ?_⟩
  have sm2 := same_new (o := .lst (xs ++ us.map V.str)) nm2
  have em2 : upd G m2 (.lst (xs ++ us.map V.str)) m2 = some (.lst (xs ++ us.map V.str)) := upd_same
  have h2 : ∀ v ∈ xs ++ us.map V.str, Val53 K (upd G m2 (.lst (xs ++ us.map V.str))) v := fun v hv => by
    rcases List.mem_append.mp hv with z | z
    · exact val_same sm2 (hx8 v z)
    · obtain ⟨u, hu, rfl⟩ := List.mem_map.mp z
      exact .inr ⟨u, rfl, gu u hu⟩
  have S9 := S8.trans sm2
  have lxu : (xs ++ us.map V.str).length ≤ 60 := by rw [List.length_append, List.length_map]; omega
  generalize xs ++ us.map V.str = ws at em2 h2 sm2 S9 lxu ⊢
  generalize upd G m2 (.lst ws) = G2 at em2 h2 S9 ⊢
  clear sm2 nm2 hx8 ef8 S8
  have cl := cutS_length t none (some (-1))
  have n1 : nlT.length = 1 := by decide +kernel
  have n2 : spT.length = 1 := by decide +kernel
  have big : 20000 ≤ sizeLine := (by decide)
  refine ⟨.str t, rfl, .str t, rfl, 1, rfl, -1, rfl, t, rfl, by omega, .str t, rfl, t, nlT, rfl, rfl, by omega, .str t, rfl, t, spT, rfl, rfl, by omega, (by show 4 ≤ sizeLine; decide), cat_lit (ts := [t, cutS t none (some (-1)), t ++ nlT, t ++ spT]) S9 em2 h2 lxu rfl (by show 4 ≤ 60; decide) (fun u hu => ?_) fun G3 l3 vs S3 e3 lx3 h3 => ?_⟩
  · simp only [List.mem_cons, List.not_mem_nil, or_false] at hu
    rcases hu with rfl | rfl | rfl | rfl
    · exact ⟨at_, by omega⟩
    · exact ⟨Asc.cut at_ _ _, by omega⟩
    · exact ⟨at_.append (Asc.lit (s := "\n") (by decide)), by rw [Str.length_append]; omega⟩
    · exact ⟨at_.append (Asc.lit (s := " ") (by decide)), by rw [Str.length_append]; omega⟩
  clear S9 em2 h2 lxu lx3 cl
  refine ⟨l3, rfl, ⟨_, .inl (.inl e3)⟩, ?_⟩
  refine for_list (xs := vs) (fun j σ G' => ∃ (y7 y8 : Option V), σ = [some (.ref a), some (.ref lf), some (.int (0 + (i : Nat))), some (.ref b), some (.ref p), some (.str t), some (.ref D), y7, y8, y9] ∧ Same G3 G') ⟨y7, y8, rfl, Same.refl _⟩ (fun j σ G' _ p1 => let ⟨_, _, _, s⟩ := p1; .inl (.inl (s _ _ e3))) (fun j v σ G' ex p1 => ?_) (fun σ G' p1 => ?_)
  · obtain ⟨z7, z8, rfl, sG⟩ := p1
    have hv := val_same sG (h3 v (List.mem_of_getElem? ex))
    refine ⟨fun σ G2 => ∃ d, σ = [some (.ref a), some (.ref lf), some (.int (0 + (i : Nat))), some (.ref b), some (.ref p), some (.str t), some (.ref D), some v, some d, y9] ∧ Same G' G2 ∧ Due53 K G2 v d, ?_, fun σ G2 p2 => ?_⟩
    · refine ⟨v, rfl, v, rfl, ?_⟩
      rcases hv with nt | ⟨u, rfl, au, lu⟩
      · exact .inl ⟨nt, .non, rfl, Same.refl _, .inl ⟨rfl, .inl nt⟩⟩
      · refine .inr ⟨u, rfl, lu, au, ?_⟩
        cases en : Txt.endswith u nlT with
        | false => exact .inl ⟨rfl, .non, rfl, Same.refl _, .inl ⟨rfl, .inr ⟨u, rfl, lu, .inl en⟩⟩⟩
        | true => exact .inr ⟨rfl, fun nr G2 s => ⟨.non, rfl, s, .inl ⟨rfl, .inr ⟨u, rfl, lu, .inr ⟨en, nr⟩⟩⟩⟩, fun pl ss e ls P nd sm G2 r p q s nr er ep eq => ⟨.ref r, rfl, s, .inr ⟨pl, ss, r, p, q, congrArg V.str (page_back en ls e), P, ls, nd, sm, rfl, er, ep, eq⟩⟩⟩
    · obtain ⟨d, rfl, s2, due⟩ := p2
      have big2 : 1 * 2 ≤ sizeLine := (by decide)
      rcases due with ⟨rfl, np⟩ | ⟨pl2, ss2, r, p2, q2, rfl, P2, ls2, nd2, sm2, rfl, er, ep, eq⟩
      · refine ⟨v, rfl, v, rfl, .inl ⟨np, fun H4 s4 => ⟨v, rfl, v, rfl, .inl ⟨noPage_same s4 np, fun H5 s5 => ⟨(by show 2 ≤ sizeLine; decide), fun l4 nl4 => ?_⟩⟩⟩⟩⟩
        have s6 := same_new (o := .lst [V.str (Str.ofString "text"), .str (Str.ofString "text")]) nl4
        have e4 : upd H5 l4 (.lst [V.str (Str.ofString "text"), .str (Str.ofString "text")]) l4 = some (.lst [V.str (Str.ofString "text"), .str (Str.ofString "text")]) := upd_same
        refine ⟨.non, rfl, rfl, _, rfl, iteT ⟨(by show 1 ≤ sizeLine; decide), fun l5 nl5 => ⟨l5, 2, _, rfl, rfl, upd_same, by decide, by decide, big2, fun l6 nl6 => ?_⟩⟩⟩
        have s7 := same_new (o := .lst [V.str (Str.ofString "text")]) nl5
        have s8 := same_new (o := .lst (List.replicate (2 : Int).toNat [V.str (Str.ofString "text")]).flatten) nl6
        have dt : ∀ G : Hp, DPs G [V.str (Str.ofString "text"), .str (Str.ofString "text")] [.str (Str.ofString "text"), .str (Str.ofString "text")] := fun G => .cons (.str _) (.cons (.str _) .nil)
        refine ⟨.ref l4, .ref l6, .list [.str (Str.ofString "text"), .str (Str.ofString "text")], rfl, .lst (s8 _ _ (s7 _ _ e4)) (dt _), .lst upd_same (dt _), deep2 (n := 2) (.inl (.str _)), fun H9 s9 => ?_⟩
        refine ⟨true, rfl, iteF ⟨_, _, rfl, sG.trans (s2.trans (s4.trans (s5.trans (s6.trans (s7.trans (s8.trans s9))))))⟩⟩
      · have lp2 := P2.len
        obtain ⟨dd, edd⟩ : ∃ dd, dd = PyData.tuple [.tuple (pl2.map PyData.int), .tuple (ss2.map PyData.int)] := ⟨_, rfl⟩
        have hd : Deep 2 dd := by rw [edd]; exact deepP pl2 ss2 (by omega) (by omega)
        have dpt : ∀ {G : Hp} {t p q : Addr}, G t = some (.tup [.ref p, .ref q]) → G p = some (.tup (pl2.map V.int)) → G q = some (.tup (ss2.map V.int)) → DP G (.ref t) dd := fun h1 h2 h3 => by
          rw [edd]
          exact .tup h1 (.cons (.tup h2 (dps_ints _)) (.cons (.tup h3 (dps_ints _)) .nil))
        refine ⟨.str (showT pl2 ss2), rfl, .str (showT pl2 ss2), rfl, .inr ⟨pl2, ss2, rfl, P2, ls2, nd2, sm2, fun H4 t1 p3 q3 s4 _ _ _ et1 ep3 eq3 => ?_⟩⟩
        have D1 := dpt et1 ep3 eq3
        refine ⟨.str (showT pl2 ss2), rfl, .str (showT pl2 ss2), rfl, .inr ⟨pl2, ss2, rfl, P2, ls2, nd2, sm2, fun H5 t2 p4 q4 s5 _ _ _ et2 ep4 eq4 => ⟨(by show 2 ≤ sizeLine; decide), fun l4 nl4 => ?_⟩⟩⟩
        have D2 := dpt et2 ep4 eq4
        have D0 := dpt er ep eq
        have s6 := same_new (o := .lst [V.ref t1, .ref t2]) nl4
        have e4 : upd H5 l4 (.lst [V.ref t1, .ref t2]) l4 = some (.lst [V.ref t1, .ref t2]) := upd_same
        refine ⟨.ref r, rfl, rfl, _, rfl, iteF ⟨.ref r, rfl, (by show 1 ≤ sizeLine; decide), fun l5 nl5 => ⟨l5, 2, _, rfl, rfl, upd_same, by decide, by decide, big2, fun l6 nl6 => ?_⟩⟩⟩
        have s7 := same_new (o := .lst [V.ref r]) nl5
        have s8 := same_new (o := .lst (List.replicate (2 : Int).toNat [V.ref r]).flatten) nl6
        have s68 := s6.trans (s7.trans s8)
        have s48 := s4.trans (s5.trans s68)
        refine ⟨.ref l4, .ref l6, .list [dd, dd], rfl, .lst (s8 _ _ (s7 _ _ e4)) (.cons (D1.same (s5.trans s68)) (.cons (D2.same s68) .nil)), .lst upd_same (.cons (D0.same s48) (.cons (D0.same s48) .nil)), deep2 hd, fun H9 s9 => ?_⟩
        refine ⟨true, rfl, iteF ⟨_, _, rfl, sG.trans (s2.trans (s48.trans s9))⟩⟩
  · obtain ⟨z7, z8, rfl, sG⟩ := p1
    exact ⟨_, _, _, _, _, _, _, _, rfl, S3.trans sG⟩
end
end PT

set_option maxHeartbeats 8000000
/-! the end: what the top has left, and the law's call -/
namespace PT
open PySem PySem.Spec PyProof.Rows L2 LamX NdefX
theorem all_mk {l : PySem.W.OpenLaw} {w : World} {K : PySem.W.Frag} {mg : Str → Option Value} {fa a : Addr} {st : Shared} {ns : List Int} {p20 p21 p22 p23 p24 p25 p26 p27 p30 p31 p32 p34 p37 p38 p39 p40 p42 p43 p45 p46 p47 p48 p49 p50 p52 p56 p57 p58 p59 p60 p61 p62 p63 p64 p65 p66 p67 p68 p69 p70 : Addr} {t_MOST_STATIONS : Tok} {t_FARTHEST_DAY : Tok} {t_MOST_DIGITS : Tok} {t_MOST_DAYS : Tok}
    (X : K.In st.heap) (G : st.heap.Ns mainGlobals mg) (hfa : mg "law" = some (.ref fa)) (hl : ns.length ≤ 63)
    {TD39 : Addr}
    {od20 an20 od21 an21 od22 an22 od23 an23 od24 an24 od25 an25 od26 an26 od27 an27 od30 an30 od31 an31 od32 an32 od34 an34 od37 an37 od38 an38 od39 an39 od40 an40 od42 an42 od43 an43 od45 an45 od46 an46 od47 an47 od48 an48 od49 an49 od50 an50 od52 an52 od56 an56 od57 an57 od58 an58 od59 an59 od60 an60 od61 an61 od62 an62 od63 an63 od64 an64 od65 an65 od66 an66 od67 an67 od68 an68 od69 an69 od70 an70 : Option Addr} {sl20 sl21 sl22 sl23 sl24 sl25 sl26 sl27 sl30 sl31 sl32 sl34 sl37 sl38 sl39 sl40 sl42 sl43 sl45 sl46 sl47 sl48 sl49 sl50 sl52 sl56 sl57 sl58 sl59 sl60 sl61 sl62 sl63 sl64 sl65 sl66 sl67 sl68 sl69 sl70 : Array (Option Value)} {oc20 kV20 dc20 pm20 ct20 cd20 oc21 kV21 dc21 pm21 ct21 cd21 oc22 kV22 dc22 pm22 ct22 cd22 oc23 kV23 dc23 pm23 ct23 cd23 oc24 kV24 dc24 pm24 ct24 cd24 oc25 kV25 dc25 pm25 ct25 cd25 oc26 kV26 dc26 pm26 ct26 cd26 oc27 kV27 dc27 pm27 ct27 cd27 oc30 kV30 dc30 pm30 ct30 cd30 oc31 kV31 dc31 pm31 ct31 cd31 oc32 kV32 dc32 pm32 ct32 cd32 oc34 kV34 dc34 pm34 ct34 cd34 oc37 kV37 dc37 pm37 ct37 cd37 oc38 kV38 dc38 pm38 ct38 cd38 oc39 kV39 dc39 pm39 ct39 cd39 oc40 kV40 dc40 pm40 ct40 oc42 kV42 dc42 pm42 ct42 cd42 oc43 kV43 dc43 pm43 ct43 cd43 oc45 kV45 dc45 pm45 ct45 oc46 kV46 dc46 pm46 ct46 cd46 oc47 kV47 dc47 pm47 ct47 cd47 oc48 kV48 dc48 pm48 ct48 cd48 oc49 kV49 dc49 pm49 ct49 cd49 oc50 kV50 dc50 pm50 ct50 cd50 oc52 kV52 dc52 pm52 ct52 cd52 oc56 kV56 dc56 pm56 ct56 cd56 oc57 kV57 dc57 pm57 ct57 cd57 oc58 kV58 dc58 pm58 ct58 cd58 oc59 kV59 dc59 pm59 ct59 cd59 oc60 kV60 dc60 pm60 ct60 cd60 oc61 kV61 dc61 pm61 ct61 cd61 oc62 kV62 dc62 pm62 ct62 cd62 oc63 kV63 dc63 pm63 ct63 cd63 oc64 kV64 dc64 pm64 ct64 cd64 oc65 kV65 dc65 pm65 ct65 cd65 oc66 kV66 dc66 pm66 ct66 cd66 oc67 kV67 dc67 pm67 ct67 cd67 oc68 kV68 dc68 pm68 ct68 cd68 oc69 kV69 dc69 pm69 ct69 cd69 oc70 kV70 dc70 pm70 ct70 cd70 : Value}
    {cc40 PP40 cc45 PP45 : Addr}
    (a20 : PySem.W.nsIn K mainGlobals "is_integer" = some (some (.ref p20))) (l20 : K.lookup p20 = some ⟨oc20, od20, .func (PySem.W.fnOf "is_integer" "is_integer" (defArgs sIsInteger) (defBody sIsInteger) (defScope sIsInteger) .none kV20 dc20 pm20 an20 cd20 ct20), sl20⟩) (c20 : PySem.W.codeIn K cd20 "is_integer" = true) (k20 : PySem.W.keepIn K (.ref p20) = true)
    (a21 : PySem.W.nsIn K mainGlobals "is_within" = some (some (.ref p21))) (l21 : K.lookup p21 = some ⟨oc21, od21, .func (PySem.W.fnOf "is_within" "is_within" (defArgs sIsWithin) (defBody sIsWithin) (defScope sIsWithin) .none kV21 dc21 pm21 an21 cd21 ct21), sl21⟩) (c21 : PySem.W.codeIn K cd21 "is_within" = true) (k21 : PySem.W.keepIn K (.ref p21) = true)
    (a22 : PySem.W.nsIn K mainGlobals "is_decimal" = some (some (.ref p22))) (l22 : K.lookup p22 = some ⟨oc22, od22, .func (PySem.W.fnOf "is_decimal" "is_decimal" (defArgs sIsDecimal) (defBody sIsDecimal) (defScope sIsDecimal) .none kV22 dc22 pm22 an22 cd22 ct22), sl22⟩) (c22 : PySem.W.codeIn K cd22 "is_decimal" = true) (k22 : PySem.W.keepIn K (.ref p22) = true)
    (a23 : PySem.W.nsIn K mainGlobals "fits_plant" = some (some (.ref p23))) (l23 : K.lookup p23 = some ⟨oc23, od23, .func (PySem.W.fnOf "fits_plant" "fits_plant" (defArgs sFitsPlant) (defBody sFitsPlant) (defScope sFitsPlant) .none kV23 dc23 pm23 an23 cd23 ct23), sl23⟩) (c23 : PySem.W.codeIn K cd23 "fits_plant" = true) (k23 : PySem.W.keepIn K (.ref p23) = true)
    (a24 : PySem.W.nsIn K mainGlobals "fits_stock" = some (some (.ref p24))) (l24 : K.lookup p24 = some ⟨oc24, od24, .func (PySem.W.fnOf "fits_stock" "fits_stock" (defArgs sFitsStock) (defBody sFitsStock) (defScope sFitsStock) .none kV24 dc24 pm24 an24 cd24 ct24), sl24⟩) (c24 : PySem.W.codeIn K cd24 "fits_stock" = true) (k24 : PySem.W.keepIn K (.ref p24) = true)
    (a25 : PySem.W.nsIn K mainGlobals "check_plant" = some (some (.ref p25))) (l25 : K.lookup p25 = some ⟨oc25, od25, .func (PySem.W.fnOf "check_plant" "check_plant" (defArgs sCheckPlant) (defBody sCheckPlant) (defScope sCheckPlant) .none kV25 dc25 pm25 an25 cd25 ct25), sl25⟩) (c25 : PySem.W.codeIn K cd25 "check_plant" = true) (k25 : PySem.W.keepIn K (.ref p25) = true)
    (a26 : PySem.W.nsIn K mainGlobals "check_stock" = some (some (.ref p26))) (l26 : K.lookup p26 = some ⟨oc26, od26, .func (PySem.W.fnOf "check_stock" "check_stock" (defArgs sCheckStock) (defBody sCheckStock) (defScope sCheckStock) .none kV26 dc26 pm26 an26 cd26 ct26), sl26⟩) (c26 : PySem.W.codeIn K cd26 "check_stock" = true) (k26 : PySem.W.keepIn K (.ref p26) = true)
    (a27 : PySem.W.nsIn K mainGlobals "check_days" = some (some (.ref p27))) (l27 : K.lookup p27 = some ⟨oc27, od27, .func (PySem.W.fnOf "check_days" "check_days" (defArgs sCheckDays) (defBody sCheckDays) (defScope sCheckDays) .none kV27 dc27 pm27 an27 cd27 ct27), sl27⟩) (c27 : PySem.W.codeIn K cd27 "check_days" = true) (k27 : PySem.W.keepIn K (.ref p27) = true)
    (a30 : PySem.W.nsIn K mainGlobals "read_plant" = some (some (.ref p30))) (l30 : K.lookup p30 = some ⟨oc30, od30, .func (PySem.W.fnOf "read_plant" "read_plant" (defArgs sReadPlant) (defBody sReadPlant) (defScope sReadPlant) .none kV30 dc30 pm30 an30 cd30 ct30), sl30⟩) (c30 : PySem.W.codeIn K cd30 "read_plant" = true) (k30 : PySem.W.keepIn K (.ref p30) = true)
    (a31 : PySem.W.nsIn K mainGlobals "check_text" = some (some (.ref p31))) (l31 : K.lookup p31 = some ⟨oc31, od31, .func (PySem.W.fnOf "check_text" "check_text" (defArgs sCheckText) (defBody sCheckText) (defScope sCheckText) .none kV31 dc31 pm31 an31 cd31 ct31), sl31⟩) (c31 : PySem.W.codeIn K cd31 "check_text" = true) (k31 : PySem.W.keepIn K (.ref p31) = true)
    (a32 : PySem.W.nsIn K mainGlobals "number_in" = some (some (.ref p32))) (l32 : K.lookup p32 = some ⟨oc32, od32, .func (PySem.W.fnOf "number_in" "number_in" (defArgs sNumberIn) (defBody sNumberIn) (defScope sNumberIn) .none kV32 dc32 pm32 an32 cd32 ct32), sl32⟩) (c32 : PySem.W.codeIn K cd32 "number_in" = true) (k32 : PySem.W.keepIn K (.ref p32) = true)
    (a34 : PySem.W.nsIn K mainGlobals "supplier_lists" = some (some (.ref p34))) (l34 : K.lookup p34 = some ⟨oc34, od34, .func (PySem.W.fnOf "supplier_lists" "supplier_lists" (defArgs sSupplierLists) (defBody sSupplierLists) (defScope sSupplierLists) .none kV34 dc34 pm34 an34 cd34 ct34), sl34⟩) (c34 : PySem.W.codeIn K cd34 "supplier_lists" = true) (k34 : PySem.W.keepIn K (.ref p34) = true)
    (a37 : PySem.W.nsIn K mainGlobals "run" = some (some (.ref p37))) (l37 : K.lookup p37 = some ⟨oc37, od37, .func (PySem.W.fnOf "run" "run" (defArgs sRun) (defBody sRun) (defScope sRun) .none kV37 dc37 pm37 an37 cd37 ct37), sl37⟩) (c37 : PySem.W.codeIn K cd37 "run" = true) (k37 : PySem.W.keepIn K (.ref p37) = true)
    (a38 : PySem.W.nsIn K mainGlobals "first_days" = some (some (.ref p38))) (l38 : K.lookup p38 = some ⟨oc38, od38, .func (PySem.W.fnOf "first_days" "first_days" (defArgs sFirstDays) (defBody sFirstDays) (defScope sFirstDays) .none kV38 dc38 pm38 an38 cd38 ct38), sl38⟩) (c38 : PySem.W.codeIn K cd38 "first_days" = true) (k38 : PySem.W.keepIn K (.ref p38) = true)
    (a39 : PySem.W.nsIn K mainGlobals "pass_day" = some (some (.ref p39))) (l39 : K.lookup p39 = some ⟨oc39, od39, .func (PySem.W.fnOf "pass_day" "pass_day" (defArgs sPassDay) (defBody sPassDay) (defScope sPassDay) (.ref TD39) kV39 dc39 pm39 an39 cd39 ct39), sl39⟩) (c39 : PySem.W.codeIn K cd39 "pass_day" = true) (k39 : PySem.W.keepIn K (.ref p39) = true)
    {Tc39 : Value} {To39 : Option Addr} {Ts39 : Array (Option Value)} {Tt39 : Tok} {Tn39 : Nat} (u39 : K.lookup TD39 = some ⟨Tc39, To39, .seq #[.int 0 Tt39] Tn39, Ts39⟩)
    (a40 : PySem.W.nsIn K mainGlobals "oldest_giver" = some (some (.ref p40))) (l40 : K.lookup p40 = some ⟨oc40, od40, .func (PySem.W.fnOf "oldest_giver" "oldest_giver" (defArgs sOldestGiver) (defBody sOldestGiver) (defScope sOldestGiver) .none kV40 dc40 pm40 an40 (.ref cc40) ct40), sl40⟩) (c40 : PySem.W.codeIn K (.ref cc40) "oldest_giver" = true) (k40 : PySem.W.keepIn K (.ref p40) = true)
    (a42 : PySem.W.nsIn K mainGlobals "last_disorder" = some (some (.ref p42))) (l42 : K.lookup p42 = some ⟨oc42, od42, .func (PySem.W.fnOf "last_disorder" "last_disorder" (defArgs sLastDisorder) (defBody sLastDisorder) (defScope sLastDisorder) .none kV42 dc42 pm42 an42 cd42 ct42), sl42⟩) (c42 : PySem.W.codeIn K cd42 "last_disorder" = true) (k42 : PySem.W.keepIn K (.ref p42) = true)
    (a43 : PySem.W.nsIn K mainGlobals "days_to_order" = some (some (.ref p43))) (l43 : K.lookup p43 = some ⟨oc43, od43, .func (PySem.W.fnOf "days_to_order" "days_to_order" (defArgs sDaysToOrder) (defBody sDaysToOrder) (defScope sDaysToOrder) .none kV43 dc43 pm43 an43 cd43 ct43), sl43⟩) (c43 : PySem.W.codeIn K cd43 "days_to_order" = true) (k43 : PySem.W.keepIn K (.ref p43) = true)
    (a45 : PySem.W.nsIn K mainGlobals "words_by_age" = some (some (.ref p45))) (l45 : K.lookup p45 = some ⟨oc45, od45, .func (PySem.W.fnOf "words_by_age" "words_by_age" (defArgs sWordsByAge) (defBody sWordsByAge) (defScope sWordsByAge) .none kV45 dc45 pm45 an45 (.ref cc45) ct45), sl45⟩) (c45 : PySem.W.codeIn K (.ref cc45) "words_by_age" = true) (k45 : PySem.W.keepIn K (.ref p45) = true)
    (a46 : PySem.W.nsIn K mainGlobals "ranks_by_words" = some (some (.ref p46))) (l46 : K.lookup p46 = some ⟨oc46, od46, .func (PySem.W.fnOf "ranks_by_words" "ranks_by_words" (defArgs sRanksByWords) (defBody sRanksByWords) (defScope sRanksByWords) .none kV46 dc46 pm46 an46 cd46 ct46), sl46⟩) (c46 : PySem.W.codeIn K cd46 "ranks_by_words" = true) (k46 : PySem.W.keepIn K (.ref p46) = true)
    (a47 : PySem.W.nsIn K mainGlobals "turned_words" = some (some (.ref p47))) (l47 : K.lookup p47 = some ⟨oc47, od47, .func (PySem.W.fnOf "turned_words" "turned_words" (defArgs sTurnedWords) (defBody sTurnedWords) (defScope sTurnedWords) .none kV47 dc47 pm47 an47 cd47 ct47), sl47⟩) (c47 : PySem.W.codeIn K cd47 "turned_words" = true) (k47 : PySem.W.keepIn K (.ref p47) = true)
    (a48 : PySem.W.nsIn K mainGlobals "turned" = some (some (.ref p48))) (l48 : K.lookup p48 = some ⟨oc48, od48, .func (PySem.W.fnOf "turned" "turned" (defArgs sTurned) (defBody sTurned) (defScope sTurned) .none kV48 dc48 pm48 an48 cd48 ct48), sl48⟩) (c48 : PySem.W.codeIn K cd48 "turned" = true) (k48 : PySem.W.keepIn K (.ref p48) = true)
    (a49 : PySem.W.nsIn K mainGlobals "emptied_by_words" = some (some (.ref p49))) (l49 : K.lookup p49 = some ⟨oc49, od49, .func (PySem.W.fnOf "emptied_by_words" "emptied_by_words" (defArgs sEmptiedByWords) (defBody sEmptiedByWords) (defScope sEmptiedByWords) .none kV49 dc49 pm49 an49 cd49 ct49), sl49⟩) (c49 : PySem.W.codeIn K cd49 "emptied_by_words" = true) (k49 : PySem.W.keepIn K (.ref p49) = true)
    (a50 : PySem.W.nsIn K mainGlobals "times_given" = some (some (.ref p50))) (l50 : K.lookup p50 = some ⟨oc50, od50, .func (PySem.W.fnOf "times_given" "times_given" (defArgs sTimesGiven) (defBody sTimesGiven) (defScope sTimesGiven) .none kV50 dc50 pm50 an50 cd50 ct50), sl50⟩) (c50 : PySem.W.codeIn K cd50 "times_given" = true) (k50 : PySem.W.keepIn K (.ref p50) = true)
    (a52 : PySem.W.nsIn K mainGlobals "far_stock" = some (some (.ref p52))) (l52 : K.lookup p52 = some ⟨oc52, od52, .func (PySem.W.fnOf "far_stock" "far_stock" (defArgs sFarStock) (defBody sFarStock) (defScope sFarStock) .none kV52 dc52 pm52 an52 cd52 ct52), sl52⟩) (c52 : PySem.W.codeIn K cd52 "far_stock" = true) (k52 : PySem.W.keepIn K (.ref p52) = true)
    (a56 : PySem.W.nsIn K mainGlobals "_law_fount" = some (some (.ref p56))) (l56 : K.lookup p56 = some ⟨oc56, od56, .func (PySem.W.fnOf "_law_fount" "_law_fount" (defArgs sLawFount) (defBody sLawFount) (defScope sLawFount) .none kV56 dc56 pm56 an56 cd56 ct56), sl56⟩) (c56 : PySem.W.codeIn K cd56 "_law_fount" = true) (k56 : PySem.W.keepIn K (.ref p56) = true)
    (a57 : PySem.W.nsIn K mainGlobals "_law_sip" = some (some (.ref p57))) (l57 : K.lookup p57 = some ⟨oc57, od57, .func (PySem.W.fnOf "_law_sip" "_law_sip" (defArgs sLawSip) (defBody sLawSip) (defScope sLawSip) .none kV57 dc57 pm57 an57 cd57 ct57), sl57⟩) (c57 : PySem.W.codeIn K cd57 "_law_sip" = true) (k57 : PySem.W.keepIn K (.ref p57) = true)
    (a58 : PySem.W.nsIn K mainGlobals "_law_mixed" = some (some (.ref p58))) (l58 : K.lookup p58 = some ⟨oc58, od58, .func (PySem.W.fnOf "_law_mixed" "_law_mixed" (defArgs sLawMixed) (defBody sLawMixed) (defScope sLawMixed) .none kV58 dc58 pm58 an58 cd58 ct58), sl58⟩) (c58 : PySem.W.codeIn K cd58 "_law_mixed" = true) (k58 : PySem.W.keepIn K (.ref p58) = true)
    (a59 : PySem.W.nsIn K mainGlobals "_law_grown" = some (some (.ref p59))) (l59 : K.lookup p59 = some ⟨oc59, od59, .func (PySem.W.fnOf "_law_grown" "_law_grown" (defArgs sLawGrown) (defBody sLawGrown) (defScope sLawGrown) .none kV59 dc59 pm59 an59 cd59 ct59), sl59⟩) (c59 : PySem.W.codeIn K cd59 "_law_grown" = true) (k59 : PySem.W.keepIn K (.ref p59) = true)
    (a60 : PySem.W.nsIn K mainGlobals "_law_filled" = some (some (.ref p60))) (l60 : K.lookup p60 = some ⟨oc60, od60, .func (PySem.W.fnOf "_law_filled" "_law_filled" (defArgs sLawFilled) (defBody sLawFilled) (defScope sLawFilled) .none kV60 dc60 pm60 an60 cd60 ct60), sl60⟩) (c60 : PySem.W.codeIn K cd60 "_law_filled" = true) (k60 : PySem.W.keepIn K (.ref p60) = true)
    (a61 : PySem.W.nsIn K mainGlobals "_law_same" = some (some (.ref p61))) (l61 : K.lookup p61 = some ⟨oc61, od61, .func (PySem.W.fnOf "_law_same" "_law_same" (defArgs sLawSame) (defBody sLawSame) (defScope sLawSame) .none kV61 dc61 pm61 an61 cd61 ct61), sl61⟩) (c61 : PySem.W.codeIn K cd61 "_law_same" = true) (k61 : PySem.W.keepIn K (.ref p61) = true)
    (a62 : PySem.W.nsIn K mainGlobals "_law_text" = some (some (.ref p62))) (l62 : K.lookup p62 = some ⟨oc62, od62, .func (PySem.W.fnOf "_law_text" "_law_text" (defArgs sLawText) (defBody sLawText) (defScope sLawText) .none kV62 dc62 pm62 an62 cd62 ct62), sl62⟩) (c62 : PySem.W.codeIn K cd62 "_law_text" = true) (k62 : PySem.W.keepIn K (.ref p62) = true)
    (a63 : PySem.W.nsIn K mainGlobals "_law_kind" = some (some (.ref p63))) (l63 : K.lookup p63 = some ⟨oc63, od63, .func (PySem.W.fnOf "_law_kind" "_law_kind" (defArgs sLawKind) (defBody sLawKind) (defScope sLawKind) .none kV63 dc63 pm63 an63 cd63 ct63), sl63⟩) (c63 : PySem.W.codeIn K cd63 "_law_kind" = true) (k63 : PySem.W.keepIn K (.ref p63) = true)
    (a64 : PySem.W.nsIn K mainGlobals "_law_number" = some (some (.ref p64))) (l64 : K.lookup p64 = some ⟨oc64, od64, .func (PySem.W.fnOf "_law_number" "_law_number" (defArgs sLawNumber) (defBody sLawNumber) (defScope sLawNumber) .none kV64 dc64 pm64 an64 cd64 ct64), sl64⟩) (c64 : PySem.W.codeIn K cd64 "_law_number" = true) (k64 : PySem.W.keepIn K (.ref p64) = true)
    (a65 : PySem.W.nsIn K mainGlobals "_law_box" = some (some (.ref p65))) (l65 : K.lookup p65 = some ⟨oc65, od65, .func (PySem.W.fnOf "_law_box" "_law_box" (defArgs sLawBox) (defBody sLawBox) (defScope sLawBox) .none kV65 dc65 pm65 an65 cd65 ct65), sl65⟩) (c65 : PySem.W.codeIn K cd65 "_law_box" = true) (k65 : PySem.W.keepIn K (.ref p65) = true)
    (a66 : PySem.W.nsIn K mainGlobals "_law_read" = some (some (.ref p66))) (l66 : K.lookup p66 = some ⟨oc66, od66, .func (PySem.W.fnOf "_law_read" "_law_read" (defArgs sLawRead) (defBody sLawRead) (defScope sLawRead) .none kV66 dc66 pm66 an66 cd66 ct66), sl66⟩) (c66 : PySem.W.codeIn K cd66 "_law_read" = true) (k66 : PySem.W.keepIn K (.ref p66) = true)
    (a67 : PySem.W.nsIn K mainGlobals "_law_bent" = some (some (.ref p67))) (l67 : K.lookup p67 = some ⟨oc67, od67, .func (PySem.W.fnOf "_law_bent" "_law_bent" (defArgs sLawBent) (defBody sLawBent) (defScope sLawBent) .none kV67 dc67 pm67 an67 cd67 ct67), sl67⟩) (c67 : PySem.W.codeIn K cd67 "_law_bent" = true) (k67 : PySem.W.keepIn K (.ref p67) = true)
    (a68 : PySem.W.nsIn K mainGlobals "_law_told" = some (some (.ref p68))) (l68 : K.lookup p68 = some ⟨oc68, od68, .func (PySem.W.fnOf "_law_told" "_law_told" (defArgs sLawTold) (defBody sLawTold) (defScope sLawTold) .none kV68 dc68 pm68 an68 cd68 ct68), sl68⟩) (c68 : PySem.W.codeIn K cd68 "_law_told" = true) (k68 : PySem.W.keepIn K (.ref p68) = true)
    (a69 : PySem.W.nsIn K mainGlobals "_law_fixed" = some (some (.ref p69))) (l69 : K.lookup p69 = some ⟨oc69, od69, .func (PySem.W.fnOf "_law_fixed" "_law_fixed" (defArgs sLawFixed) (defBody sLawFixed) (defScope sLawFixed) .none kV69 dc69 pm69 an69 cd69 ct69), sl69⟩) (c69 : PySem.W.codeIn K cd69 "_law_fixed" = true) (k69 : PySem.W.keepIn K (.ref p69) = true)
    (a70 : PySem.W.nsIn K mainGlobals "law" = some (some (.ref p70))) (l70 : K.lookup p70 = some ⟨oc70, od70, .func (PySem.W.fnOf "law" "law" (defArgs sLaw) (defBody sLaw) (defScope sLaw) .none kV70 dc70 pm70 an70 cd70 ct70), sl70⟩) (c70 : PySem.W.codeIn K cd70 "law" = true) (k70 : PySem.W.keepIn K (.ref p70) = true)
    (aM_MOST_STATIONS : PySem.W.nsIn K mainGlobals "MOST_STATIONS" = some (some (.int 40 t_MOST_STATIONS)))
    (aM_FARTHEST_DAY : PySem.W.nsIn K mainGlobals "FARTHEST_DAY" = some (some (.int 1000000000000000000000000000000 t_FARTHEST_DAY)))
    (aM_MOST_DIGITS : PySem.W.nsIn K mainGlobals "MOST_DIGITS" = some (some (.int 40 t_MOST_DIGITS)))
    (aM_MOST_DAYS : PySem.W.nsIn K mainGlobals "MOST_DAYS" = some (some (.int 2000 t_MOST_DAYS)))
    {xx_PlantError : Addr} (xa_PlantError : PySem.W.nsIn K mainGlobals "PlantError" = some (some (.ref xx_PlantError))) (xe_PlantError : PySem.W.excIn K xx_PlantError [.type "ValueError", .type "Exception", .type "BaseException", .type "object"] "ValueError.__new__" = true) (xk_PlantError : PySem.W.keepIn K (.ref xx_PlantError) = true) (xs_PlantError : PySem.W.subIn K (.ref xx_PlantError) (.type "BaseException") = some true) (xt_PlantError : PySem.W.typeIn K (.ref xx_PlantError) = some (.type "type"))
    {xx_NoPlant : Addr} (xa_NoPlant : PySem.W.nsIn K mainGlobals "NoPlant" = some (some (.ref xx_NoPlant))) (xe_NoPlant : PySem.W.excIn K xx_NoPlant [.type "ValueError", .type "Exception", .type "BaseException", .type "object"] "ValueError.__new__" = true) (xk_NoPlant : PySem.W.keepIn K (.ref xx_NoPlant) = true) (xs_NoPlant : PySem.W.subIn K (.ref xx_NoPlant) (.type "BaseException") = some true) (xt_NoPlant : PySem.W.typeIn K (.ref xx_NoPlant) = some (.type "type"))
    {xx_NoStation : Addr} (xa_NoStation : PySem.W.nsIn K mainGlobals "NoStation" = some (some (.ref xx_NoStation))) (xe_NoStation : PySem.W.excIn K xx_NoStation [.type "ValueError", .type "Exception", .type "BaseException", .type "object"] "ValueError.__new__" = true) (xk_NoStation : PySem.W.keepIn K (.ref xx_NoStation) = true) (xs_NoStation : PySem.W.subIn K (.ref xx_NoStation) (.type "BaseException") = some true) (xt_NoStation : PySem.W.typeIn K (.ref xx_NoStation) = some (.type "type"))
    {xx_NoStock : Addr} (xa_NoStock : PySem.W.nsIn K mainGlobals "NoStock" = some (some (.ref xx_NoStock))) (xe_NoStock : PySem.W.excIn K xx_NoStock [.type "ValueError", .type "Exception", .type "BaseException", .type "object"] "ValueError.__new__" = true) (xk_NoStock : PySem.W.keepIn K (.ref xx_NoStock) = true) (xs_NoStock : PySem.W.subIn K (.ref xx_NoStock) (.type "BaseException") = some true) (xt_NoStock : PySem.W.typeIn K (.ref xx_NoStock) = some (.type "type"))
    {xx_NoPattern : Addr} (xa_NoPattern : PySem.W.nsIn K mainGlobals "NoPattern" = some (some (.ref xx_NoPattern))) (xe_NoPattern : PySem.W.excIn K xx_NoPattern [.type "ValueError", .type "Exception", .type "BaseException", .type "object"] "ValueError.__new__" = true) (xk_NoPattern : PySem.W.keepIn K (.ref xx_NoPattern) = true) (xs_NoPattern : PySem.W.subIn K (.ref xx_NoPattern) (.type "BaseException") = some true) (xt_NoPattern : PySem.W.typeIn K (.ref xx_NoPattern) = some (.type "type"))
    {xx_NoDays : Addr} (xa_NoDays : PySem.W.nsIn K mainGlobals "NoDays" = some (some (.ref xx_NoDays))) (xe_NoDays : PySem.W.excIn K xx_NoDays [.type "ValueError", .type "Exception", .type "BaseException", .type "object"] "ValueError.__new__" = true) (xk_NoDays : PySem.W.keepIn K (.ref xx_NoDays) = true) (xs_NoDays : PySem.W.subIn K (.ref xx_NoDays) (.type "BaseException") = some true) (xt_NoDays : PySem.W.typeIn K (.ref xx_NoDays) = some (.type "type"))
    {xx_NoBox : Addr} (xa_NoBox : PySem.W.nsIn K mainGlobals "NoBox" = some (some (.ref xx_NoBox))) (xe_NoBox : PySem.W.excIn K xx_NoBox [.type "ValueError", .type "Exception", .type "BaseException", .type "object"] "ValueError.__new__" = true) (xk_NoBox : PySem.W.keepIn K (.ref xx_NoBox) = true) (xs_NoBox : PySem.W.subIn K (.ref xx_NoBox) (.type "BaseException") = some true) (xt_NoBox : PySem.W.typeIn K (.ref xx_NoBox) = some (.type "type"))
    {xx_NotOrdered : Addr} (xa_NotOrdered : PySem.W.nsIn K mainGlobals "NotOrdered" = some (some (.ref xx_NotOrdered))) (xe_NotOrdered : PySem.W.excIn K xx_NotOrdered [.type "ValueError", .type "Exception", .type "BaseException", .type "object"] "ValueError.__new__" = true) (xk_NotOrdered : PySem.W.keepIn K (.ref xx_NotOrdered) = true) (xs_NotOrdered : PySem.W.subIn K (.ref xx_NotOrdered) (.type "BaseException") = some true) (xt_NotOrdered : PySem.W.typeIn K (.ref xx_NotOrdered) = some (.type "type"))
    {xx_NoWords : Addr} (xa_NoWords : PySem.W.nsIn K mainGlobals "NoWords" = some (some (.ref xx_NoWords))) (xe_NoWords : PySem.W.excIn K xx_NoWords [.type "ValueError", .type "Exception", .type "BaseException", .type "object"] "ValueError.__new__" = true) (xk_NoWords : PySem.W.keepIn K (.ref xx_NoWords) = true) (xs_NoWords : PySem.W.subIn K (.ref xx_NoWords) (.type "BaseException") = some true) (xt_NoWords : PySem.W.typeIn K (.ref xx_NoWords) = some (.type "type"))
    {xx_NoNumber : Addr} (xa_NoNumber : PySem.W.nsIn K mainGlobals "NoNumber" = some (some (.ref xx_NoNumber))) (xe_NoNumber : PySem.W.excIn K xx_NoNumber [.type "ValueError", .type "Exception", .type "BaseException", .type "object"] "ValueError.__new__" = true) (xk_NoNumber : PySem.W.keepIn K (.ref xx_NoNumber) = true) (xs_NoNumber : PySem.W.subIn K (.ref xx_NoNumber) (.type "BaseException") = some true) (xt_NoNumber : PySem.W.typeIn K (.ref xx_NoNumber) = some (.type "type"))
    {xx_Full : Addr} (xa_Full : PySem.W.nsIn K mainGlobals "Full" = some (some (.ref xx_Full))) (xe_Full : PySem.W.excIn K xx_Full [.type "ValueError", .type "Exception", .type "BaseException", .type "object"] "ValueError.__new__" = true) (xk_Full : PySem.W.keepIn K (.ref xx_Full) = true) (xs_Full : PySem.W.subIn K (.ref xx_Full) (.type "BaseException") = some true) (xt_Full : PySem.W.typeIn K (.ref xx_Full) = some (.type "type"))
    {xx_Nothing : Addr} (xa_Nothing : PySem.W.nsIn K mainGlobals "Nothing" = some (some (.ref xx_Nothing))) (xe_Nothing : PySem.W.excIn K xx_Nothing [.type "ValueError", .type "Exception", .type "BaseException", .type "object"] "ValueError.__new__" = true) (xk_Nothing : PySem.W.keepIn K (.ref xx_Nothing) = true) (xs_Nothing : PySem.W.subIn K (.ref xx_Nothing) (.type "BaseException") = some true) (xt_Nothing : PySem.W.typeIn K (.ref xx_Nothing) = some (.type "type"))
    {xx_NoText : Addr} (xa_NoText : PySem.W.nsIn K mainGlobals "NoText" = some (some (.ref xx_NoText))) (xe_NoText : PySem.W.excIn K xx_NoText [.type "ValueError", .type "Exception", .type "BaseException", .type "object"] "ValueError.__new__" = true) (xk_NoText : PySem.W.keepIn K (.ref xx_NoText) = true) (xs_NoText : PySem.W.subIn K (.ref xx_NoText) (.type "BaseException") = some true) (xt_NoText : PySem.W.typeIn K (.ref xx_NoText) = some (.type "type"))
    {xx_NoRow : Addr} (xa_NoRow : PySem.W.nsIn K mainGlobals "NoRow" = some (some (.ref xx_NoRow))) (xe_NoRow : PySem.W.excIn K xx_NoRow [.type "ValueError", .type "Exception", .type "BaseException", .type "object"] "ValueError.__new__" = true) (xk_NoRow : PySem.W.keepIn K (.ref xx_NoRow) = true) (xs_NoRow : PySem.W.subIn K (.ref xx_NoRow) (.type "BaseException") = some true) (xt_NoRow : PySem.W.typeIn K (.ref xx_NoRow) = some (.type "type"))
    {xx_TooMany : Addr} (xa_TooMany : PySem.W.nsIn K mainGlobals "TooMany" = some (some (.ref xx_TooMany)))
    (er_all : allB K = true) (er_each : ((List.range 14).all (errB K xx_PlantError [xx_NoPlant, xx_NoStation, xx_NoStock, xx_NoPattern, xx_NoDays, xx_NoBox, xx_NotOrdered, xx_NoWords, xx_NoNumber, xx_TooMany, xx_Full, xx_Nothing, xx_NoText, xx_NoRow])) = true)
    (er_nothing : PySem.W.exmOne K (.ref xx_Nothing) (.ref xx_Nothing) = some true)
    {x_LivePlant : Addr} (aC_LivePlant : PySem.W.nsIn K mainGlobals "LivePlant" = some (some (.ref x_LivePlant)))
    (pg_LivePlant : PySem.W.plainGet K x_LivePlant Str.empty = true) (hd_LivePlant : PySem.W.hasDictIn K x_LivePlant = true) (po_LivePlant : PySem.W.plainOver K x_LivePlant = true) (sa_LivePlant : PySem.W.findIn K (.ref x_LivePlant) "__setattr__" = some (some (.builtin "object.__setattr__"))) (mk_LivePlant : PySem.W.makesIn K x_LivePlant = true) (kc_LivePlant : PySem.W.keepIn K (.ref x_LivePlant) = true)
    (ic1_LivePlant : PySem.W.findIn K (.ref x_LivePlant) "__class__" = some (some (.builtin "object.__class__"))) (ic2_LivePlant : PySem.W.specialIn K (.builtin "object.__class__") "__get__" = some (some (.builtin "getset_descriptor.__get__"))) (ic3_LivePlant : PySem.W.takesIn K (.builtin "object.__class__") = some true) (ic4_LivePlant : PySem.W.mroIn K x_LivePlant (.type "object") = some true) (ic5_LivePlant : PySem.W.kitOne K (.ref x_LivePlant) (.ref x_LivePlant) = some true) (ic6_LivePlant : (["NoneType", "bool", "int", "str", "list", "tuple", "dict"].all fun n => PySem.W.kitOne K (.type n) (.ref x_LivePlant) == some false) = true)
    (ic9_LivePlant : PySem.W.mroIn K x_LivePlant (.type "str") = some false)
    (na_customers : PySem.W.findIn K (.ref x_LivePlant) "customers" = some none)
    (na_boxes : PySem.W.findIn K (.ref x_LivePlant) "boxes" = some none)
    (na_past : PySem.W.findIn K (.ref x_LivePlant) "past" = some none)
    {p_lv_init : Addr} {od_lv_init an_lv_init : Option Addr} {sl_lv_init : Array (Option Value)} {oc_lv_init  dc_lv_init pm_lv_init cd_lv_init ct_lv_init : Value} {D_lv_init : Addr}
    (a_lv_init : PySem.W.findIn K (.ref x_LivePlant) "__init__" = some (some (.ref p_lv_init))) (i_lv_init : PySem.W.isFn K (.ref p_lv_init) = true) (l_lv_init : K.lookup p_lv_init = some ⟨oc_lv_init, od_lv_init, .func (PySem.W.fnOf "__init__" "LivePlant.__init__" (defArgs sLvInit) (defBody sLvInit) (defScope sLvInit) .none (.ref D_lv_init) dc_lv_init pm_lv_init an_lv_init cd_lv_init ct_lv_init), sl_lv_init⟩) (c_lv_init : PySem.W.codeIn K cd_lv_init "LivePlant.__init__" = true) (kk_lv_init : PySem.W.keepIn K (.ref p_lv_init) = true)
    (kd_lv_init : PySem.W.nsIn K D_lv_init "stock" = some (some .none))
    {p_lv_eq : Addr} {od_lv_eq an_lv_eq : Option Addr} {sl_lv_eq : Array (Option Value)} {oc_lv_eq kV_lv_eq dc_lv_eq pm_lv_eq cd_lv_eq ct_lv_eq : Value} 
    (a_lv_eq : PySem.W.findIn K (.ref x_LivePlant) "__eq__" = some (some (.ref p_lv_eq))) (i_lv_eq : PySem.W.isFn K (.ref p_lv_eq) = true) (l_lv_eq : K.lookup p_lv_eq = some ⟨oc_lv_eq, od_lv_eq, .func (PySem.W.fnOf "__eq__" "LivePlant.__eq__" (defArgs sLvEq) (defBody sLvEq) (defScope sLvEq) .none kV_lv_eq dc_lv_eq pm_lv_eq an_lv_eq cd_lv_eq ct_lv_eq), sl_lv_eq⟩) (c_lv_eq : PySem.W.codeIn K cd_lv_eq "LivePlant.__eq__" = true) (kk_lv_eq : PySem.W.keepIn K (.ref p_lv_eq) = true)
    {p_lv_len : Addr} {od_lv_len an_lv_len : Option Addr} {sl_lv_len : Array (Option Value)} {oc_lv_len kV_lv_len dc_lv_len pm_lv_len cd_lv_len ct_lv_len : Value} 
    (a_lv_len : PySem.W.findIn K (.ref x_LivePlant) "__len__" = some (some (.ref p_lv_len))) (i_lv_len : PySem.W.isFn K (.ref p_lv_len) = true) (l_lv_len : K.lookup p_lv_len = some ⟨oc_lv_len, od_lv_len, .func (PySem.W.fnOf "__len__" "LivePlant.__len__" (defArgs sLvLen) (defBody sLvLen) (defScope sLvLen) .none kV_lv_len dc_lv_len pm_lv_len an_lv_len cd_lv_len ct_lv_len), sl_lv_len⟩) (c_lv_len : PySem.W.codeIn K cd_lv_len "LivePlant.__len__" = true) (kk_lv_len : PySem.W.keepIn K (.ref p_lv_len) = true)
    {p_lv_day : Addr} {od_lv_day an_lv_day : Option Addr} {sl_lv_day : Array (Option Value)} {oc_lv_day kV_lv_day dc_lv_day pm_lv_day cd_lv_day ct_lv_day : Value} 
    (a_lv_day : PySem.W.findIn K (.ref x_LivePlant) "day" = some (some (.ref p_lv_day))) (i_lv_day : PySem.W.isFn K (.ref p_lv_day) = true) (l_lv_day : K.lookup p_lv_day = some ⟨oc_lv_day, od_lv_day, .func (PySem.W.fnOf "day" "LivePlant.day" (defArgs sLvDay) (defBody sLvDay) (defScope sLvDay) .none kV_lv_day dc_lv_day pm_lv_day an_lv_day cd_lv_day ct_lv_day), sl_lv_day⟩) (c_lv_day : PySem.W.codeIn K cd_lv_day "LivePlant.day" = true) (kk_lv_day : PySem.W.keepIn K (.ref p_lv_day) = true)
    {p_lv_days : Addr} {od_lv_days an_lv_days : Option Addr} {sl_lv_days : Array (Option Value)} {oc_lv_days kV_lv_days dc_lv_days pm_lv_days cd_lv_days ct_lv_days : Value} 
    (a_lv_days : PySem.W.findIn K (.ref x_LivePlant) "days" = some (some (.ref p_lv_days))) (i_lv_days : PySem.W.isFn K (.ref p_lv_days) = true) (l_lv_days : K.lookup p_lv_days = some ⟨oc_lv_days, od_lv_days, .func (PySem.W.fnOf "days" "LivePlant.days" (defArgs sLvDays) (defBody sLvDays) (defScope sLvDays) .none kV_lv_days dc_lv_days pm_lv_days an_lv_days cd_lv_days ct_lv_days), sl_lv_days⟩) (c_lv_days : PySem.W.codeIn K cd_lv_days "LivePlant.days" = true) (kk_lv_days : PySem.W.keepIn K (.ref p_lv_days) = true)
    {p_lv_undo : Addr} {od_lv_undo an_lv_undo : Option Addr} {sl_lv_undo : Array (Option Value)} {oc_lv_undo kV_lv_undo dc_lv_undo pm_lv_undo cd_lv_undo ct_lv_undo : Value} 
    (a_lv_undo : PySem.W.findIn K (.ref x_LivePlant) "undo" = some (some (.ref p_lv_undo))) (i_lv_undo : PySem.W.isFn K (.ref p_lv_undo) = true) (l_lv_undo : K.lookup p_lv_undo = some ⟨oc_lv_undo, od_lv_undo, .func (PySem.W.fnOf "undo" "LivePlant.undo" (defArgs sLvUndo) (defBody sLvUndo) (defScope sLvUndo) .none kV_lv_undo dc_lv_undo pm_lv_undo an_lv_undo cd_lv_undo ct_lv_undo), sl_lv_undo⟩) (c_lv_undo : PySem.W.codeIn K cd_lv_undo "LivePlant.undo" = true) (kk_lv_undo : PySem.W.keepIn K (.ref p_lv_undo) = true)
    {p_lv_plant : Addr} {od_lv_plant an_lv_plant : Option Addr} {sl_lv_plant : Array (Option Value)} {oc_lv_plant kV_lv_plant dc_lv_plant pm_lv_plant cd_lv_plant ct_lv_plant : Value} 
    (a_lv_plant : PySem.W.findIn K (.ref x_LivePlant) "plant" = some (some (.ref p_lv_plant))) (i_lv_plant : PySem.W.isFn K (.ref p_lv_plant) = true) (l_lv_plant : K.lookup p_lv_plant = some ⟨oc_lv_plant, od_lv_plant, .func (PySem.W.fnOf "plant" "LivePlant.plant" (defArgs sLvPlant) (defBody sLvPlant) (defScope sLvPlant) .none kV_lv_plant dc_lv_plant pm_lv_plant an_lv_plant cd_lv_plant ct_lv_plant), sl_lv_plant⟩) (c_lv_plant : PySem.W.codeIn K cd_lv_plant "LivePlant.plant" = true) (kk_lv_plant : PySem.W.keepIn K (.ref p_lv_plant) = true)
    {p_lv_stock : Addr} {od_lv_stock an_lv_stock : Option Addr} {sl_lv_stock : Array (Option Value)} {oc_lv_stock kV_lv_stock dc_lv_stock pm_lv_stock cd_lv_stock ct_lv_stock : Value} 
    (a_lv_stock : PySem.W.findIn K (.ref x_LivePlant) "stock" = some (some (.ref p_lv_stock))) (i_lv_stock : PySem.W.isFn K (.ref p_lv_stock) = true) (l_lv_stock : K.lookup p_lv_stock = some ⟨oc_lv_stock, od_lv_stock, .func (PySem.W.fnOf "stock" "LivePlant.stock" (defArgs sLvStock) (defBody sLvStock) (defScope sLvStock) .none kV_lv_stock dc_lv_stock pm_lv_stock an_lv_stock cd_lv_stock ct_lv_stock), sl_lv_stock⟩) (c_lv_stock : PySem.W.codeIn K cd_lv_stock "LivePlant.stock" = true) (kk_lv_stock : PySem.W.keepIn K (.ref p_lv_stock) = true)
    {p_lv_pull : Addr} {od_lv_pull an_lv_pull : Option Addr} {sl_lv_pull : Array (Option Value)} {oc_lv_pull kV_lv_pull dc_lv_pull pm_lv_pull cd_lv_pull ct_lv_pull : Value} 
    (a_lv_pull : PySem.W.findIn K (.ref x_LivePlant) "pull" = some (some (.ref p_lv_pull))) (i_lv_pull : PySem.W.isFn K (.ref p_lv_pull) = true) (l_lv_pull : K.lookup p_lv_pull = some ⟨oc_lv_pull, od_lv_pull, .func (PySem.W.fnOf "pull" "LivePlant.pull" (defArgs sLvPull) (defBody sLvPull) (defScope sLvPull) .none kV_lv_pull dc_lv_pull pm_lv_pull an_lv_pull cd_lv_pull ct_lv_pull), sl_lv_pull⟩) (c_lv_pull : PySem.W.codeIn K cd_lv_pull "LivePlant.pull" = true) (kk_lv_pull : PySem.W.keepIn K (.ref p_lv_pull) = true)
    {p_lv_change : Addr} {od_lv_change an_lv_change : Option Addr} {sl_lv_change : Array (Option Value)} {oc_lv_change kV_lv_change dc_lv_change pm_lv_change cd_lv_change ct_lv_change : Value} 
    (a_lv_change : PySem.W.findIn K (.ref x_LivePlant) "change" = some (some (.ref p_lv_change))) (i_lv_change : PySem.W.isFn K (.ref p_lv_change) = true) (l_lv_change : K.lookup p_lv_change = some ⟨oc_lv_change, od_lv_change, .func (PySem.W.fnOf "change" "LivePlant.change" (defArgs sLvChange) (defBody sLvChange) (defScope sLvChange) .none kV_lv_change dc_lv_change pm_lv_change an_lv_change cd_lv_change ct_lv_change), sl_lv_change⟩) (c_lv_change : PySem.W.codeIn K cd_lv_change "LivePlant.change" = true) (kk_lv_change : PySem.W.keepIn K (.ref p_lv_change) = true)
    (z_ValueError : PySem.W.nsIn K mainGlobals "ValueError" = some none)
    (z_all : PySem.W.nsIn K mainGlobals "all" = some none)
    (z_bool : PySem.W.nsIn K mainGlobals "bool" = some none)
    (z_divmod : PySem.W.nsIn K mainGlobals "divmod" = some none)
    (z_enumerate : PySem.W.nsIn K mainGlobals "enumerate" = some none)
    (z_int : PySem.W.nsIn K mainGlobals "int" = some none)
    (z_isinstance : PySem.W.nsIn K mainGlobals "isinstance" = some none)
    (z_len : PySem.W.nsIn K mainGlobals "len" = some none)
    (z_list : PySem.W.nsIn K mainGlobals "list" = some none)
    (z_max : PySem.W.nsIn K mainGlobals "max" = some none)
    (z_min : PySem.W.nsIn K mainGlobals "min" = some none)
    (z_range : PySem.W.nsIn K mainGlobals "range" = some none)
    (z_set : PySem.W.nsIn K mainGlobals "set" = some none)
    (z_sorted : PySem.W.nsIn K mainGlobals "sorted" = some none)
    (z_str : PySem.W.nsIn K mainGlobals "str" = some none)
    (z_tuple : PySem.W.nsIn K mainGlobals "tuple" = some none)
    (z_zip : PySem.W.nsIn K mainGlobals "zip" = some none)
    (t40 : st.heap.get? PP40 = some (PySem.W.tabObj #[])) (h40 : PySem.W.codeHdIn K cc40 PP40 = true) (z40 : K.lookup PP40 = none)
    (t45 : st.heap.get? PP45 = some (PySem.W.tabObj #[])) (h45 : PySem.W.codeHdIn K cc45 PP45 = true) (z45 : K.lookup PP45 = none)
    (q40_45 : PP40 ≠ PP45) :
    ∃ cs : List (Addr × Addr), (∀ p ∈ cs, st.heap.get? p.2 = some (PySem.W.tabObj #[])) ∧ (∀ p ∈ cs, K.lookup p.2 = none) ∧ (∀ p ∈ cs, PySem.W.CodeHd st.heap p.1 p.2) ∧
      ∀ (base : Heap) (H : Hp), K.In base → base.Ns mainGlobals mg → (∃ mm, base.Ns sysModules mm) → (∀ p ∈ cs, TabB base mg p.1 p.2) → (∀ p ∈ cs, H p.2 = some (.tbl #[])) → SqL K H a (ns.map V.int) → Env0 l.prog w K mg base callerA [] st H →
      codeAny (model l.prog w) callerA (.call (.ref fa) ⟨[.ref a], []⟩) (CR CX0 [] l.prog w H st (fun v _ => v = .bl true) fun _ _ _ => False) st := by
  have e := hfa.symm.trans (PySem.W.mg_of X G a70)
  cases e
  have F20 := fun_mk (st := sIsInteger) l20 c20 k20
  have b20 := F20.binds (ps := ["value"]) fun _ _ _ _ _ _ us hl => match us, hl with | [_], _ => rfl
  have F21 := fun_mk (st := sIsWithin) l21 c21 k21
  have b21 := F21.binds (ps := ["value", "least", "most"]) fun _ _ _ _ _ _ us hl => match us, hl with | [_, _, _], _ => rfl
  have F22 := fun_mk (st := sIsDecimal) l22 c22 k22
  have b22 := F22.binds (ps := ["text", "most"]) fun _ _ _ _ _ _ us hl => match us, hl with | [_, _], _ => rfl
  have F23 := fun_mk (st := sFitsPlant) l23 c23 k23
  have b23 := F23.binds (ps := ["value"]) fun _ _ _ _ _ _ us hl => match us, hl with | [_], _ => rfl
  have F24 := fun_mk (st := sFitsStock) l24 c24 k24
  have b24 := F24.binds (ps := ["plant", "value"]) fun _ _ _ _ _ _ us hl => match us, hl with | [_, _], _ => rfl
  have F25 := fun_mk (st := sCheckPlant) l25 c25 k25
  have b25 := F25.binds (ps := ["plant"]) fun _ _ _ _ _ _ us hl => match us, hl with | [_], _ => rfl
  have F26 := fun_mk (st := sCheckStock) l26 c26 k26
  have b26 := F26.binds (ps := ["plant", "stock"]) fun _ _ _ _ _ _ us hl => match us, hl with | [_, _], _ => rfl
  have F27 := fun_mk (st := sCheckDays) l27 c27 k27
  have b27 := F27.binds (ps := ["days", "least", "most"]) fun _ _ _ _ _ _ us hl => match us, hl with | [_, _, _], _ => rfl
  have F30 := fun_mk (st := sReadPlant) l30 c30 k30
  have b30 := F30.binds (ps := ["text"]) fun _ _ _ _ _ _ us hl => match us, hl with | [_], _ => rfl
  have F31 := fun_mk (st := sCheckText) l31 c31 k31
  have b31 := F31.binds (ps := ["holds"]) fun _ _ _ _ _ _ us hl => match us, hl with | [_], _ => rfl
  have F32 := fun_mk (st := sNumberIn) l32 c32 k32
  have b32 := F32.binds (ps := ["text"]) fun _ _ _ _ _ _ us hl => match us, hl with | [_], _ => rfl
  have F34 := fun_mk (st := sSupplierLists) l34 c34 k34
  have b34 := F34.binds (ps := ["plant"]) fun _ _ _ _ _ _ us hl => match us, hl with | [_], _ => rfl
  have F37 := fun_mk (st := sRun) l37 c37 k37
  have b37 := F37.binds (ps := ["plant", "stock", "days"]) fun _ _ _ _ _ _ us hl => match us, hl with | [_, _, _], _ => rfl
  have F38 := fun_mk (st := sFirstDays) l38 c38 k38
  have b38 := F38.binds (ps := ["plant", "stock", "days"]) fun _ _ _ _ _ _ us hl => match us, hl with | [_, _, _], _ => rfl
  have F39 := funD_mk l39 c39 k39 (dfl0 u39)
  obtain ⟨ds39, D39, b39⟩ := F39.binds1 (ps := ["givers", "boxes", "first"]) 2 0 (by simp) rfl fun _ _ _ _ _ _ _ us its h1 h2 => match us, its, h1, h2 with | [_, _], [_], _, _ => ⟨_, rfl, rfl⟩
  obtain ⟨es39, E39, w39⟩ := F39.binds1 (ps := ["givers", "boxes", "first"]) 3 1 (by simp) rfl fun _ _ _ _ _ _ _ us its h1 h2 => match us, its, h1, h2 with | [_, _, _], [_], _, _ => ⟨_, rfl, rfl⟩
  cases E39
  have C40 := funC_mk (st := sOldestGiver) l40 c40 k40
  have F40 := C40.fun
  have b40 := F40.binds (ps := ["stations", "boxes"]) fun _ _ _ _ _ _ us hl => match us, hl with | [_, _], _ => rfl
  have F42 := fun_mk (st := sLastDisorder) l42 c42 k42
  have b42 := F42.binds (ps := ["plant", "boxes"]) fun _ _ _ _ _ _ us hl => match us, hl with | [_, _], _ => rfl
  have F43 := fun_mk (st := sDaysToOrder) l43 c43 k43
  have b43 := F43.binds (ps := ["plant", "stock"]) fun _ _ _ _ _ _ us hl => match us, hl with | [_, _], _ => rfl
  have C45 := funC_mk (st := sWordsByAge) l45 c45 k45
  have F45 := C45.fun
  have b45 := F45.binds (ps := ["plant", "stock"]) fun _ _ _ _ _ _ us hl => match us, hl with | [_, _], _ => rfl
  have F46 := fun_mk (st := sRanksByWords) l46 c46 k46
  have b46 := F46.binds (ps := ["words"]) fun _ _ _ _ _ _ us hl => match us, hl with | [_], _ => rfl
  have F47 := fun_mk (st := sTurnedWords) l47 c47 k47
  have b47 := F47.binds (ps := ["plant", "words", "days"]) fun _ _ _ _ _ _ us hl => match us, hl with | [_, _, _], _ => rfl
  have F48 := fun_mk (st := sTurned) l48 c48 k48
  have b48 := F48.binds (ps := ["letters", "many"]) fun _ _ _ _ _ _ us hl => match us, hl with | [_, _], _ => rfl
  have F49 := fun_mk (st := sEmptiedByWords) l49 c49 k49
  have b49 := F49.binds (ps := ["plant", "words", "days"]) fun _ _ _ _ _ _ us hl => match us, hl with | [_, _, _], _ => rfl
  have F50 := fun_mk (st := sTimesGiven) l50 c50 k50
  have b50 := F50.binds (ps := ["letters", "supplier", "many"]) fun _ _ _ _ _ _ us hl => match us, hl with | [_, _, _], _ => rfl
  have F52 := fun_mk (st := sFarStock) l52 c52 k52
  have b52 := F52.binds (ps := ["plant", "stock", "days"]) fun _ _ _ _ _ _ us hl => match us, hl with | [_, _, _], _ => rfl
  have F56 := fun_mk (st := sLawFount) l56 c56 k56
  have b56 := F56.binds (ps := ["script", "k"]) fun _ _ _ _ _ _ us hl => match us, hl with | [_, _], _ => rfl
  have F57 := fun_mk (st := sLawSip) l57 c57 k57
  have b57 := F57.binds (ps := ["fount", "many"]) fun _ _ _ _ _ _ us hl => match us, hl with | [_, _], _ => rfl
  have F58 := fun_mk (st := sLawMixed) l58 c58 k58
  have b58 := F58.binds (ps := ["fount", "items"]) fun _ _ _ _ _ _ us hl => match us, hl with | [_, _], _ => rfl
  have F59 := fun_mk (st := sLawGrown) l59 c59 k59
  have b59 := F59.binds (ps := ["fount", "most"]) fun _ _ _ _ _ _ us hl => match us, hl with | [_, _], _ => rfl
  have F60 := fun_mk (st := sLawFilled) l60 c60 k60
  have b60 := F60.binds (ps := ["fount", "plant"]) fun _ _ _ _ _ _ us hl => match us, hl with | [_, _], _ => rfl
  have F61 := fun_mk (st := sLawSame) l61 c61 k61
  have b61 := F61.binds (ps := ["found", "due"]) fun _ _ _ _ _ _ us hl => match us, hl with | [_, _], _ => rfl
  have F62 := fun_mk (st := sLawText) l62 c62 k62
  have b62 := F62.binds (ps := ["plant", "boxes"]) fun _ _ _ _ _ _ us hl => match us, hl with | [_, _], _ => rfl
  have F63 := fun_mk (st := sLawKind) l63 c63 k63
  have b63 := F63.binds (ps := ["caught"]) fun _ _ _ _ _ _ us hl => match us, hl with | [_], _ => rfl
  have F64 := fun_mk (st := sLawNumber) l64 c64 k64
  have b64 := F64.binds (ps := ["signs", "most"]) fun _ _ _ _ _ _ us hl => match us, hl with | [_, _], _ => rfl
  have F65 := fun_mk (st := sLawBox) l65 c65 k65
  have b65 := F65.binds (ps := ["signs"]) fun _ _ _ _ _ _ us hl => match us, hl with | [_], _ => rfl
  have F66 := fun_mk (st := sLawRead) l66 c66 k66
  have b66 := F66.binds (ps := ["text"]) fun _ _ _ _ _ _ us hl => match us, hl with | [_], _ => rfl
  have F67 := fun_mk (st := sLawBent) l67 c67 k67
  have b67 := F67.binds (ps := ["fount", "page"]) fun _ _ _ _ _ _ us hl => match us, hl with | [_, _], _ => rfl
  have F68 := fun_mk (st := sLawTold) l68 c68 k68
  have b68 := F68.binds (ps := ["value"]) fun _ _ _ _ _ _ us hl => match us, hl with | [_], _ => rfl
  have F69 := fun_mk (st := sLawFixed) l69 c69 k69
  have b69 := F69.binds (ps := []) fun _ _ _ _ _ _ us hl => match us, hl with | [], _ => rfl
  have F_lv_init : FunD K "__init__" "LivePlant.__init__" (defArgs sLvInit) (defBody sLvInit) (defScope sLvInit) [] [("stock", V.non)] p_lv_init _ := ⟨⟨oc_lv_init, od_lv_init, .none, .ref D_lv_init, dc_lv_init, pm_lv_init, an_lv_init, cd_lv_init, ct_lv_init, sl_lv_init, rfl, l_lv_init, c_lv_init, .inl ⟨rfl, rfl⟩, .inr ⟨D_lv_init, rfl, fun q hq => by rw [List.mem_singleton.mp hq]; exact ⟨_, kd_lv_init, rfl⟩⟩⟩, kk_lv_init⟩
  obtain ⟨ds_lv_init, D2_lv_init, b_lv_init⟩ := F_lv_init.binds0 (ps := ["self", "plant", "stock"]) 2 (by simp) rfl fun _ _ _ _ _ _ us ks h1 h2 => match us, ks, h1, h2 with | [_, _], [_], _, _ => ⟨_, _, _, _, _, _, rfl, rfl, rfl⟩
  obtain ⟨mv_lv_init, kb_lv_init⟩ := F_lv_init.kbinds0 (ps := ["self", "plant", "stock"]) 2 ["stock"] [] (fun vs mz zs => vs ++ zs) (by simp) (by simp) (fun r1 _ r3 => r1.append r3) fun _ _ _ _ _ _ us mv ws h1 h2 h3 => match us, mv, ws, h1, h2, h3 with | [_, _], [], [_], _, _, _ => rfl
  have F_lv_eq := fun_mk (st := sLvEq) l_lv_eq c_lv_eq kk_lv_eq
  have b_lv_eq := F_lv_eq.binds (ps := ["self", "other"]) fun _ _ _ _ _ _ us hl => match us, hl with | [_, _], _ => rfl
  have F_lv_len := fun_mk (st := sLvLen) l_lv_len c_lv_len kk_lv_len
  have b_lv_len := F_lv_len.binds (ps := ["self"]) fun _ _ _ _ _ _ us hl => match us, hl with | [_], _ => rfl
  have F_lv_day := fun_mk (st := sLvDay) l_lv_day c_lv_day kk_lv_day
  have b_lv_day := F_lv_day.binds (ps := ["self"]) fun _ _ _ _ _ _ us hl => match us, hl with | [_], _ => rfl
  have F_lv_days := fun_mk (st := sLvDays) l_lv_days c_lv_days kk_lv_days
  have b_lv_days := F_lv_days.binds (ps := ["self", "days"]) fun _ _ _ _ _ _ us hl => match us, hl with | [_, _], _ => rfl
  have F_lv_undo := fun_mk (st := sLvUndo) l_lv_undo c_lv_undo kk_lv_undo
  have b_lv_undo := F_lv_undo.binds (ps := ["self"]) fun _ _ _ _ _ _ us hl => match us, hl with | [_], _ => rfl
  have F_lv_plant := fun_mk (st := sLvPlant) l_lv_plant c_lv_plant kk_lv_plant
  have b_lv_plant := F_lv_plant.binds (ps := ["self"]) fun _ _ _ _ _ _ us hl => match us, hl with | [_], _ => rfl
  have F_lv_stock := fun_mk (st := sLvStock) l_lv_stock c_lv_stock kk_lv_stock
  have b_lv_stock := F_lv_stock.binds (ps := ["self"]) fun _ _ _ _ _ _ us hl => match us, hl with | [_], _ => rfl
  have F_lv_pull := fun_mk (st := sLvPull) l_lv_pull c_lv_pull kk_lv_pull
  have b_lv_pull := F_lv_pull.binds (ps := ["self", "operation", "first"]) fun _ _ _ _ _ _ us hl => match us, hl with | [_, _, _], _ => rfl
  have F_lv_change := fun_mk (st := sLvChange) l_lv_change c_lv_change kk_lv_change
  have b_lv_change := F_lv_change.binds (ps := ["self", "operation", "customers", "boxes"]) fun _ _ _ _ _ _ us hl => match us, hl with | [_, _, _, _], _ => rfl
  obtain ⟨T, eC40, eP40, eC45, eP45⟩ : ∃ T : Tx K mg, T.c_oldest_giver = cc40 ∧ T.P_oldest_giver = PP40 ∧ T.c_words_by_age = cc45 ∧ T.P_words_by_age = PP45 := ⟨{ f_is_integer := p20, d_is_integer := _, F_is_integer := F20, b_is_integer := b20, g_is_integer := PySem.W.mg_of X G a20, f_is_within := p21, d_is_within := _, F_is_within := F21, b_is_within := b21, g_is_within := PySem.W.mg_of X G a21, f_is_decimal := p22, d_is_decimal := _, F_is_decimal := F22, b_is_decimal := b22, g_is_decimal := PySem.W.mg_of X G a22, f_fits_plant := p23, d_fits_plant := _, F_fits_plant := F23, b_fits_plant := b23, g_fits_plant := PySem.W.mg_of X G a23, f_fits_stock := p24, d_fits_stock := _, F_fits_stock := F24, b_fits_stock := b24, g_fits_stock := PySem.W.mg_of X G a24, f_check_plant := p25, d_check_plant := _, F_check_plant := F25, b_check_plant := b25, g_check_plant := PySem.W.mg_of X G a25, f_check_stock := p26, d_check_stock := _, F_check_stock := F26, b_check_stock := b26, g_check_stock := PySem.W.mg_of X G a26, f_check_days := p27, d_check_days := _, F_check_days := F27, b_check_days := b27, g_check_days := PySem.W.mg_of X G a27, f_read_plant := p30, d_read_plant := _, F_read_plant := F30, b_read_plant := b30, g_read_plant := PySem.W.mg_of X G a30, f_check_text := p31, d_check_text := _, F_check_text := F31, b_check_text := b31, g_check_text := PySem.W.mg_of X G a31, f_number_in := p32, d_number_in := _, F_number_in := F32, b_number_in := b32, g_number_in := PySem.W.mg_of X G a32, f_supplier_lists := p34, d_supplier_lists := _, F_supplier_lists := F34, b_supplier_lists := b34, g_supplier_lists := PySem.W.mg_of X G a34, f_run := p37, d_run := _, F_run := F37, b_run := b37, g_run := PySem.W.mg_of X G a37, f_first_days := p38, d_first_days := _, F_first_days := F38, b_first_days := b38, g_first_days := PySem.W.mg_of X G a38, f_pass_day := p39, d_pass_day := _, F_pass_day := F39, v_pass_day := ds39, V_pass_day := D39, b_pass_day := b39, w_pass_day := w39, g_pass_day := PySem.W.mg_of X G a39, f_oldest_giver := p40, d_oldest_giver := _, F_oldest_giver := F40, b_oldest_giver := b40, g_oldest_giver := PySem.W.mg_of X G a40, c_oldest_giver := cc40, P_oldest_giver := PP40, C_oldest_giver := C40, f_last_disorder := p42, d_last_disorder := _, F_last_disorder := F42, b_last_disorder := b42, g_last_disorder := PySem.W.mg_of X G a42, f_days_to_order := p43, d_days_to_order := _, F_days_to_order := F43, b_days_to_order := b43, g_days_to_order := PySem.W.mg_of X G a43, f_words_by_age := p45, d_words_by_age := _, F_words_by_age := F45, b_words_by_age := b45, g_words_by_age := PySem.W.mg_of X G a45, c_words_by_age := cc45, P_words_by_age := PP45, C_words_by_age := C45, f_ranks_by_words := p46, d_ranks_by_words := _, F_ranks_by_words := F46, b_ranks_by_words := b46, g_ranks_by_words := PySem.W.mg_of X G a46, f_turned_words := p47, d_turned_words := _, F_turned_words := F47, b_turned_words := b47, g_turned_words := PySem.W.mg_of X G a47, f_turned := p48, d_turned := _, F_turned := F48, b_turned := b48, g_turned := PySem.W.mg_of X G a48, f_emptied_by_words := p49, d_emptied_by_words := _, F_emptied_by_words := F49, b_emptied_by_words := b49, g_emptied_by_words := PySem.W.mg_of X G a49, f_times_given := p50, d_times_given := _, F_times_given := F50, b_times_given := b50, g_times_given := PySem.W.mg_of X G a50, f_far_stock := p52, d_far_stock := _, F_far_stock := F52, b_far_stock := b52, g_far_stock := PySem.W.mg_of X G a52, f__law_fount := p56, d__law_fount := _, F__law_fount := F56, b__law_fount := b56, g__law_fount := PySem.W.mg_of X G a56, f__law_sip := p57, d__law_sip := _, F__law_sip := F57, b__law_sip := b57, g__law_sip := PySem.W.mg_of X G a57, f__law_mixed := p58, d__law_mixed := _, F__law_mixed := F58, b__law_mixed := b58, g__law_mixed := PySem.W.mg_of X G a58, f__law_grown := p59, d__law_grown := _, F__law_grown := F59, b__law_grown := b59, g__law_grown := PySem.W.mg_of X G a59, f__law_filled := p60, d__law_filled := _, F__law_filled := F60, b__law_filled := b60, g__law_filled := PySem.W.mg_of X G a60, f__law_same := p61, d__law_same := _, F__law_same := F61, b__law_same := b61, g__law_same := PySem.W.mg_of X G a61, f__law_text := p62, d__law_text := _, F__law_text := F62, b__law_text := b62, g__law_text := PySem.W.mg_of X G a62, f__law_kind := p63, d__law_kind := _, F__law_kind := F63, b__law_kind := b63, g__law_kind := PySem.W.mg_of X G a63, f__law_number := p64, d__law_number := _, F__law_number := F64, b__law_number := b64, g__law_number := PySem.W.mg_of X G a64, f__law_box := p65, d__law_box := _, F__law_box := F65, b__law_box := b65, g__law_box := PySem.W.mg_of X G a65, f__law_read := p66, d__law_read := _, F__law_read := F66, b__law_read := b66, g__law_read := PySem.W.mg_of X G a66, f__law_bent := p67, d__law_bent := _, F__law_bent := F67, b__law_bent := b67, g__law_bent := PySem.W.mg_of X G a67, f__law_told := p68, d__law_told := _, F__law_told := F68, b__law_told := b68, g__law_told := PySem.W.mg_of X G a68, f__law_fixed := p69, d__law_fixed := _, F__law_fixed := F69, b__law_fixed := b69, g__law_fixed := PySem.W.mg_of X G a69, t_MOST_STATIONS := t_MOST_STATIONS, g_MOST_STATIONS := PySem.W.mg_of X G aM_MOST_STATIONS, t_FARTHEST_DAY := t_FARTHEST_DAY, g_FARTHEST_DAY := PySem.W.mg_of X G aM_FARTHEST_DAY, t_MOST_DIGITS := t_MOST_DIGITS, g_MOST_DIGITS := PySem.W.mg_of X G aM_MOST_DIGITS, t_MOST_DAYS := t_MOST_DAYS, g_MOST_DAYS := PySem.W.mg_of X G aM_MOST_DAYS, x_LivePlant := x_LivePlant, g_LivePlant := PySem.W.mg_of X G aC_LivePlant, C_LivePlant := ⟨pg_LivePlant, hd_LivePlant, po_LivePlant, sa_LivePlant⟩, I_LivePlant := ⟨⟨pg_LivePlant, hd_LivePlant, po_LivePlant, sa_LivePlant⟩, ic1_LivePlant, ic2_LivePlant, ic3_LivePlant, ic4_LivePlant, ic5_LivePlant⟩, N_LivePlant := ic6_LivePlant, W_LivePlant := kit_str ic9_LivePlant, a_customers := na_customers, a_boxes := na_boxes, a_past := na_past, f_lv_init := p_lv_init, d_lv_init := _, F_lv_init := F_lv_init, v_lv_init := ds_lv_init, V_lv_init := D2_lv_init, b_lv_init := b_lv_init, k_lv_init := kb_lv_init, M_lv_init := ⟨a_lv_init, i_lv_init, kk_lv_init⟩, M_LivePlant := ⟨mk_LivePlant, a_lv_init, i_lv_init, kc_LivePlant⟩, f_lv_eq := p_lv_eq, d_lv_eq := _, F_lv_eq := F_lv_eq, b_lv_eq := b_lv_eq, M_lv_eq := ⟨a_lv_eq, i_lv_eq, kk_lv_eq⟩, f_lv_len := p_lv_len, d_lv_len := _, F_lv_len := F_lv_len, b_lv_len := b_lv_len, M_lv_len := ⟨a_lv_len, i_lv_len, kk_lv_len⟩, f_lv_day := p_lv_day, d_lv_day := _, F_lv_day := F_lv_day, b_lv_day := b_lv_day, M_lv_day := ⟨a_lv_day, i_lv_day, kk_lv_day⟩, f_lv_days := p_lv_days, d_lv_days := _, F_lv_days := F_lv_days, b_lv_days := b_lv_days, M_lv_days := ⟨a_lv_days, i_lv_days, kk_lv_days⟩, f_lv_undo := p_lv_undo, d_lv_undo := _, F_lv_undo := F_lv_undo, b_lv_undo := b_lv_undo, M_lv_undo := ⟨a_lv_undo, i_lv_undo, kk_lv_undo⟩, f_lv_plant := p_lv_plant, d_lv_plant := _, F_lv_plant := F_lv_plant, b_lv_plant := b_lv_plant, M_lv_plant := ⟨a_lv_plant, i_lv_plant, kk_lv_plant⟩, f_lv_stock := p_lv_stock, d_lv_stock := _, F_lv_stock := F_lv_stock, b_lv_stock := b_lv_stock, M_lv_stock := ⟨a_lv_stock, i_lv_stock, kk_lv_stock⟩, f_lv_pull := p_lv_pull, d_lv_pull := _, F_lv_pull := F_lv_pull, b_lv_pull := b_lv_pull, M_lv_pull := ⟨a_lv_pull, i_lv_pull, kk_lv_pull⟩, f_lv_change := p_lv_change, d_lv_change := _, F_lv_change := F_lv_change, b_lv_change := b_lv_change, M_lv_change := ⟨a_lv_change, i_lv_change, kk_lv_change⟩, n_ValueError := PySem.W.mg_none_of X G z_ValueError, n_all := PySem.W.mg_none_of X G z_all, n_bool := PySem.W.mg_none_of X G z_bool, n_divmod := PySem.W.mg_none_of X G z_divmod, n_enumerate := PySem.W.mg_none_of X G z_enumerate, n_int := PySem.W.mg_none_of X G z_int, n_isinstance := PySem.W.mg_none_of X G z_isinstance, n_len := PySem.W.mg_none_of X G z_len, n_list := PySem.W.mg_none_of X G z_list, n_max := PySem.W.mg_none_of X G z_max, n_min := PySem.W.mg_none_of X G z_min, n_range := PySem.W.mg_none_of X G z_range, n_set := PySem.W.mg_none_of X G z_set, n_sorted := PySem.W.mg_none_of X G z_sorted, n_str := PySem.W.mg_none_of X G z_str, n_tuple := PySem.W.mg_none_of X G z_tuple, n_zip := PySem.W.mg_none_of X G z_zip, E_nothing := er_nothing, E_all := ⟨er_all, er_each⟩, x_TooMany := xx_TooMany, g_TooMany := PySem.W.mg_of X G xa_TooMany, x_PlantError := xx_PlantError, X_PlantError := ⟨PySem.W.mg_of X G xa_PlantError, xe_PlantError, xk_PlantError, xs_PlantError, xt_PlantError⟩, x_NoPlant := xx_NoPlant, X_NoPlant := ⟨PySem.W.mg_of X G xa_NoPlant, xe_NoPlant, xk_NoPlant, xs_NoPlant, xt_NoPlant⟩, x_NoStation := xx_NoStation, X_NoStation := ⟨PySem.W.mg_of X G xa_NoStation, xe_NoStation, xk_NoStation, xs_NoStation, xt_NoStation⟩, x_NoStock := xx_NoStock, X_NoStock := ⟨PySem.W.mg_of X G xa_NoStock, xe_NoStock, xk_NoStock, xs_NoStock, xt_NoStock⟩, x_NoPattern := xx_NoPattern, X_NoPattern := ⟨PySem.W.mg_of X G xa_NoPattern, xe_NoPattern, xk_NoPattern, xs_NoPattern, xt_NoPattern⟩, x_NoDays := xx_NoDays, X_NoDays := ⟨PySem.W.mg_of X G xa_NoDays, xe_NoDays, xk_NoDays, xs_NoDays, xt_NoDays⟩, x_NoBox := xx_NoBox, X_NoBox := ⟨PySem.W.mg_of X G xa_NoBox, xe_NoBox, xk_NoBox, xs_NoBox, xt_NoBox⟩, x_NotOrdered := xx_NotOrdered, X_NotOrdered := ⟨PySem.W.mg_of X G xa_NotOrdered, xe_NotOrdered, xk_NotOrdered, xs_NotOrdered, xt_NotOrdered⟩, x_NoWords := xx_NoWords, X_NoWords := ⟨PySem.W.mg_of X G xa_NoWords, xe_NoWords, xk_NoWords, xs_NoWords, xt_NoWords⟩, x_NoNumber := xx_NoNumber, X_NoNumber := ⟨PySem.W.mg_of X G xa_NoNumber, xe_NoNumber, xk_NoNumber, xs_NoNumber, xt_NoNumber⟩, x_Full := xx_Full, X_Full := ⟨PySem.W.mg_of X G xa_Full, xe_Full, xk_Full, xs_Full, xt_Full⟩, x_Nothing := xx_Nothing, X_Nothing := ⟨PySem.W.mg_of X G xa_Nothing, xe_Nothing, xk_Nothing, xs_Nothing, xt_Nothing⟩, x_NoText := xx_NoText, X_NoText := ⟨PySem.W.mg_of X G xa_NoText, xe_NoText, xk_NoText, xs_NoText, xt_NoText⟩, x_NoRow := xx_NoRow, X_NoRow := ⟨PySem.W.mg_of X G xa_NoRow, xe_NoRow, xk_NoRow, xs_NoRow, xt_NoRow⟩, q_oldest_giver_words_by_age := q40_45 }, rfl, rfl, rfl, rfl⟩
  refine ⟨[(cc40, PP40), (cc45, PP45)], (List.forall_mem_cons.mpr ⟨t40, (List.forall_mem_cons.mpr ⟨t45, fun _ h => nomatch h⟩)⟩), (List.forall_mem_cons.mpr ⟨z40, (List.forall_mem_cons.mpr ⟨z45, fun _ h => nomatch h⟩)⟩), (List.forall_mem_cons.mpr ⟨PySem.W.codeHd_of_K X h40, (List.forall_mem_cons.mpr ⟨PySem.W.codeHd_of_K X h45, fun _ h => nomatch h⟩)⟩), fun base H kb gb sb tb th hS en => ?_⟩
  have B40 : TabB base mg T.c_oldest_giver T.P_oldest_giver := by rw [eC40, eP40]; exact tb (cc40, PP40) (by simp)
  have H40 : H T.P_oldest_giver = some (.tbl #[]) := by rw [eP40]; exact th (cc40, PP40) (by simp)
  have B45 : TabB base mg T.c_words_by_age T.P_words_by_age := by rw [eC45, eP45]; exact tb (cc45, PP45) (by simp)
  have H45 : H T.P_words_by_age = some (.tbl #[]) := by rw [eP45]; exact th (cc45, PP45) (by simp)
  have tabs : Tabs T.tabW H := by
    intro p hp
    simp only [Tx.tabW, List.mem_cons, List.not_mem_nil, or_false] at hp
    rcases hp with rfl | rfl
    · exact .nil H40
    · exact .nil H45
  have room : Room 15 callerA := ⟨rfl, by decide, by decide⟩
  obtain ⟨t, ht, hq⟩ := law_body (P := l.prog) (w := w) (base := base) (f := fa) (cdv := cd70) (st := st) T B40 B45 hl hS sb tabs (room.deeper _)
  exact at_body (us := [.ref a]) (vs := [.ref a]) l70 c70 scLaw room en (.of_eq rfl) (.cons rfl .nil) rfl ⟨t, ht.nox, hq⟩
end PT
open PySem PySem.W PyProof.Rows
set_option maxHeartbeats 0 in
theorem PySem.Challenge.cw_pulltree_k53_texts_of_no_plant_holds : PySem.Challenge.rw_pulltree_k53_texts_of_no_plant.Holds := by
  w_on; o_law; k_head; (case hw => w_witness2)
  k_fill
  refine PT.walk_GTS (l := PySem.Challenge.rw_pulltree_k53_texts_of_no_plant) (n := 63) (by decide +kernel) rfl (by decide) rfl (fun w h Y => ⟨PySem.W.km_in_of Y, PySem.W.km_tabs_of Y⟩) ?F
  case F =>
    intro w mg fa a st ns kin gl hmg hl ht
    refine' PT.all_mk kin gl hmg hl ?a20 ?l20 ?c20 ?k20 ?a21 ?l21 ?c21 ?k21 ?a22 ?l22 ?c22 ?k22 ?a23 ?l23 ?c23 ?k23 ?a24 ?l24 ?c24 ?k24 ?a25 ?l25 ?c25 ?k25 ?a26 ?l26 ?c26 ?k26 ?a27 ?l27 ?c27 ?k27 ?a30 ?l30 ?c30 ?k30 ?a31 ?l31 ?c31 ?k31 ?a32 ?l32 ?c32 ?k32 ?a34 ?l34 ?c34 ?k34 ?a37 ?l37 ?c37 ?k37 ?a38 ?l38 ?c38 ?k38 ?a39 ?l39 ?c39 ?k39 ?u39 ?a40 ?l40 ?c40 ?k40 ?a42 ?l42 ?c42 ?k42 ?a43 ?l43 ?c43 ?k43 ?a45 ?l45 ?c45 ?k45 ?a46 ?l46 ?c46 ?k46 ?a47 ?l47 ?c47 ?k47 ?a48 ?l48 ?c48 ?k48 ?a49 ?l49 ?c49 ?k49 ?a50 ?l50 ?c50 ?k50 ?a52 ?l52 ?c52 ?k52 ?a56 ?l56 ?c56 ?k56 ?a57 ?l57 ?c57 ?k57 ?a58 ?l58 ?c58 ?k58 ?a59 ?l59 ?c59 ?k59 ?a60 ?l60 ?c60 ?k60 ?a61 ?l61 ?c61 ?k61 ?a62 ?l62 ?c62 ?k62 ?a63 ?l63 ?c63 ?k63 ?a64 ?l64 ?c64 ?k64 ?a65 ?l65 ?c65 ?k65 ?a66 ?l66 ?c66 ?k66 ?a67 ?l67 ?c67 ?k67 ?a68 ?l68 ?c68 ?k68 ?a69 ?l69 ?c69 ?k69 ?a70 ?l70 ?c70 ?k70 ?aM_MOST_STATIONS ?aM_FARTHEST_DAY ?aM_MOST_DIGITS ?aM_MOST_DAYS ?xa_PlantError ?xe_PlantError ?xk_PlantError ?xs_PlantError ?xt_PlantError ?xa_NoPlant ?xe_NoPlant ?xk_NoPlant ?xs_NoPlant ?xt_NoPlant ?xa_NoStation ?xe_NoStation ?xk_NoStation ?xs_NoStation ?xt_NoStation ?xa_NoStock ?xe_NoStock ?xk_NoStock ?xs_NoStock ?xt_NoStock ?xa_NoPattern ?xe_NoPattern ?xk_NoPattern ?xs_NoPattern ?xt_NoPattern ?xa_NoDays ?xe_NoDays ?xk_NoDays ?xs_NoDays ?xt_NoDays ?xa_NoBox ?xe_NoBox ?xk_NoBox ?xs_NoBox ?xt_NoBox ?xa_NotOrdered ?xe_NotOrdered ?xk_NotOrdered ?xs_NotOrdered ?xt_NotOrdered ?xa_NoWords ?xe_NoWords ?xk_NoWords ?xs_NoWords ?xt_NoWords ?xa_NoNumber ?xe_NoNumber ?xk_NoNumber ?xs_NoNumber ?xt_NoNumber ?xa_Full ?xe_Full ?xk_Full ?xs_Full ?xt_Full ?xa_Nothing ?xe_Nothing ?xk_Nothing ?xs_Nothing ?xt_Nothing ?xa_NoText ?xe_NoText ?xk_NoText ?xs_NoText ?xt_NoText ?xa_NoRow ?xe_NoRow ?xk_NoRow ?xs_NoRow ?xt_NoRow ?xa_TooMany ?er_all ?er_each ?er_nothing ?aC_LivePlant ?pg_LivePlant ?hd_LivePlant ?po_LivePlant ?sa_LivePlant ?mk_LivePlant ?kc_LivePlant ?ic1_LivePlant ?ic2_LivePlant ?ic3_LivePlant ?ic4_LivePlant ?ic5_LivePlant ?ic6_LivePlant ?ic9_LivePlant ?na_customers ?na_boxes ?na_past ?a_lv_init ?i_lv_init ?l_lv_init ?c_lv_init ?kk_lv_init ?kd_lv_init ?a_lv_eq ?i_lv_eq ?l_lv_eq ?c_lv_eq ?kk_lv_eq ?a_lv_len ?i_lv_len ?l_lv_len ?c_lv_len ?kk_lv_len ?a_lv_day ?i_lv_day ?l_lv_day ?c_lv_day ?kk_lv_day ?a_lv_days ?i_lv_days ?l_lv_days ?c_lv_days ?kk_lv_days ?a_lv_undo ?i_lv_undo ?l_lv_undo ?c_lv_undo ?kk_lv_undo ?a_lv_plant ?i_lv_plant ?l_lv_plant ?c_lv_plant ?kk_lv_plant ?a_lv_stock ?i_lv_stock ?l_lv_stock ?c_lv_stock ?kk_lv_stock ?a_lv_pull ?i_lv_pull ?l_lv_pull ?c_lv_pull ?kk_lv_pull ?a_lv_change ?i_lv_change ?l_lv_change ?c_lv_change ?kk_lv_change ?z_ValueError ?z_all ?z_bool ?z_divmod ?z_enumerate ?z_int ?z_isinstance ?z_len ?z_list ?z_max ?z_min ?z_range ?z_set ?z_sorted ?z_str ?z_tuple ?z_zip ?t40 ?h40 ?z40 ?t45 ?h45 ?z45 ?q40_45
    (case a20 => k_is); (case l20 => k_is); (case c20 => k_is); (case k20 => k_is); (case a21 => k_is); (case l21 => k_is); (case c21 => k_is); (case k21 => k_is); (case a22 => k_is); (case l22 => k_is); (case c22 => k_is); (case k22 => k_is); (case a23 => k_is); (case l23 => k_is); (case c23 => k_is); (case k23 => k_is); (case a24 => k_is); (case l24 => k_is); (case c24 => k_is); (case k24 => k_is); (case a25 => k_is); (case l25 => k_is); (case c25 => k_is); (case k25 => k_is); (case a26 => k_is); (case l26 => k_is); (case c26 => k_is); (case k26 => k_is); (case a27 => k_is); (case l27 => k_is); (case c27 => k_is); (case k27 => k_is); (case a30 => k_is); (case l30 => k_is); (case c30 => k_is); (case k30 => k_is); (case a31 => k_is); (case l31 => k_is); (case c31 => k_is); (case k31 => k_is); (case a32 => k_is); (case l32 => k_is); (case c32 => k_is); (case k32 => k_is); (case a34 => k_is); (case l34 => k_is); (case c34 => k_is); (case k34 => k_is); (case a37 => k_is); (case l37 => k_is); (case c37 => k_is); (case k37 => k_is); (case a38 => k_is); (case l38 => k_is); (case c38 => k_is); (case k38 => k_is); (case a39 => k_is); (case l39 => k_is); (case c39 => k_is); (case k39 => k_is); (case u39 => k_is); (case a40 => k_is); (case l40 => k_is); (case c40 => k_is); (case k40 => k_is); (case a42 => k_is); (case l42 => k_is); (case c42 => k_is); (case k42 => k_is); (case a43 => k_is); (case l43 => k_is); (case c43 => k_is); (case k43 => k_is); (case a45 => k_is); (case l45 => k_is); (case c45 => k_is); (case k45 => k_is); (case a46 => k_is); (case l46 => k_is); (case c46 => k_is); (case k46 => k_is); (case a47 => k_is); (case l47 => k_is); (case c47 => k_is); (case k47 => k_is); (case a48 => k_is); (case l48 => k_is); (case c48 => k_is); (case k48 => k_is); (case a49 => k_is); (case l49 => k_is); (case c49 => k_is); (case k49 => k_is); (case a50 => k_is); (case l50 => k_is); (case c50 => k_is); (case k50 => k_is); (case a52 => k_is); (case l52 => k_is); (case c52 => k_is); (case k52 => k_is); (case a56 => k_is); (case l56 => k_is); (case c56 => k_is); (case k56 => k_is); (case a57 => k_is); (case l57 => k_is); (case c57 => k_is); (case k57 => k_is); (case a58 => k_is); (case l58 => k_is); (case c58 => k_is); (case k58 => k_is); (case a59 => k_is); (case l59 => k_is); (case c59 => k_is); (case k59 => k_is); (case a60 => k_is); (case l60 => k_is); (case c60 => k_is); (case k60 => k_is); (case a61 => k_is); (case l61 => k_is); (case c61 => k_is); (case k61 => k_is); (case a62 => k_is); (case l62 => k_is); (case c62 => k_is); (case k62 => k_is); (case a63 => k_is); (case l63 => k_is); (case c63 => k_is); (case k63 => k_is); (case a64 => k_is); (case l64 => k_is); (case c64 => k_is); (case k64 => k_is); (case a65 => k_is); (case l65 => k_is); (case c65 => k_is); (case k65 => k_is); (case a66 => k_is); (case l66 => k_is); (case c66 => k_is); (case k66 => k_is); (case a67 => k_is); (case l67 => k_is); (case c67 => k_is); (case k67 => k_is); (case a68 => k_is); (case l68 => k_is); (case c68 => k_is); (case k68 => k_is); (case a69 => k_is); (case l69 => k_is); (case c69 => k_is); (case k69 => k_is); (case a70 => k_is); (case l70 => k_is); (case c70 => k_is); (case k70 => k_is); (case aM_MOST_STATIONS => k_is); (case aM_FARTHEST_DAY => k_is); (case aM_MOST_DIGITS => k_is); (case aM_MOST_DAYS => k_is); (case xa_PlantError => k_is); (case xe_PlantError => kernel_rfl); (case xk_PlantError => k_is); (case xs_PlantError => k_is); (case xt_PlantError => k_is); (case xa_NoPlant => k_is); (case xe_NoPlant => kernel_rfl); (case xk_NoPlant => k_is); (case xs_NoPlant => k_is); (case xt_NoPlant => k_is); (case xa_NoStation => k_is); (case xe_NoStation => kernel_rfl); (case xk_NoStation => k_is); (case xs_NoStation => k_is); (case xt_NoStation => k_is); (case xa_NoStock => k_is); (case xe_NoStock => kernel_rfl); (case xk_NoStock => k_is); (case xs_NoStock => k_is); (case xt_NoStock => k_is); (case xa_NoPattern => k_is); (case xe_NoPattern => kernel_rfl); (case xk_NoPattern => k_is); (case xs_NoPattern => k_is); (case xt_NoPattern => k_is); (case xa_NoDays => k_is); (case xe_NoDays => kernel_rfl); (case xk_NoDays => k_is); (case xs_NoDays => k_is); (case xt_NoDays => k_is); (case xa_NoBox => k_is); (case xe_NoBox => kernel_rfl); (case xk_NoBox => k_is); (case xs_NoBox => k_is); (case xt_NoBox => k_is); (case xa_NotOrdered => k_is); (case xe_NotOrdered => kernel_rfl); (case xk_NotOrdered => k_is); (case xs_NotOrdered => k_is); (case xt_NotOrdered => k_is); (case xa_NoWords => k_is); (case xe_NoWords => kernel_rfl); (case xk_NoWords => k_is); (case xs_NoWords => k_is); (case xt_NoWords => k_is); (case xa_NoNumber => k_is); (case xe_NoNumber => kernel_rfl); (case xk_NoNumber => k_is); (case xs_NoNumber => k_is); (case xt_NoNumber => k_is); (case xa_Full => k_is); (case xe_Full => kernel_rfl); (case xk_Full => k_is); (case xs_Full => k_is); (case xt_Full => k_is); (case xa_Nothing => k_is); (case xe_Nothing => kernel_rfl); (case xk_Nothing => k_is); (case xs_Nothing => k_is); (case xt_Nothing => k_is); (case xa_NoText => k_is); (case xe_NoText => kernel_rfl); (case xk_NoText => k_is); (case xs_NoText => k_is); (case xt_NoText => k_is); (case xa_NoRow => k_is); (case xe_NoRow => kernel_rfl); (case xk_NoRow => k_is); (case xs_NoRow => k_is); (case xt_NoRow => k_is); (case xa_TooMany => k_is); (case er_all => kernel_rfl); (case er_each => kernel_rfl); (case er_nothing => kernel_rfl); (case aC_LivePlant => k_is); (case pg_LivePlant => k_is); (case hd_LivePlant => k_is); (case po_LivePlant => k_is); (case sa_LivePlant => k_is); (case mk_LivePlant => k_is); (case kc_LivePlant => k_is); (case ic1_LivePlant => k_is); (case ic2_LivePlant => k_is); (case ic3_LivePlant => k_is); (case ic4_LivePlant => k_is); (case ic5_LivePlant => kernel_rfl); (case ic6_LivePlant => kernel_rfl); (case ic9_LivePlant => k_is); (case na_customers => k_is); (case na_boxes => k_is); (case na_past => k_is); (case a_lv_init => k_is); (case i_lv_init => k_is); (case l_lv_init => k_is); (case c_lv_init => k_is); (case kk_lv_init => k_is); (case kd_lv_init => k_is); (case a_lv_eq => k_is); (case i_lv_eq => k_is); (case l_lv_eq => k_is); (case c_lv_eq => k_is); (case kk_lv_eq => k_is); (case a_lv_len => k_is); (case i_lv_len => k_is); (case l_lv_len => k_is); (case c_lv_len => k_is); (case kk_lv_len => k_is); (case a_lv_day => k_is); (case i_lv_day => k_is); (case l_lv_day => k_is); (case c_lv_day => k_is); (case kk_lv_day => k_is); (case a_lv_days => k_is); (case i_lv_days => k_is); (case l_lv_days => k_is); (case c_lv_days => k_is); (case kk_lv_days => k_is); (case a_lv_undo => k_is); (case i_lv_undo => k_is); (case l_lv_undo => k_is); (case c_lv_undo => k_is); (case kk_lv_undo => k_is); (case a_lv_plant => k_is); (case i_lv_plant => k_is); (case l_lv_plant => k_is); (case c_lv_plant => k_is); (case kk_lv_plant => k_is); (case a_lv_stock => k_is); (case i_lv_stock => k_is); (case l_lv_stock => k_is); (case c_lv_stock => k_is); (case kk_lv_stock => k_is); (case a_lv_pull => k_is); (case i_lv_pull => k_is); (case l_lv_pull => k_is); (case c_lv_pull => k_is); (case kk_lv_pull => k_is); (case a_lv_change => k_is); (case i_lv_change => k_is); (case l_lv_change => k_is); (case c_lv_change => k_is); (case kk_lv_change => k_is); (case z_ValueError => k_is); (case z_all => k_is); (case z_bool => k_is); (case z_divmod => k_is); (case z_enumerate => k_is); (case z_int => k_is); (case z_isinstance => k_is); (case z_len => k_is); (case z_list => k_is); (case z_max => k_is); (case z_min => k_is); (case z_range => k_is); (case z_set => k_is); (case z_sorted => k_is); (case z_str => k_is); (case z_tuple => k_is); (case z_zip => k_is); (case t40 => exact ht _ (List.mem_cons_of_mem _ List.mem_cons_self)); (case h40 => kernel_rfl); (case z40 => kernel_rfl); (case t45 => exact ht _ List.mem_cons_self); (case h45 => kernel_rfl); (case z45 => kernel_rfl); (case q40_45 => decide)


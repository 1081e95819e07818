import PyProof.Rows.All
import Wide.All
import OpenK.AllK
import Wide.FinOn
import HandS.OwnEq
import HandS.More
import HandS.ForMost
import HandS.Walk
import KE.GoesEnum
import HandS.ForExc
import HandS.ExcValue
import HandS.ExcIs
import HandS.ExcInit
import HandS.IsInst
import KE.KExcInit
import HandS.Strs
import HandS.Set
import HandS.SortInts
import KE.KSetDisp
import HandS.Defaults
import KE.KxIndex
import HandS.SetKeys
import PyProof.DictMoreH
import KE.GoesMore
import HandS.List
import HandS.SortOrd
import HandS.SortRule
import KE.KSortTup
import PyProof.EqKinds
import HandS.Conv
import KE.KDictSum
import HandS.Deep
import HandS.Iter
import KE.KDictWalk
import HandS.DictComp
import HandS.FStr
import HandS.SetBool
import HandS.SetFor
import HandS.Flow
import HandS.ListItems
import HandS.Sort
import KE.KDictList
import HandS.Zip
import HandS.TryMany
import KE.SortData
import HandS.Text
import HandS.Style
import KE.KRevSl
import HandS.ExcOwn
import HandS.MakeKw
import HandS.StrMore
import HandS.Codes
import HandS.ExcField
import HandS.NestedK
import HandS.TupLen
import HandS.RevRange
import HandS.Star
import HandS.Gcd
import HandS.Steps
import PySem.Challenge.RW_onewayread_k07_readers_stuck_and_twins
set_option Elab.async false
set_option linter.all false
set_option maxRecDepth 100000
set_option maxHeartbeats 4000000
/-! x == y and x != y of two objects of one class that says nothing of ==: whether they are one -/
namespace HNI
open PySem PySem.Spec PyProof.Rows PySem.SeqAt
section
variable {M : Model} {prog : Program} {w : World} {A : Around} {E : Value → Shared → Prop} {s : Shared} {K : PySem.W.Frag} {x y C : Addr} {ox oy : Obj} {od od' : Option Obj}
theorem same_refs {Q : Bool → Shared → Prop} (I : PySem.W.InstAt s.heap x ox C od) (J : PySem.W.InstAt s.heap y oy C od') (h : Q (decide (x = y)) s) : wpAny M A (isSame (.ref x) (.ref y)) Q E s := by
  unfold isSame
  by_cases e : x = y
  · subst e
    rw [decide_eq_true rfl] at h
    simp only [beq_self_eq_true, if_true]
    exact wpAny_pure h
  · rw [decide_eq_false e] at h
    have e2 : (x == y) = false := by simpa using e
    simp only [e2]
    refine wpAny_bind (wpAny_load I.at_ (wpAny_bind (wpAny_load J.at_ ?_)))
    rw [I.cls]
    exact wpAny_pure h
theorem ifBound_objEq {args : List Value} {Q : Option Value → Shared → Prop} (X : K.In s.heap) (I : PySem.W.InstAt s.heap x ox C od) (hs : PySem.W.findIn K (.ref C) "__eq__" = some (some (.builtin "object.__eq__")))
    (h : wpAny M A (call (.builtin "object.__eq__") (.ref x :: args)) (fun v => Q (some v)) E s) : wpAny M A (callSpecialIfBound? (.ref x) "__eq__" args) Q E s := by
  simp only [callSpecialIfBound?, bindSpecialIfBound?]
  refine wpAny_holding (wpAny_bind (wpAny_bind (wpAny_bind (I.type.here ((PySem.W.looks_findIn X hs).here ?_)))))
  refine wpAny_bind (wpAny_askSetting (wpAny_ite ?_))
  have fin : wpAny M A (call (.builtin "object.__eq__") ([.ref x] ++ args) >>= fun v => pure (some v)) Q E s := wpAny_bind (wpAny_mono h (fun v s' h' => wpAny_pure h') fun _ _ h' => h')
  split
  · exact wpAny_bind (wpAny_of_eq (F.cmp_object.eq.bind _) (wpAny_pure (by exact fin)))
  · exact wpAny_tryCatch (wpAny_bind (wpAny_of_eq (F.cmp_object.eq.bind _) (wpAny_pure (by exact fin))))
theorem ifBound_objNe {args : List Value} {Q : Option Value → Shared → Prop} (X : K.In s.heap) (I : PySem.W.InstAt s.heap x ox C od) (hs : PySem.W.findIn K (.ref C) "__ne__" = some (some (.builtin "object.__ne__")))
    (h : wpAny M A (call (.builtin "object.__ne__") (.ref x :: args)) (fun v => Q (some v)) E s) : wpAny M A (callSpecialIfBound? (.ref x) "__ne__" args) Q E s := by
  simp only [callSpecialIfBound?, bindSpecialIfBound?]
  refine wpAny_holding (wpAny_bind (wpAny_bind (wpAny_bind (I.type.here ((PySem.W.looks_findIn X hs).here ?_)))))
  refine wpAny_bind (wpAny_askSetting (wpAny_ite ?_))
  have fin : wpAny M A (call (.builtin "object.__ne__") ([.ref x] ++ args) >>= fun v => pure (some v)) Q E s := wpAny_bind (wpAny_mono h (fun v s' h' => wpAny_pure h') fun _ _ h' => h')
  split
  · exact wpAny_bind (wpAny_of_eq (F.cmp_object.ne.bind _) (wpAny_pure (by exact fin)))
  · exact wpAny_tryCatch (wpAny_bind (wpAny_of_eq (F.cmp_object.ne.bind _) (wpAny_pure (by exact fin))))
/-- what object.__eq__ answers -/
def ansEq (x y : Addr) : Value := if x = y then .bool true else .notImplemented
def ansNe (x y : Addr) : Value := if x = y then .bool false else .notImplemented
theorem entry_eq {R : Fin → Shared → Prop} (I : PySem.W.InstAt s.heap x ox C od) (J : PySem.W.InstAt s.heap y oy C od')
    (h : R (.done (.ret (ansEq x y))) s) : wpAny M A (Builtin.«object.__eq__» ⟨[.ref x, .ref y], []⟩) R E s := by
  unfold Builtin.«object.__eq__»
  repeat (first | with_reducible refine wpAny_bind (same_refs I J ?_) | wp_step)
  unfold ansEq at h
  by_cases e : x = y
  · rw [if_pos e] at h
    rw [decide_eq_true e]
    exact wpAny_pure h
  · rw [if_neg e] at h
    rw [decide_eq_false e]
    exact wpAny_pure h
theorem call_objEq {Q : Value → Shared → Prop} (X : K.In s.heap) (I : PySem.W.InstAt s.heap x ox C od) (J : PySem.W.InstAt s.heap y oy C od') (hm : PySem.W.mroIn K C (.type "object") = some true)
    (h : Q (ansEq x y) s) : wpAny (model prog w) A (call (.builtin "object.__eq__") [.ref x, .ref y]) Q E s :=
  wpAny_call (codeAny_call_builtin F.cmp_object.eq.plain F.cmpEntry_eq (PySem.W.check_slot F.cmpKind_eq F.cmpSplit_eq (I.type.andThen (PySem.W.looks_mroIn X hm)) (F.cmpArgs_eq _ _) (entry_eq I J h)))
theorem entry_ne {R : Fin → Shared → Prop} (hu : A.units < cLine) (X : K.In s.heap) (I : PySem.W.InstAt s.heap x ox C od) (J : PySem.W.InstAt s.heap y oy C od') (hm : PySem.W.mroIn K C (.type "object") = some true) (hs : PySem.W.findIn K (.ref C) "__eq__" = some (some (.builtin "object.__eq__")))
    (h : R (.done (.ret (ansNe x y))) s) : wpAny (model prog w) A (Builtin.«object.__ne__» ⟨[.ref x, .ref y], []⟩) R E s := by
  unfold Builtin.«object.__ne__»
  have q : wpAny (model prog w) A (callSpecialIfBound? (.ref x) "__eq__" [.ref y]) (fun r s' => r = some (ansEq x y) ∧ s' = s) E s :=
    ifBound_objEq X I hs (call_objEq X I J hm ⟨rfl, rfl⟩)
  repeat (first | with_reducible refine wpAny_cRoomFor hu ?_ | with_reducible refine wpAny_bind (wpAny_mono q (fun r s' ⟨e, z⟩ => ?_) fun _ _ z => z) | wp_step)
  subst e z
  unfold ansNe at h
  unfold ansEq
  by_cases e : x = y
  · rw [if_pos e] at h
    rw [if_pos e]
    refine wpAny_bind (wpAny_truthy_bool ?_)
    exact wpAny_pure h
  · rw [if_neg e] at h
    rw [if_neg e]
    exact wpAny_pure h
theorem call_objNe {Q : Value → Shared → Prop} (hu : A.in1.units < cLine) (X : K.In s.heap) (I : PySem.W.InstAt s.heap x ox C od) (J : PySem.W.InstAt s.heap y oy C od') (hm : PySem.W.mroIn K C (.type "object") = some true) (hs : PySem.W.findIn K (.ref C) "__eq__" = some (some (.builtin "object.__eq__")))
    (h : Q (ansNe x y) s) : wpAny (model prog w) A (call (.builtin "object.__ne__") [.ref x, .ref y]) Q E s :=
  wpAny_call (codeAny_call_builtin F.cmp_object.ne.plain F.cmpEntry_ne (PySem.W.check_slot F.cmpKind_ne F.cmpSplit_ne (I.type.andThen (PySem.W.looks_mroIn X hm)) (F.cmpArgs_ne _ _) (entry_ne hu X I J hm hs h)))
theorem try_eq {Q : Option Value → Shared → Prop} (X : K.In s.heap) (I : PySem.W.InstAt s.heap x ox C od) (J : PySem.W.InstAt s.heap y oy C od') (hm : PySem.W.mroIn K C (.type "object") = some true) (hs : PySem.W.findIn K (.ref C) "__eq__" = some (some (.builtin "object.__eq__")))
    (h : Q (if x = y then some (.bool true) else none) s) : wpAny (model prog w) A (tryCompare (.ref x) "__eq__" (.ref y)) Q E s := by
  unfold tryCompare
  refine wpAny_bind (ifBound_objEq X I hs (call_objEq X I J hm ?_))
  unfold ansEq
  by_cases e : x = y
  · rw [if_pos e] at h
    rw [if_pos e]
    exact wpAny_pure h
  · rw [if_neg e] at h
    rw [if_neg e]
    exact wpAny_pure h
theorem try_ne {Q : Option Value → Shared → Prop} (hu1 : A.in1.units < cLine) (X : K.In s.heap) (I : PySem.W.InstAt s.heap x ox C od) (J : PySem.W.InstAt s.heap y oy C od') (hm : PySem.W.mroIn K C (.type "object") = some true) (hs : PySem.W.findIn K (.ref C) "__eq__" = some (some (.builtin "object.__eq__"))) (hne : PySem.W.findIn K (.ref C) "__ne__" = some (some (.builtin "object.__ne__")))
    (h : Q (if x = y then some (.bool false) else none) s) : wpAny (model prog w) A (tryCompare (.ref x) "__ne__" (.ref y)) Q E s := by
  unfold tryCompare
  refine wpAny_bind (ifBound_objNe X I hne (call_objNe hu1 X I J hm hs ?_))
  unfold ansNe
  by_cases e : x = y
  · rw [if_pos e] at h
    rw [if_pos e]
    exact wpAny_pure h
  · rw [if_neg e] at h
    rw [if_neg e]
    exact wpAny_pure h
theorem rc_eq {L : Addr} {h₀ : Heap} {m : Str → Option Value} {Q : Value → Shared → Prop} (hu : A.units < cLine) (F : Fr h₀ L s.heap m) (X₀ : K.In h₀) (I : PySem.W.InstAt s.heap x ox C od) (J : PySem.W.InstAt s.heap y oy C od')
    (hm : PySem.W.mroIn K C (.type "object") = some true) (hs : PySem.W.findIn K (.ref C) "__eq__" = some (some (.builtin "object.__eq__")))
    (h : Q (.bool (decide (x = y))) s) : wpAny (model prog w) A (richCompare .Eq (.ref x) (.ref y)) Q E s := by
  have X := X₀.keeps F.keep
  unfold richCompare
  simp only [oneThing_ref]
  refine wpAny_holding (wpAny_bind (wpAny_cRoomFor hu ?_))
  refine wpAny_bind (I.type.here (wpAny_bind (J.type.here ?_)))
  have e0 : (Value.ref C != Value.ref C) = false := by simp
  simp only [e0, Bool.false_eq_true, if_false]
  refine wpAny_bind (wpAny_pure ?_)
  simp only [Bool.false_eq_true, if_false]
  by_cases e : x = y
  · refine wpAny_bind (try_eq X I J hm hs ?_)
    rw [if_pos e]
    rw [decide_eq_true e] at h
    exact wpAny_pure h
  · refine wpAny_bind (try_eq X I J hm hs ?_)
    rw [if_neg e]
    have e2 : ¬ y = x := fun z => e z.symm
    simp only [Bool.not_false, if_true]
    refine wpAny_bind (try_eq X J I hm hs ?_)
    rw [if_neg e2]
    refine wpAny_bind (wpAny_rule ?_)
    refine wpAny_bind (same_refs I J ?_)
    exact wpAny_pure h
theorem rc_ne {L : Addr} {h₀ : Heap} {m : Str → Option Value} {Q : Value → Shared → Prop} (hu : A.units < cLine) (hu1 : A.in1.units < cLine) (F : Fr h₀ L s.heap m) (X₀ : K.In h₀) (I : PySem.W.InstAt s.heap x ox C od) (J : PySem.W.InstAt s.heap y oy C od')
    (hm : PySem.W.mroIn K C (.type "object") = some true) (hs : PySem.W.findIn K (.ref C) "__eq__" = some (some (.builtin "object.__eq__"))) (hne : PySem.W.findIn K (.ref C) "__ne__" = some (some (.builtin "object.__ne__")))
    (h : Q (.bool (!decide (x = y))) s) : wpAny (model prog w) A (richCompare .NotEq (.ref x) (.ref y)) Q E s := by
  have X := X₀.keeps F.keep
  unfold richCompare
  simp only [oneThing_ref]
  refine wpAny_holding (wpAny_bind (wpAny_cRoomFor hu ?_))
  refine wpAny_bind (I.type.here (wpAny_bind (J.type.here ?_)))
  have e0 : (Value.ref C != Value.ref C) = false := by simp
  simp only [e0, Bool.false_eq_true, if_false]
  refine wpAny_bind (wpAny_pure ?_)
  simp only [Bool.false_eq_true, if_false]
  by_cases e : x = y
  · refine wpAny_bind (try_ne hu1 X I J hm hs hne ?_)
    rw [if_pos e]
    rw [decide_eq_true e] at h
    exact wpAny_pure h
  · refine wpAny_bind (try_ne hu1 X I J hm hs hne ?_)
    rw [if_neg e]
    have e2 : ¬ y = x := fun z => e z.symm
    simp only [Bool.not_false, if_true]
    refine wpAny_bind (try_ne hu1 X J I hm hs hne ?_)
    rw [if_neg e2]
    refine wpAny_bind (wpAny_rule ?_)
    refine wpAny_bind (same_refs I J ?_)
    exact wpAny_pure h
end
end HNI
namespace L2
open PySem PySem.Spec PyProof.Rows
section
variable {X : Cx} {n : Nat}
def rEqI (C : Addr) : R2 := fun x y H Q => ∃ a b dx dy fs gs, x = .ref a ∧ y = .ref b ∧ H a = some (.ins C dx fs) ∧ H b = some (.ins C dy gs) ∧ Q (.bl (decide (a = b))) H
def rNeI (C : Addr) : R2 := fun x y H Q => ∃ a b dx dy fs gs, x = .ref a ∧ y = .ref b ∧ H a = some (.ins C dx fs) ∧ H b = some (.ins C dy gs) ∧ Q (.bl (!decide (a = b))) H
theorem op_eqI {C : Addr} (hs : PySem.W.findIn X.K (.ref C) "__eq__" = some (some (.builtin "object.__eq__"))) (hm : PySem.W.mroIn X.K C (.type "object") = some true) (hr : Room (n + 1) X.A) : OpR X (compareOp .Eq) (rEqI C) := by
  intro pins s σ H x y u v Q I rx ry hq
  obtain ⟨a, b, dx, dy, fs, gs, rfl, rfl, ha, hb', q⟩ := hq
  cases rx
  cases ry
  obtain ⟨mA, J, _⟩ := ins_get I.hok ha
  obtain ⟨mB, J', _⟩ := ins_get I.hok hb'
  obtain ⟨od, J, _⟩ := J.look
  obtain ⟨od', J', _⟩ := J'.look
  obtain ⟨m, hF⟩ := I.fr
  show wpAny (model X.prog X.w) X.A (richCompare .Eq (.ref a) (.ref b)) (EP X pins σ Q) X.xe s
  exact HNI.rc_eq hr.units0 hF I.ok.mod.kin J J' hm hs ⟨.bl (decide (a = b)), H, I, rfl, q⟩
theorem op_neI {C : Addr} (hs : PySem.W.findIn X.K (.ref C) "__eq__" = some (some (.builtin "object.__eq__"))) (hne : PySem.W.findIn X.K (.ref C) "__ne__" = some (some (.builtin "object.__ne__"))) (hm : PySem.W.mroIn X.K C (.type "object") = some true) (hr : Room (n + 1) X.A) : OpR X (compareOp .NotEq) (rNeI C) := by
  intro pins s σ H x y u v Q I rx ry hq
  obtain ⟨a, b, dx, dy, fs, gs, rfl, rfl, ha, hb', q⟩ := hq
  cases rx
  cases ry
  have sb : Sub X n X.A.in1 := Sub.in1 ⟨hr, rfl⟩
  obtain ⟨mA, J, _⟩ := ins_get I.hok ha
  obtain ⟨mB, J', _⟩ := ins_get I.hok hb'
  obtain ⟨od, J, _⟩ := J.look
  obtain ⟨od', J', _⟩ := J'.look
  obtain ⟨m, hF⟩ := I.fr
  show wpAny (model X.prog X.w) X.A (richCompare .NotEq (.ref a) (.ref b)) (EP X pins σ Q) X.xe s
  exact HNI.rc_ne hr.units0 sb.room.units0 hF I.ok.mod.kin J J' hm hs hne ⟨.bl (!decide (a = b)), H, I, rfl, q⟩
end
end L2

set_option Elab.async false
set_option linter.all false
set_option maxRecDepth 100000
set_option maxHeartbeats 4000000
/-! enumerate of a tuple -/
namespace PySem
open Sem (wp)
open PySem.Spec PyProof.Rows
theorem meets_enumerate_newB1 {v : Value} {o : Obj} {H : Heap → Prop} (B : Begins v o H) :
    Meets (Builtin.«enumerate.__new__» ⟨[.type "enumerate", v], []⟩) (fun _ R s => H s.heap ∧
      R (.ok (.ret (.ref (s.heap.push o).objs.size))) { s with heap := (s.heap.push o).push { cls := .type "enumerate", data := .fields #[.none, .bool false, .ref s.heap.objs.size, rawInt 0, .none, .none] } }) :=
  .of_wp fun prog w A R s h => by
    obtain ⟨hp, g, d, tk, os⟩ := s; obtain ⟨h1, h⟩ := h
    have hsub := sub_enumerate
    have q1 : ∀ {A' : Around} {E : Value → Shared → Prop} {Q : Value → Shared → Prop}, Q (.ref hp.objs.size) ⟨hp.push o, g, d, tk, os⟩ → wpAny (model prog w) A' (pyIter v) Q E ⟨hp, g, d, tk, os⟩ :=
      fun q => B.iter prog w _ _ ⟨hp, g, d, tk, os⟩ _ h1 q
    wp_walk using q1
    refine wpAny_stack_any fun st => wpAny_pure ?_
    split
    · rename_i c _ _ _ _ _
      cases (c == Value.type "enumerate")
      · wp_walk using q1
        exact ⟨_, rfl, h⟩
      · wp_walk using q1
        exact ⟨_, rfl, h⟩
    · wp_walk using q1
      exact ⟨_, rfl, h⟩
section
variable {prog : Program} {w : World} {A : Around} {E : Value → Shared → Prop} {s : Shared}
theorem enum_begins1 {v : Value} {o : Obj} {H : Heap → Prop} {Q : Value → Shared → Prop} (B : Begins v o H) (h1 : H s.heap)
    (h : ∀ h', IsEnum h' (s.heap.objs.size + 1) s.heap.objs.size 0 .none → h'.get? s.heap.objs.size = some o → h'.objs.size = s.heap.objs.size + 2 →
      (∀ b o, s.heap.get? b = some o → h'.get? b = some o) → Q (.ref (s.heap.objs.size + 1)) { s with heap := h' }) :
    wpAny (model prog w) A (call (.type "enumerate") [v]) Q E s := by
  refine callType_new F.called_enumerate (by decide) (F.typeCall_enumerate_1 _) (F.newCall_enumerate_1 _) (fun obj => F.args_object_init_2 obj _) F.entry_enumerate_new
    (meets_enumerate_newB1 B) ⟨h1, ?_⟩
  have hz : (s.heap.push o).objs.size = s.heap.objs.size + 1 := Heap.size_push ..
  show _ ∧ _
  rw [hz]
  have he : IsEnum ((s.heap.push o).push { cls := .type "enumerate", data := .fields #[.none, .bool false, .ref s.heap.objs.size, rawInt 0, .none, .none] }) (s.heap.objs.size + 1) s.heap.objs.size 0 .none := by
    have := Heap.get?_push_size (s.heap.push o) (o := { cls := .type "enumerate", data := .fields #[.none, .bool false, .ref s.heap.objs.size, rawInt 0, .none, .none] }) rfl
    rw [hz] at this; exact this
  refine ⟨⟨_, he, rfl⟩, h _ he (Heap.get?_push_of_some _ (Heap.get?_push_size _ B.free)) (by rw [Heap.size_push, hz]) fun b o x => Heap.get?_push_of_some _ (Heap.get?_push_of_some _ x)⟩
end
end PySem
namespace L2
open PySem PySem.Spec PyProof.Rows
/-- the tuple at a, each item in a new pair -/
def IteT (K : PySem.W.Frag) (a : Addr) : It :=
  ⟨fun i H => ∃ (xs : List V) (x : V), SqT K H a xs ∧ xs[i]? = some x, fun i H v H' => ∃ T x, v = .ref T ∧ H T = none ∧ H' = upd H T (.tup [.int (i : Nat), x]) ∧ ∀ xs, SqT K H a xs → xs[i]? = some x, fun i H => ∃ xs : List V, SqT K H a xs ∧ xs.length = i⟩
theorem turn_enumT {P : Program} {w : World} {K : PySem.W.Frag} {elts : List Expr} {kk : Nat} {tpos : Pos} (a e it : Addr) (hn : e ≠ it) (hae : a ≠ e) (hai : a ≠ it) :
    Turn P w K (.Tuple elts kk tpos) (IteT K a) [e, it] e (fun i h => (∃ old, IsEnum h e it ((i : Nat) : Int) old) ∧ h.IsTupleIter it a i) where
  mem := by simp
  obj := fun i h st b hb => by
    obtain ⟨⟨old, he⟩, ⟨o, ho, hc, hd⟩⟩ := st
    have e' : b = e ∨ b = it := by simpa using hb
    rcases e' with z | z
    · rw [z]; exact ⟨_, he, fun v q => nomatch q⟩
    · rw [z]; exact ⟨o, ho, fun v q => by rw [hd] at q; cases q⟩
  keep := fun i h h' st k => by
    obtain ⟨⟨old, he⟩, ⟨o, ho, r⟩⟩ := st
    exact ⟨⟨old, k e (by simp) _ he⟩, ⟨o, k it (by simp) _ ho, r⟩⟩
  item := by
    intro X hP hw hK hc i pins s σ H E I hf st hg
    subst hP hw hK
    obtain ⟨⟨old, he⟩, hit⟩ := st
    obtain ⟨xs, x, hq, hx⟩ := hg
    obtain ⟨its, rv, p, hz⟩ := I.tuple hq
    obtain ⟨u, hu, ru⟩ := rv.get hx
    have hel : e < s.heap.objs.size := Heap.lt_size he
    have hil : it < s.heap.objs.size := by obtain ⟨_, q, _⟩ := hit; exact Heap.lt_size q
    have hlt : i < its.toArray.size := by
      have q := (List.getElem?_eq_some_iff.mp hu).1
      simpa using q
    refine wpAny_pyNext_enum_itemD (Draws.tuple (A := X.A.in1) (I.ok.hd hc) it a hai its.toArray) he ⟨hit, p⟩ hlt hn (by simp [hn]; exact fun z => hae z.symm) fun y h' tk hy ho hst hT hsz hk => ?_
    have hyu : y = u := by
      have q : its.toArray[i]? = some y := hy
      have q2 : its.toArray[i]? = some u := by simpa using hu
      rw [q] at q2
      exact Option.some.inj q2
    subst hyu
    refine ⟨_, rfl, wpAny_letOwnedTupleGo_enum (s := { s with heap := h', toks := tk + 1 }) ho fun h'' he' sb => ?_⟩
    have hT2 : h''.get? s.heap.objs.size = some { cls := .type "tuple", data := .seq #[.int i tk, y] } := (sb.2 _ (Nat.ne_of_gt hel)).trans hT
    have new : ObjOk X.prog X.w (upd H s.heap.objs.size (.tup [.int (i : Nat), x])) h'' s.heap.objs.size (.tup [.int (i : Nat), x]) :=
      ⟨by show 2 ≤ sizeLine; decide, [.int i tk, y], .cons ⟨_, rfl⟩ (.cons ru .nil), ⟨_, hT2, rfl, _, rfl⟩⟩
    have I1 : Inv X pins σ (upd H s.heap.objs.size (.tup [.int (i : Nat), x])) { s with heap := h'', toks := tk + 1 } :=
      I.turnedNew (ch := [e, it]) (fun b ob hb q => (sb.2 b (fun z => hb (by simp [z]))).trans (hk b ob (fun z => hb (by simp [z])) (fun z => hb (by simp [z])) q)) hf (Nat.le_refl _) new
    obtain ⟨oi, hoi, ri⟩ := hst.1
    refine ⟨.ref s.heap.objs.size, _, I1, rfl, ⟨_, x, rfl, I.hok.fresh (Nat.le_refl _), rfl, fun ys hy => by rw [I.tuple_inj hy hq]; exact hx⟩, ⟨⟨y, ?_⟩, ⟨oi, (sb.2 it (Ne.symm hn)).trans hoi, ri⟩⟩, fun b hb => ?_⟩
    · have e1 : ((i + 1 : Nat) : Int) = (i : Int) + 1 := by omega
      rw [e1]; exact he'
    · have hb' : b < s.heap.objs.size := by
        have e' : b = e ∨ b = it := by simpa using hb
        rcases e' with z | z
        · rw [z]; exact hel
        · rw [z]; exact hil
      rw [upd_ne (Nat.ne_of_lt hb')]
      exact (hf b hb).1
  done := by
    intro X hP hw hK hc i pins s σ H E I hf st hg
    subst hP hw hK
    obtain ⟨⟨old, he⟩, hit⟩ := st
    obtain ⟨xs, hq, hx⟩ := hg
    obtain ⟨its, rv, p, hz⟩ := I.tuple hq
    obtain ⟨f0, f1, f2, f3, f4, f5⟩ := hf it (by simp)
    have hl := rv.length
    have hn' : i = its.toArray.size := by simp; omega
    subst hn'
    exact wpAny_pyNext_enum_endD (Draws.tuple (A := X.A.in1) (I.ok.hd hc) it a hai its.toArray) he ⟨hit, p⟩ fun h' eb => ⟨rfl, I.turned (t' := s.toks) (fun b o hb q => eb b o hb q) f0 f1 f3 f4 f5⟩
  self := fun A i s Q E st h => let ⟨⟨_, he⟩, _⟩ := st; wpAny_pyIter_enum he h
def iEnumT (K : PySem.W.Frag) (ta : TA) : TI := fun σ H R => ta σ H fun vs H1 => ∃ a xs, vs = [.ref a] ∧ SqT K H1 a xs ∧ R (IteT K a) H1
theorem pi_enumT {X : Cx} {e : Expr} {ta : TA} {p pos tpos : Pos} {elts : List Expr} {kk : Nat} (hg : Gl X "enumerate") (hm : X.mg "enumerate" = none) (ha : PA X [e] ta) (hs : starEach [e] X.env = [(false, eval e X.env)] := by rfl) :
    PI X (.Tuple elts kk tpos) (.Call (.Name "enumerate" p) [e] [] pos) (iEnumT X.K ta) := by
  refine ⟨fun pins s σ H R I h => ?_⟩
  refine Call_ (ld_blt I hg hm boot_enumerate (PyProof.Rows.callWith_type1 (thn (ha.run pos pins s σ H _ I h) fun us s1 ⟨vs, H1, I1, r1, q1⟩ => ?_) hs rfl))
  obtain ⟨a, xs, ex, hq, q⟩ := q1
  subst ex
  cases r1 with
  | cons r rr =>
    cases rr
    cases r
    obtain ⟨its, rv, p', hz⟩ := I1.tuple hq
    have hal : a < s1.heap.objs.size := by obtain ⟨_, q, _⟩ := p'; exact Heap.lt_size q
    refine enum_begins1 (begins_tuple a its.toArray) (show s1.heap.IsTuple a its.toArray from p') fun h' he hit hsz hk => wpAny_pyIter_enum he ?_
    have I2 : Inv X pins σ H1 { s1 with heap := h' } := I1.kept (t' := s1.toks) hk
    refine ⟨s1.heap.objs.size + 1, [s1.heap.objs.size + 1, s1.heap.objs.size], _, _, H1, rfl, I2, turn_enumT a (s1.heap.objs.size + 1) s1.heap.objs.size (Nat.succ_ne_self _) (Nat.ne_of_lt (Nat.lt_succ_of_lt hal)) (Nat.ne_of_lt hal), ⟨⟨.none, he⟩, ⟨_, hit, rfl, rfl⟩⟩, fun b hb => ?_, q⟩
    have e' : b = s1.heap.objs.size + 1 ∨ b = s1.heap.objs.size := by simpa using hb
    have hle : s1.heap.objs.size ≤ b := by
      rcases e' with z | z
      · rw [z]; exact Nat.le_add_right _ _
      · rw [z]; exact Nat.le_refl _
    exact I1.fpOk hle (I1.hok.fresh hle)
theorem walk_enumT {K : PySem.W.Frag} {a : Addr} {xs : List V} : Walk (IteT K a) xs.length (fun H => SqT K H a xs) (YPair (fun i => some (.int (i : Nat))) (fun i => xs[i]?)) :=
by
  refine ⟨fun i _ hi q => ⟨xs, xs[i], q, by simp [hi]⟩, fun _ q => ⟨xs, q, rfl⟩, fun i H v H' _ q y => ?_⟩
  obtain ⟨T, x, h1, h2, h3, h4⟩ := y
  exact ⟨T, .int (i : Nat), x, h1, h2, h3, rfl, h4 xs q⟩
end L2

set_option Elab.async false
set_option linter.all false
set_option maxRecDepth 100000
set_option maxHeartbeats 4000000
/-! own exceptions without arguments: raised, and as values -/
namespace L2
open PySem PySem.Spec PyProof.Rows
section
variable {X : Cx} {C : Addr} {bmB : List Value} {B newId initId : String}
theorem pmk_own0 {x : Str} {p pos : Pos} (F : ExcBaseFacts B newId initId bmB) (q : PySem.W.excIn X.K C bmB newId = true) (gC : X.mg x = some (.ref C)) (kC : PySem.W.keepIn X.K (.ref C) = true) (r : Raises X (.ref C)) (hg : Gl X x)
    (hdb : (x == ("__debug__" : Str)) = false := by decide) : PMk X (.Call (.Name x p) [] [] pos) (fun _ H Q => Q (.ref C) none H) := by
  intro pins s σ H Q I h
  refine wpAny_Call_Name_kw (ld_glob I hg gC ?_ hdb)
  refine PySem.W.callWith_K0 I.kIn kC ?_
  obtain ⟨bm, N, nm, qn, bs, hdct, sn, sub, ab, col, dd, k0, k1, k2, k3, k5, mN, hC, hN, hni, T⟩ := exc_obj I.kIn q
  refine wpAny_call_exc_subT F T hC hN hni (fun h' e hm => ?_) (by show 0 ≤ sizeLine; exact Nat.zero_le _)
  exact mk_of I hm r h (I.hok.gone hm.new)
/-- X(), as a value -/
theorem pe_exc0 {x : Str} {p pos : Pos} (F : ExcBaseFacts B newId initId bmB) (q : PySem.W.excIn X.K C bmB newId = true) (gC : X.mg x = some (.ref C)) (kC : PySem.W.keepIn X.K (.ref C) = true) (hg : Gl X x)
    (hdb : (x == ("__debug__" : Str)) = false := by decide) : PE X (.Call (.Name x p) [] [] pos) (fun σ H Q => ∀ a, H a = none → Q (.ref a) (upd H a (ExO (.ref C) a))) := by
  refine ⟨fun pins s σ H Q I h => ?_⟩
  refine wpAny_Call_Name_kw (ld_glob I hg gC ?_ hdb)
  refine PySem.W.callWith_K0 I.kIn kC ?_
  obtain ⟨bm, N, nm, qn, bs, hdct, sn, sub, ab, col, dd, k0, k1, k2, k3, k5, mN, hC, hN, hni, T⟩ := exc_obj I.kIn q
  refine wpAny_call_exc_subT F T hC hN hni (fun h' a hm => ?_) (by show 0 ≤ sizeLine; exact Nat.zero_le _)
  have hn : H a = none := I.hok.gone hm.new
  obtain ⟨t, ht, _, _⟩ := hm.there
  exact ⟨.ref a, upd H a (ExO (.ref C) a), I.laidN hm.keeps hm.new hn (exO_ok ht ⟨rfl, rfl⟩ rfl rfl rfl (show 4 < 6 by decide)), rfl, h a hn⟩
end
end L2

set_option Elab.async false
set_option linter.all false
set_option maxRecDepth 100000
set_option maxHeartbeats 4000000
/-! own exceptions with an __init__ of their own that stores its arguments, over Exception: the stores -/
namespace PySem
namespace ExX
open Builtin Builtin.ObjectAttr PySem.W PySem.Calls PyProof.Rows PySem.HandSPX
abbrev exTail : List Value := [.type "Exception", .type "BaseException", .type "object"]
/-- own classes, then Exception's mro -/
def refsEX : List Value → Bool
  | .ref _ :: r => refsEX r
  | l => l == exTail
theorem refsEX_cases : ∀ l : List Value, refsEX l = true → (∃ c r, l = .ref c :: r ∧ refsEX r = true) ∨ l = exTail := by
  intro l e
  unfold refsEX at e
  split at e
  · exact .inl ⟨_, _, rfl, e⟩
  · exact .inr (beq_iff_eq.mp e)
theorem refsEX_pass (self : Value) : ∀ l : List Value, refsEX l = true → refuseLoop self "__setattr__" l = pure () := by
  intro l
  induction l with
  | nil => intro e; exact absurd e (by decide)
  | cons a r ih =>
    intro e
    rcases refsEX_cases (a :: r) e with ⟨c, r', q, h⟩ | q
    · obtain ⟨rfl, rfl⟩ := List.cons.inj q
      rw [refuseLoop_ref]; exact ih h
    · rw [q]; exact F.store_Exception.passes self
theorem refsEX_contains (X : String) : ∀ l : List Value, refsEX l = true → l.contains (.type X) = exTail.contains (.type X) := by
  intro l
  induction l with
  | nil => intro e; exact absurd e (by decide)
  | cons a r ih =>
    intro e
    rcases refsEX_cases (a :: r) e with ⟨c, r', q, h⟩ | q
    · obtain ⟨rfl, rfl⟩ := List.cons.inj q
      rw [List.contains_cons, ih h]; rfl
    · rw [q]
theorem refsEX_ne {l : List Value} (e : refsEX l = true) : l.isEmpty = false := by
  cases l with
  | nil => exact absurd e (by decide)
  | cons _ _ => rfl
section
variable {prog : Program} {w : World} {A : Around} {E : Value → Shared → Prop} {R : Result → Shared → Prop} {hp : Heap} {g : Array GenState} {d : Drawn} {t : Nat} {os : OsState}
theorem osa_new {K : W.Frag} {name : Str} {tk : Tok} {v : Value} {x C : Addr} {fv : Array Value} {cd : ClassData}
    (X : K.In hp) (hx : hp.get? x = some { cls := .ref C, data := .fields fv }) (hcd : W.clsIn K C = some cd) (hm : refsEX cd.mro = true) (hh : cd.hasDict = true) (ha : W.findIn K (.ref C) name = some none)
    (hq : ∀ h' tk' dx, (∀ b o, b ≠ x → hp.get? b = some o → h'.get? b = some o) → hp.objs.size ≤ dx → dx ≠ x → h'.get? x = some { cls := .ref C, dict := some dx, data := .fields fv } →
      h'.Ns1 dx (fun y => if y = name then some v else none) → R (.ok (.ret .none)) ⟨h', g, d, tk', os⟩) :
    codeAny (model prog w) A (.call (.builtin "object.__setattr__") ⟨[.ref x, .str name tk, v], []⟩) R ⟨hp, g, d, t, os⟩ := by
  have I : W.InstAt hp x { cls := .ref C, data := .fields fv } C none := ⟨hx, rfl, rfl, trivial⟩
  have SF := F.store_object
  have ne := refsEX_ne hm
  have hob : cd.mro.contains (.type "object") = true := (refsEX_contains "object" _ hm).trans (by decide +kernel)
  have hxs : x ≠ hp.objs.size := Nat.ne_of_lt (Heap.lt_size hx)
  have sub : W.Looks (model prog w) hp (isInstance (.ref x) (.type "object")) true := I.type.andThen (W.looks_mroIn X (by unfold W.mroIn; rw [hcd, Option.bind_some, if_neg (by rw [ne]; decide), hob]))
  refine codeAny_call_builtin SF.slot.plain SF.entry (@W.check_slot (model prog w) _ _ ⟨hp, g, d, t, os⟩ "object.__setattr__" "object" "__setattr__" (.ref x) [.str name tk, v] [] _ SF.kind SF.split sub (SF.args (.ref x) (.str name tk) v) ?_)
  have hmr : W.Looks (model prog w) hp (mroOf (.ref C)) cd.mro := (W.looks_clsIn X hcd).andThen .now
  have L3 : W.Looks (model prog w) hp (storeTaker? none) none := .now
  have hcls : W.Looks (model prog w) hp (classData C) cd := W.looks_clsIn X hcd
  rw [W.osa_eq, refuse_eq]
  refine wpAny_bind (wpAny_bind (I.type.at (wpAny_bind (hmr.at ?_))))
  rw [refsEX_pass _ _ hm]
  refine wpAny_pure (wpAny_bind (I.type.at (wpAny_bind ((W.looks_findIn X ha).at (wpAny_bind (L3.at ?_))))))
  show wpAny _ _ (storeInOwnDict (.ref x) (.ref C) (.str name tk) name v false) _ _ _
  obtain ⟨nm, bs, mro, ns, qn, hd, sn, sb, ab, col, del⟩ := cd
  dsimp only at hh
  subst hh
  unfold storeInOwnDict ownDictForStores
  repeat (first | with_reducible refine store_in_new ?_ ?_ | with_reducible refine wpAny_loadPart_at hx ?_ | with_reducible refine hcls.at ?_ | wp_step)
  · exact ⟨_, #[], _, (Heap.get?_update_ne _ _ _ _ hxs.symm).trans (Heap.get?_push_at rfl rfl), rfl, fun e he => absurd he (by simp), fun _ => rfl⟩
  · intro h' tk' hn' hs
    have hx₁ : (hp.push { cls := .type "dict", data := .dict #[] }).get? x = some { cls := .ref C, data := .fields fv } := Heap.get?_push_of_some _ hx
    refine hq h' tk' hp.objs.size (fun b o hb ho => ?_) (Nat.le_refl _) hxs.symm ?_ hn'
    · exact (hs.2 b (Nat.ne_of_lt (Heap.lt_size ho))).trans ((Heap.get?_update_ne _ _ _ _ hb).trans (Heap.get?_push_of_some _ ho))
    · exact (hs.2 x hxs).trans (Heap.get?_update_self _ hx₁ rfl)
theorem osa_old {K : W.Frag} {name : Str} {tk : Tok} {v : Value} {x C dx : Addr} {fv : Array Value} {cd : ClassData} {m0 : Str → Option Value} {nl : List Str}
    (X : K.In hp) (hx : hp.get? x = some { cls := .ref C, dict := some dx, data := .fields fv }) (hns : hp.Ns1 dx m0) (hw : Within m0 nl) (hz : nl.length ≤ 1000) (hcd : W.clsIn K C = some cd) (hm : refsEX cd.mro = true) (hh : cd.hasDict = true)
    (ha : W.findIn K (.ref C) name = some none)
    (hq : ∀ h' tk', (∀ b o, b ≠ dx → hp.get? b = some o → h'.get? b = some o) → h'.Ns1 dx (fun y => if y = name then some v else m0 y) → R (.ok (.ret .none)) ⟨h', g, d, tk', os⟩) :
    codeAny (model prog w) A (.call (.builtin "object.__setattr__") ⟨[.ref x, .str name tk, v], []⟩) R ⟨hp, g, d, t, os⟩ := by
  obtain ⟨oD, esD, epD, hoD, hdD, _⟩ := hns.count hw
  have I : W.InstAt hp x { cls := .ref C, dict := some dx, data := .fields fv } C (some oD) := ⟨hx, rfl, rfl, hoD⟩
  have SF := F.store_object
  have ne := refsEX_ne hm
  have hob : cd.mro.contains (.type "object") = true := (refsEX_contains "object" _ hm).trans (by decide +kernel)
  have sub : W.Looks (model prog w) hp (isInstance (.ref x) (.type "object")) true := I.type.andThen (W.looks_mroIn X (by unfold W.mroIn; rw [hcd, Option.bind_some, if_neg (by rw [ne]; decide), hob]))
  refine codeAny_call_builtin SF.slot.plain SF.entry (@W.check_slot (model prog w) _ _ ⟨hp, g, d, t, os⟩ "object.__setattr__" "object" "__setattr__" (.ref x) [.str name tk, v] [] _ SF.kind SF.split sub (SF.args (.ref x) (.str name tk) v) ?_)
  have hmr : W.Looks (model prog w) hp (mroOf (.ref C)) cd.mro := (W.looks_clsIn X hcd).andThen .now
  have L3 : W.Looks (model prog w) hp (storeTaker? none) none := .now
  have hcls : W.Looks (model prog w) hp (classData C) cd := W.looks_clsIn X hcd
  rw [W.osa_eq, refuse_eq]
  refine wpAny_bind (wpAny_bind (I.type.at (wpAny_bind (hmr.at ?_))))
  rw [refsEX_pass _ _ hm]
  refine wpAny_pure (wpAny_bind (I.type.at (wpAny_bind ((W.looks_findIn X ha).at (wpAny_bind (L3.at ?_))))))
  show wpAny _ _ (storeInOwnDict (.ref x) (.ref C) (.str name tk) name v false) _ _ _
  obtain ⟨nm, bs, mro, ns, qn, hd, sn, sb, ab, col, del⟩ := cd
  dsimp only at hh
  subst hh
  unfold storeInOwnDict ownDictForStores
  repeat (first | with_reducible refine PySem.OEX.store_in_old hns hw hz ?_ | with_reducible refine wpAny_loadPart_at hx ?_ | with_reducible refine hcls.at ?_ | wp_step)
  intro h' tk' hn' hs
  exact hq h' tk' (fun b o hb ho => (hs.2 b hb).trans ho) hn'
end
end ExX
end PySem

set_option Elab.async false
set_option linter.all false
set_option maxRecDepth 100000
set_option maxHeartbeats 4000000
namespace PySem
namespace ExX
open PySem.W PySem.Calls PyProof.Rows PySem.HandSPX
/-- what the written part says of an own exception class, at C, over Exception, and of its __init__, at fI -/
structure ExcT (K : W.Frag) (mg : Str → Option Value) (C fI : Addr) (cn : Str) (fs : List Str) (qual : Str) (st : Stmt) : Prop where
  gC : mg cn = some (.ref C)
  cls : ∃ nm q N bs bm sn sub ab col dd k0 k1 k2 k3 k5, K.lookup C = some (excClassObj nm q C N bs bm true sn sub ab col dd k0 k1 k2 k3 k5 "Exception.__new__") ∧ refsEX bm = true
  sa : findIn K (.ref C) "__setattr__" = some (some (.builtin "object.__setattr__"))
  ga : findIn K (.ref C) "__getattribute__" = some (some (.builtin "BaseException.__getattribute__"))
  gg : findIn K (.ref C) "__getattr__" = some none
  no : ∀ f ∈ fs, findIn K (.ref C) f = some none
  iC : findIn K (.ref C) "__init__" = some (some (.ref fI))
  tC : typeIn K (.ref fI) = some (.type "function")
  kC : keepIn K (.ref C) = true
  exC : subIn K (.ref C) (.type "BaseException") = some true
  tyC : typeIn K (.ref C) = some (.type "type")
  hdC : hasDictIn K C = true
  fn : ∃ (oc : Value) (od : Option Addr) (kV doc pm : Value) (an : Option Addr) (cdv ct : Value) (osl : Array (Option Value)),
    K.lookup fI = some ⟨oc, od, .func (fnOf "__init__" qual (L2.defArgs st) (L2.defBody st) (L2.defScope st) .none kV doc pm an cdv ct), osl⟩ ∧ codeIn K cdv qual = true
theorem ldC {M : Model} {s : Shared} {name : Str} {scope : Scope} {L a : Addr} {cd : Value} {m : Str → Option Value} {x : Str} {pos : Pos} {v : Value} {Q : Value → Shared → Prop} {A : Around} {E : Value → Shared → Prop} (hn : s.heap.Ns L m) (hv : m x = some v) (h : Q v s)
    (hk : scope.kind = .function := by rfl) (hl : (envOfC name scope L a cd).kindOf x = some .local := by rfl) (hd : (x == ("__debug__" : Str)) = false := by decide) :
    wpAny M A (eval (.Name x pos) (envOfC name scope L a cd)) Q E s := wpAny_Name (wpAny_loadName_local hk hl hn hv h) hd
end ExX
end PySem
namespace PySem
namespace ExX
open PySem.W PySem.Calls PyProof.Rows PySem.HandSPX
/-- a made exception of the class at C: itself at e, its dict at d, the fields m -/
structure OwnMade (h h' : Heap) (e C d : Addr) (m : Str → Option Value) : Prop where
  keep : ∀ b o, h.get? b = some o → h'.get? b = some o
  new : h.objs.size ≤ e
  obj : ∃ oe vs, h'.get? e = some oe ∧ oe.cls = .ref C ∧ oe.dict = some d ∧ oe.data = .fields vs ∧ vs[1]? = some .none
  dbig : h.objs.size ≤ d
  dne : d ≠ e
  ns : h'.Ns1 d m
end ExX
end PySem
namespace L2
open PySem PySem.Spec PyProof.Rows PySem.ExX
/-- an exception object of the class at C, its own dict at d, not raised -/
def ExD (C d e : Addr) : HO := .ext fun h => ∃ (oe : Obj) (vs : Array Value), h.get? e = some oe ∧ Zc (.ref C) (some d) oe ∧ oe.data = .fields vs ∧ vs[1]? = some .none
theorem exD_ok {P : Program} {w : World} {H : Hp} {h : Heap} {C d e : Addr} {oe : Obj} {vs : Array Value} (he : h.get? e = some oe) (z : Zc (.ref C) (some d) oe) (hd : oe.data = .fields vs) (h1 : vs[1]? = some .none) : ObjOk P w H h e (ExD C d e) :=
  ⟨⟨oe, vs, he, z, hd, h1⟩, ⟨oe, he⟩, fun _ _ ⟨o, v, q, r⟩ k => ⟨o, v, k o q, r⟩⟩
section
variable {X : Cx} {pins : List (Addr × Obj)} {σ : St} {H : Hp} {hp h' : Heap} {g : Array GenState} {dr : Drawn} {tk tk' : Nat} {os : OsState} {e C d : Addr} {m : Str → Option Value} {fs : List (Str × V)}
/-- the heap without the exception itself: its dict laid -/
theorem own_split (I : Inv X pins σ H ⟨hp, g, dr, tk, os⟩) (M : OwnMade hp h' e C d m) (rel : ∀ f, RelO (fs.lookup f) (m f)) :
    ∃ G' : Heap, (∀ b o, G'.get? b = some o → h'.get? b = some o) ∧ G'.get? e = none ∧ Inv X pins σ (upd H d (.xd fs)) ⟨G', g, dr, tk', os⟩ := by
  have hns := M.ns
  obtain ⟨G', g1, g2⟩ := restrict h' fun b => decide (b ≠ e)
  have gk : ∀ b, b ≠ e → G'.get? b = h'.get? b := fun b hb => g1 b (decide_eq_true hb)
  have ge : G'.get? e = none := g2 e (by simp)
  have old : ∀ b o, hp.get? b = some o → G'.get? b = some o := fun b o q => (gk b (Nat.ne_of_lt (Nat.lt_of_lt_of_le (Heap.lt_size q) M.new))).trans (M.keep b o q)
  have ob : ObjOk X.prog X.w (upd H d (.xd fs)) G' d (.xd fs) := ⟨_, hns.at (fun o q => (gk d M.dne).trans q), fun f => rel f⟩
  have J : Inv X pins σ (upd H d (.xd fs)) ⟨G', g, dr, tk', os⟩ := I.laid (t' := tk') old M.dbig ob
  refine ⟨G', fun b o q => ?_, ge, J⟩
  by_cases hb : b = e
  · rw [hb, ge] at q; cases q
  · exact (gk b hb).symm.trans q
theorem own_value (I : Inv X pins σ H ⟨hp, g, dr, tk, os⟩) (M : OwnMade hp h' e C d m) (rel : ∀ f, RelO (fs.lookup f) (m f)) :
    Inv X pins σ (upd (upd H d (.xd fs)) e (ExD C d e)) ⟨h', g, dr, tk', os⟩ := by
  obtain ⟨G', k, ge, J⟩ := own_split (tk' := tk') I M rel
  obtain ⟨oe, vs, hoe, hc, hd, hdat, h1⟩ := M.obj
  have hn : upd H d (.xd fs) e = none := by
    rw [upd_ne (Ne.symm M.dne)]
    exact I.hok.fresh M.new
  exact J.laidN k ge hn (exD_ok hoe ⟨hc, hd⟩ hdat h1)
theorem own_raise {Q : XK} (I : Inv X pins σ H ⟨hp, g, dr, tk, os⟩) (M : OwnMade hp h' e C d m) (rel : ∀ f, RelO (fs.lookup f) (m f)) (r : Raises X (.ref C)) (q : ∀ d, H d = none → Q (.ref C) (some d) (upd H d (.xd fs))) :
    MkP X pins σ Q (.ref e) ⟨h', g, dr, tk', os⟩ := by
  obtain ⟨G', k, ge, J⟩ := own_split (tk' := tk') I M rel
  obtain ⟨oe, vs, hoe, hc, hd, hdat, h1⟩ := M.obj
  refine ⟨e, oe, vs, ⟨G', g, dr, tk', os⟩, _, .ref C, some d, rfl, J, k, ge, hoe, ⟨hc, hd⟩, hdat, h1, ?_, rfl, I.bare, r, q d (I.hok.fresh M.dbig)⟩
  rw [upd_ne (Ne.symm M.dne)]
  exact I.hok.fresh M.new
end
end L2

set_option Elab.async false
set_option linter.all false
set_option maxRecDepth 100000
set_option maxHeartbeats 4000000
/-! isinstance of exception objects that are values, whatever own dict they have -/
namespace PySem.W
open PySem PySem.Spec PySem.Calls PyProof.Rows
section
variable {prog : Program} {w : World} {A : Around} {E : Value → Shared → Prop} {s : Shared} {K : Frag} {x D : Addr} {ox : Obj} {od : Option Obj}
theorem findObj_dataZ {C : Addr} {name : Str} {a g : Value} (hc : (clsIn K C).isSome = true) (ha : findIn K (.ref C) name = some (some a)) (hg : specialIn K a "__get__" = some (some g)) (ht : takesIn K a = some true) : findObj K C od name = some (.bind g a) := by
  obtain ⟨cd, hc⟩ := Option.isSome_iff_exists.mp hc
  unfold findObj
  rw [hc, Option.bind_some, ha, Option.bind_some]
  simp [hg, ht]
theorem kin_classZ {Q : Option Value → Shared → Prop} (hga : findIn K (.ref D) "__getattribute__" = some (some (.builtin "BaseException.__getattribute__"))) (hgt : findIn K (.ref D) "__getattr__" = some none) (hsub : subIn K (.ref D) (.type "BaseException") = some true)
    (hdct : hasDictIn K D = true) (ha : findIn K (.ref D) "__class__" = some (some (.builtin "object.__class__")))
    (hn : specialIn K (.builtin "object.__class__") "__get__" = some (some (.builtin "getset_descriptor.__get__"))) (htk : takesIn K (.builtin "object.__class__") = some true) (hm : mroIn K D (.type "object") = some true)
    (X : K.In s.heap) (I : InstAt s.heap x ox D od) (h : Q (some (.ref D)) { s with toks := s.toks + 1 }) : wpAny (model prog w) A (getAttr? (.ref x) "__class__") Q E s := by
  have hf : findObj K D od "__class__" = some (.bind (.builtin "getset_descriptor.__get__") (.builtin "object.__class__")) := findObj_dataZ (by obtain ⟨cd, hc, _⟩ := any_some hdct; rw [hc]; rfl) ha hn htk
  obtain ⟨hp, g, d, t, os⟩ := s
  have L0 := I.type (M := model prog w)
  have L1 := looks_findIn (M := model prog w) X hga
  have L2 := looks_findIn (M := model prog w) X hgt
  have L3 := looks_find (M := model prog w) X I hf
  have sub : Looks (model prog w) hp (isInstance (.ref x) (.type "BaseException")) true := L0.andThen (looks_subIn X hsub)
  have hx0 : (false && onTheHeap (Value.builtin "BaseException.__getattribute__")) = false := rfl
  have hx2 : (Value.builtin "BaseException.__getattribute__" == Value.builtin "object.__getattribute__") = false := by decide +kernel
  have hx1 : (onTheHeap (Value.ref D) && Value.builtin "BaseException.__getattribute__" == Value.builtin "object.__getattribute__") = false := by rw [hx2]; rfl
  unfold getAttr? getAttrBy? getAttrBy
  refine wpAny_bind (wpAny_mkText (wpAny_bind (wpAny_attempt (wpAny_holding (wpAny_bind (L0.at (wpAny_bind (L1.at ?_))))))))
  show wpAny _ _ (if (onTheHeap (Value.ref D) && Value.builtin "BaseException.__getattribute__" == Value.builtin "object.__getattribute__") = true then _ else _) _ _ _
  rw [hx1, if_neg Bool.false_ne_true]
  unfold getAttrByItsOwn hookBefore
  refine wpAny_bind ?_
  rw [if_pos (show onTheHeap (Value.ref D) = true from rfl)]
  refine L2.at ?_
  refine wpAny_bind (wpAny_attempt (wpAny_holding ?_))
  unfold callGetattribute
  rw [hx0, if_neg Bool.false_ne_true]
  unfold boundAndCalled
  rw [PySem.F.excAttr_ValueError.ga.bind (.ref x)]
  refine wpAny_bind (wpAny_pure ?_)
  show wpAny _ _ (call (.builtin "BaseException.__getattribute__") [.ref x, .str "__class__" t]) _ _ _
  refine wpAny_call (codeAny_call_builtin PySem.F.excAttr_ValueError.ga.plain PySem.F.entry_bexc_ga ?_)
  refine @check_slot (model prog w) _ _ ⟨hp, g, d, t + 1, os⟩ "BaseException.__getattribute__" "BaseException" "__getattribute__" (.ref x) [.str "__class__" t] [] _ (by decide +kernel) (by decide +kernel) sub (PySem.F.args_bexc_ga (.ref x) (.str "__class__" t)) ?_
  unfold Builtin.«object.__getattribute__»
  refine wpAny_bind (wpAny_of_eq (a := ((Value.ref x : Value), [Value.str "__class__" t])) (by first | rfl | (simp only [slotArgs]; rfl)) ?_)
  refine wpAny_bind (wpAny_pure (wpAny_bind (L0.at (wpAny_bind (L3.at ?_)))))
  show wpAny _ _ (holding [Value.builtin "object.__class__"] (call (.builtin "getset_descriptor.__get__") [.builtin "object.__class__", .ref x, .ref D]) >>= ret) _ _ _
  refine wpAny_bind (wpAny_holding (wpAny_call (class_get (s := ⟨hp, g, d, t + 1, os⟩) (ox := ox) (od := od) X I hm ?_)))
  refine wpAny_pure ?_
  show wpAny _ _ (handedOut (.ref D)) _ _ _
  rw [handedOut_of (v := .ref D) rfl]
  first
    | exact wpAny_pure (wpAny_pure h)
    | exact wpAny_pure h
    | exact wpAny_pure (wpAny_bind (wpAny_pure (wpAny_pure h)))
theorem kitx_excZ (hga : findIn K (.ref D) "__getattribute__" = some (some (.builtin "BaseException.__getattribute__"))) (hgt : findIn K (.ref D) "__getattr__" = some none) (hsub : subIn K (.ref D) (.type "BaseException") = some true) (hdct : hasDictIn K D = true) (ha : findIn K (.ref D) "__class__" = some (some (.builtin "object.__class__")))
    (hn : specialIn K (.builtin "object.__class__") "__get__" = some (some (.builtin "getset_descriptor.__get__"))) (htk : takesIn K (.builtin "object.__class__") = some true) (hm : mroIn K D (.type "object") = some true) :
    KitX K (.ref x) (.ref D) (fun h => InstAt h x ox D od) where
  ty := fun _ _ _ I => I.type
  it := fun _ _ X _ => by
    obtain ⟨cdD, hcD, _⟩ := any_some hdct
    unfold clsIn at hcD
    split at hcD
    · rename_i c' d' cd' sl' ho
      intro A' Q' E' s' k q
      unfold isType loadHead
      exact wpAny_bind (wpAny_loadPart (k _ _ (X _ _ ho)) (wpAny_pure q))
    · cases hcD
  ne := (handS_kitx_exc (x := x) (ox := ox) hga hgt hsub hdct ha hn htk hm).ne
  ca := fun X I k => kin_classZ hga hgt hsub hdct ha hn htk hm X I k
end
end PySem.W
namespace L2
open PySem PySem.Spec PyProof.Rows PySem.ExX
/-- the type of a value: also of an exception object that is a value -/
inductive TyZ (K : PySem.W.Frag) (H : Hp) : V → Value → Prop where
  | x {v : V} {t : Value} (h : TyX K H v t) : TyZ K H v t
  | exo {a C : Addr} (e : H a = some (ExO (.ref C) a)) (c : ExcC K C) : TyZ K H (.ref a) (.ref C)
  | exd {a C d : Addr} {fs : List (Str × V)} (e : H a = some (ExD C d a)) (ed : H d = some (.xd fs)) (c : ExcC K C) : TyZ K H (.ref a) (.ref C)
section
variable {X : Cx} {pins : List (Addr × Obj)} {σ : St} {H : Hp} {s : Shared}
theorem kit_ofZ {x : V} {u t : Value} (I : Inv X pins σ H s) (rx : RelV x u) (ty : TyZ X.K H x t) : ∃ P : Heap → Prop, PySem.W.KitX X.K u t P ∧ P s.heap ∧ u ≠ .builtin "__main__.__loader__#opaque" := by
  cases ty with
  | x h => exact kit_of I rx h
  | @exo a C e c =>
    cases (show u = Value.ref a from rx)
    obtain ⟨⟨oe, vs, ho, hz, hd, _, _⟩, _, _⟩ := I.hok a _ e
    have J : PySem.W.InstAt s.heap a oe C none := by
      obtain ⟨oc, od, oda, osl⟩ := oe
      obtain ⟨h1, h2⟩ := hz
      dsimp only at h1 h2 hd
      subst h1 h2 hd
      exact ⟨ho, rfl, rfl, trivial⟩
    exact ⟨_, PySem.W.kitx_excZ c.hg c.hk c.hs c.hd c.ha c.hn c.ht c.hm, J, fun z => nomatch z⟩
  | @exd a C d fs e ed c =>
    cases (show u = Value.ref a from rx)
    obtain ⟨⟨oe, vs, ho, hz, hd, _⟩, _, _⟩ := I.hok a _ e
    obtain ⟨mA, hns, _⟩ := (show ObjOk X.prog X.w H s.heap d (.xd fs) from I.hok d _ ed)
    obtain ⟨od, hod, _⟩ := lookIn_ns hns
    have J : PySem.W.InstAt s.heap a oe C (some od) := by
      obtain ⟨oc, odd, oda, osl⟩ := oe
      obtain ⟨h1, h2⟩ := hz
      dsimp only at h1 h2 hd
      subst h1 h2 hd
      exact ⟨ho, rfl, rfl, hod⟩
    exact ⟨_, PySem.W.kitx_excZ c.hg c.hk c.hs c.hd c.ha c.hn c.ht c.hm, J, fun z => nomatch z⟩
end
def rIsiZ (K : PySem.W.Frag) : List V → Hp → VK → Prop := fun xs H Q => ∃ (x c : V) (t u : Value) (b : Bool), xs = [x, c] ∧ ClsV c u ∧ TyZ K H x t ∧ PySem.W.kitOne K t u = some b ∧ Q (.bl b) H
def rIsiTZ (K : PySem.W.Frag) : List V → Hp → VK → Prop := fun xs H Q => ∃ (x : V) (tp : Addr) (cs : List V) (t : Value) (us : List Value) (b : Bool), xs = [x, .ref tp] ∧ H tp = some (.tup cs) ∧ Paired ClsV cs us ∧ TyZ K H x t ∧ PySem.W.kitAny K t us = some b ∧ Q (.bl b) H
section
variable {X : Cx} {K : PySem.W.Frag}
theorem call_isiZ (hK : X.K = K) : CallR X (.builtin "isinstance") (rIsiZ K) := by
  subst hK
  intro pins s σ H xs us Q I r h
  obtain ⟨x, c, t, u, b, rfl, k, ty, e, q⟩ := h
  obtain ⟨u1, u2, rfl, r1, r2⟩ := vals2 r
  have e2 := k.eq r2
  subst e2
  obtain ⟨P, Z, p, hx⟩ := kit_ofZ I r1 ty
  exact PySem.W.kia_one Z I.kIn p e hx fun tk => ⟨.bl b, H, I.tok tk, rfl, q⟩
theorem call_isiTZ (hK : X.K = K) : CallR X (.builtin "isinstance") (rIsiTZ K) := by
  subst hK
  intro pins s σ H xs us Q I r h
  obtain ⟨x, tp, cs, t, ws, b, rfl, hT, k, ty, e, q⟩ := h
  obtain ⟨u1, u2, rfl, r1, r2⟩ := vals2 r
  cases (show u2 = Value.ref tp from r2)
  obtain ⟨P, Z, p, hx⟩ := kit_ofZ I r1 ty
  obtain ⟨_, its, rv, o, h1, h2, n, h3⟩ := (show ObjOk X.prog X.w H s.heap tp (.tup cs) from I.hok tp _ hT)
  have e3 := ClsV.all k rv
  subst e3
  obtain ⟨oc, od, dt, sl⟩ := o
  simp only at h2 h3
  subst h2 h3
  exact PySem.W.kia_tup Z I.kIn p h1 e hx fun tk => ⟨.bl b, H, I.tok tk, rfl, q⟩
end
end L2

set_option Elab.async false
set_option linter.all false
set_option maxRecDepth 100000
set_option maxHeartbeats 4000000
namespace PySem
namespace ExX
open PySem.W PySem.Calls PyProof.Rows
theorem refsEX_of : ∀ l : List Value, excTail exTail l = true → refsEX l = true := by
  intro l
  induction l with
  | nil => intro h; exact absurd h (by decide +kernel)
  | cons a r ih =>
    intro h
    rcases excTail_cases (bmB := exTail) (a :: r) h with ⟨c, r', e, q⟩ | e
    · cases e
      exact ih q
    · rw [e]; rfl
theorem excT_cls {K : Frag} {C : Addr} (q : excInitIn K C exTail "Exception.__new__" = true) (hd : hasDictIn K C = true) :
    ∃ nm q N bs bm sn sub ab col dd k0 k1 k2 k3 k5, K.lookup C = some (excClassObj nm q C N bs bm true sn sub ab col dd k0 k1 k2 k3 k5 "Exception.__new__") ∧ refsEX bm = true := by
  unfold excInitIn at q
  split at q
  · rename_i dd cd sl ho
    split at q
    · rename_i C' bm k0 k1 k2 k3 n k5 hm hs
      simp only [Bool.and_eq_true, beq_iff_eq, Bool.not_eq_true'] at q
      obtain ⟨⟨⟨rfl, rfl⟩, hdel⟩, ht⟩ := q
      obtain ⟨nm, bs, mro, ns, qn, hd', sn, sub, ab, col, del⟩ := cd
      dsimp only at hm hdel
      subst hm hdel
      have hsl : sl = #[k0, k1, k2, k3, some (.builtin "Exception.__new__"), k5] := by
        obtain ⟨l⟩ := sl
        simp only at hs
        rw [hs]
      subst hsl
      have e : hd' = true := by
        unfold hasDictIn at hd
        have hc : clsIn K C' = some ⟨nm, bs, .ref C' :: bm, ns, qn, hd', sn, sub, ab, col, false⟩ := by unfold clsIn; rw [ho]
        rw [hc] at hd
        simpa using hd
      subst e
      exact ⟨nm, qn, ns, bs, bm, sn, sub, ab, col, dd, k0, k1, k2, k3, k5, ho, refsEX_of _ ht⟩
    · cases q
  · cases q
end ExX
end PySem

set_option Elab.async false
set_option linter.all false
set_option maxRecDepth 100000
/-! the rules whose reading names the written part, with that part a letter of its own (within a comprehension the place's own name of it can't be found by unification) -/
namespace L2
open PySem PySem.Spec PyProof.Rows
variable {X : Cx} {K : PySem.W.Frag}
theorem ix_listK (h : X.K = K) : IxR X (rIxL K) := by subst h; exact ix_list
theorem ix_tupK (h : X.K = K) : IxR X (rIxT K) := by subst h; exact ix_tup
theorem call_tuple_ofK (h : X.K = K) : CallR X (.type "tuple") (fun xs H Q => ∃ p ys, xs = [.ref p] ∧ ((SqL K H p ys ∧ ∀ l, H l = none → Q (.ref l) (upd H l (.tup ys))) ∨ (SqT K H p ys ∧ Q (.ref p) H))) := by subst h; exact call_tuple_of
theorem call_list_ofK (h : X.K = K) : CallR X (.type "list") (fun xs H Q => ∃ p ys, xs = [.ref p] ∧ (SqL K H p ys ∨ SqT K H p ys) ∧ ∀ l, H l = none → Q (.ref l) (upd H l (.lst ys))) := by subst h; exact call_list_of
theorem call_len_seqK (h : X.K = K) : CallR X (.builtin "len") (fun xs H Q => ∃ p ys, xs = [.ref p] ∧ (SqL K H p ys ∨ SqT K H p ys) ∧ Q (.int ys.length) H) := by subst h; exact call_len_seq
theorem call_isiK' (h : X.K = K) : CallR X (.builtin "isinstance") (rIsi K) := by subst h; exact call_isi
theorem call_isiTK (h : X.K = K) : CallR X (.builtin "isinstance") (rIsiT K) := by subst h; exact call_isiT
theorem sl_listK (h : X.K = K) : SlR X (rSlL K) := by subst h; exact sl_list
theorem cr_allK (h : X.K = K) (hc : X.calm = true) : CallR X (.builtin "all") (rAll K) := by subst h; exact cr_all hc
theorem cr_anyK (h : X.K = K) (hc : X.calm = true) : CallR X (.builtin "any") (rAny K) := by subst h; exact cr_any hc
theorem cr_sumK (h : X.K = K) (hc : X.calm = true) : CallR X (.builtin "sum") (rSum K) := by subst h; exact cr_sum hc
end L2

set_option Elab.async false
set_option linter.all false
set_option maxRecDepth 100000
set_option maxHeartbeats 4000000
/-! {k}: a set display of one int; sorted of a set of ints of any size -/
namespace L2
open PySem PySem.Spec PyProof.Rows PySem.W
theorem newSet_led {P : Program} {w : World} {A : Around} {E : Value → Shared → Prop} {s : Shared} {Q : Value → Shared → Prop}
    (h : Q (.ref s.heap.objs.size) { s with heap := s.heap.push { cls := .type "set", dict := none, data := .set #[] 0 (.fresh 0 0 (!w.params.followText "set-order")) } }) :
    wpAny (model P w) A (newSet (.type "set")) Q E s := by
  unfold newSet setsByText
  refine wpAny_bind (wpAny_bind (wpAny_askSetting (wpAny_pure ?_)))
  dsimp only
  simp only [newObj]
  exact wpAny_bind (wpAny_alloc (wpAny_pure h))
def tSet1 (w : World) (te : TE) : TE := fun σ H Q => ∀ p, H p = none → te σ (upd H p (SetO w p (fun _ => false) 0)) fun x H1 => ∃ k, x = .int k ∧ H1 p = some (SetO w p (fun _ => false) 0) ∧ Q (.ref p) (upd H1 p (SetO w p (fun j => decide (j = k)) 1))
theorem kdsCode_of {K : PySem.W.Frag} {cd : Value} {q : Str} (h : PySem.W.codeIn K cd q = true) : kdsCode K cd = true := by
  unfold PySem.W.codeIn at h
  unfold kdsCode
  split at h
  · split at h
    · rename_i ho
      simp only [ho]
    · cases h
  · cases h
theorem pe_set1 {X : Cx} {e : Expr} {te : TE} {pos : Pos} (hc : kdsCode X.K X.env.code = true) (he : PE X e te) (hs : starEach [e] X.env = [(false, eval e X.env)] := by rfl) : PE X (.Set [e] 0 pos) (tSet1 X.w te) := by
  refine ⟨fun pins s σ H Q I h => ?_⟩
  rw [arm_eval_Set]
  refine wpAny_bind (wpAny_standAt ?_)
  refine wpAny_bind (kds_main I.kIn hc fun b => ?_)
  rw [hs]
  show wpAny _ _ (setDisplay .oneByOne b [(false, do let v ← eval e X.env; standAt pos; pure v)]) _ _ _
  unfold setDisplay
  try dsimp only
  rw [if_neg (by decide)]
  refine wpAny_bind (newSet_led (w := X.w) ?_)
  dsimp only
  have hn : (if ([(false, (do let v ← eval e X.env; standAt pos; pure v : Sem Value))] : List (Bool × Sem Value)).length > 30 then 0 else (([(false, (do let v ← eval e X.env; standAt pos; pure v : Sem Value))] : List (Bool × Sem Value)).findIdx? (·.1)).getD 1) = 1 := by rfl
  have hp : H s.heap.objs.size = none := I.hok.fresh (Nat.le_refl _)
  have I1 : Inv X pins σ (upd H s.heap.objs.size (SetO X.w s.heap.objs.size (fun _ => false) 0)) { s with heap := s.heap.push { cls := .type "set", dict := none, data := .set #[] 0 (.fresh 0 0 (!X.w.params.followText "set-order")) } } :=
    I.laid (t' := s.toks) (fun b u e => Heap.get?_push_of_some _ e) (Nat.le_refl _) (setO_new (setR_fresh X.w))
  have h1 := h s.heap.objs.size hp
  generalize s.heap.objs.size = a at *
  refine wpAny_bind (wpAny_holding (wpAny_bind ?_))
  show wpAny _ _ (evalAll [do let v ← eval e X.env; standAt pos; pure v]) _ _ _
  refine wpAny_evalAll_cons (wpAny_bind (thn (he.run pins _ σ _ _ I1 h1) fun u s1 ⟨x, H1, I2, r1, k, ex, hset, q⟩ => wpAny_bind (wpAny_standAt (wpAny_pure ?_))))
  refine wpAny_evalAll_nil ?_
  subst ex
  obtain ⟨tk, rfl⟩ := r1
  refine wpAny_bind (wpAny_holding ?_)
  refine wpAny_bind ?_
  rw [List.forIn_cons]
  have R := setO_get I2 hset
  refine wpAny_bind (wpAny_bind ?_)
  unfold setAdd
  refine wpAny_holding (wpAny_bind ((intKind X.prog X.w).pyHash (intKind_is X.prog X.w k tk) ?_))
  refine setR_add_hashed (s := { s1 with toks := s1.toks + 1 }) R (by decide) fun h' sb r => ?_
  refine wpAny_pure ?_
  dsimp only
  rw [List.forIn_nil]
  refine wpAny_pure ?_
  rw [if_neg (by decide)]
  refine wpAny_pure ?_
  refine wpAny_bind ?_
  generalize hl : List.drop _ [(false, (do let v ← eval e X.env; standAt pos; pure v : Sem Value))] = l
  have hl0 : l = [] := by rw [← hl]; rfl
  subst hl0
  rw [List.forIn_nil]
  refine wpAny_pure (wpAny_pure ?_)
  have he' : ∃ u, h'.get? a = some u := by
    obtain ⟨o, _, _, _, ho, _⟩ := r
    exact ⟨o, ho⟩
  have r' : SetR X.w h' a (fun j => decide (j = k)) 1 := r.congr fun j => by simp
  exact wpAny_pure ⟨.ref a, upd H1 a (SetO X.w a (fun j => decide (j = k)) 1), I2.write (e := a) (t' := s1.toks + 1) (by rw [hset]; trivial) (.inl rfl) (fun b u hb hu => (sb.2 b hb).trans hu) he' (setO_new r'), rfl, q⟩
section
variable {P : Program} {w : World} {A : Around} {E : Value → Shared → Prop} {s : Shared} {a : Addr}
theorem sorted_setN {S : Int → Bool} {n : Nat} {Q : Value → Shared → Prop} (R : SetR w s.heap a S n) (hh : A.handled = none) (hn4 : n ≤ 4096)
    (hQ : ∀ s' p (out : Array Value) (c : Nat) (ns : List Int), (∀ b o, s.heap.get? b = some o → s'.heap.get? b = some o) → s'.gens = s.gens → s'.os = s.os → s.heap.objs.size ≤ p →
      s'.heap.get? p = some (seqObj "list" out c) → IntsAre out.toList ns → ns.Pairwise (· < ·) → (∀ k, k ∈ ns ↔ S k = true) → ns.length = n → Q (.ref p) s') :
    wpAny (model P w) A (call (.builtin "sorted") [.ref a]) Q E s := by
  obtain ⟨o, es, ep, t, ho, hex, hd, g, nd, hm, hb, hf, hn, hr, hl⟩ := R
  refine Calls.call_function_entry kind_sorted plain_sorted entry_sorted (args_sorted1 _) ?_
  unfold Builtin.«sorted»
  refine wpAny_bind (m := checkCount "sorted" 1 1 _) (wpAny_pure ?_)
  refine wpAny_bind (collect_set (A := A.in1) hh ⟨o, ho, hex.1, hd⟩ hf hb hr hl fun s1 vs k1 hz g1 o1 pm => ?_)
  have hvl : vs.length = n := by rw [pm.length_eq, List.length_map, Array.length_toList]; exact hn
  have hI : IntsAre vs (vs.map Builtin.Re.reRawOf) := ints_of vs fun v hv => by
    obtain ⟨e, he, q⟩ := List.mem_map.mp (pm.mem_iff.mp hv)
    obtain ⟨k, tk, h1, _⟩ := g e he
    exact ⟨k, tk, by rw [← q]; exact h1⟩
  have pk : (vs.map Builtin.Re.reRawOf).Perm (es.toList.map keyOf) := by
    have q := pm.map Builtin.Re.reRawOf
    rw [List.map_map] at q
    exact q
  have hvz : vs.length ≤ sizeLine := by rw [hvl, sizeLine_eq]; omega
  refine wpAny_bind (wpAny_newList ?_ hvz)
  have hoL : (s1.heap.push (seqObj "list" vs.toArray 0)).get? s1.heap.objs.size = some (seqObj "list" vs.toArray 0) := Heap.get?_push_size _ rfl
  refine wpAny_bind (wpAny_holding (wpAny_call_entry slot_list_sort ⟨_, hoL, rfl⟩ entry_list_sort (SrtO.list_sort_ord SrtO.swo_int hoL hvz (fun h2 => SrtO.ints_sortable hI h2) fun out h1 h2 => ⟨.none, rfl, ?_⟩) (args_list_sort _)))
  obtain ⟨a1, a2, a3⟩ := SrtO.ints_out hI h1 h2
  obtain ⟨c, hc⟩ := sortedHeap_at (vs := vs) (out := out.toArray) hoL
  have pn : (out.map SrtO.iv).Perm (es.toList.map keyOf) := a2.trans pk
  refine wpAny_pure ⟨_, rfl, hQ _ s1.heap.objs.size out.toArray c (out.map SrtO.iv) (fun b u e => ?_) g1 o1 hz hc a1 (lt_of_le_nodup _ a3 (pn.nodup_iff.mpr nd)) (fun k => by rw [pn.mem_iff, ← hm k]) ?_⟩
  · have q := k1 b u e
    have hlt := Heap.lt_size q
    show (sortedHeap (s1.heap.push (seqObj "list" vs.toArray 0)) s1.heap.objs.size vs out.toArray).get? b = some u
    rw [sortedHeap_old (Nat.ne_of_lt hlt) (by rw [size_push']; exact Nat.lt_succ_of_lt hlt)]
    exact Heap.get?_push_of_some _ q
  · rw [pn.length_eq, List.length_map, Array.length_toList]; exact hn
end
section
variable {X : Cx}
def rSortedSetN (w : World) : List V → Hp → VK → Prop := fun vs H Q => ∃ (a : Addr) (S : Int → Bool) (n : Nat), vs = [V.ref a] ∧ H a = some (SetO w a S n) ∧ n ≤ 4096 ∧
  ∀ (ns : List Int) (p : Addr), ns.Pairwise (· < ·) → (∀ k : Int, k ∈ ns ↔ S k = true) → ns.length = n → H p = none → Q (.ref p) (upd H p (.lst (ns.map V.int)))
theorem cr_sortedSetN (hc : X.calm = true) : CallR X (.builtin "sorted") (rSortedSetN X.w) := by
  intro pins s σ H vs us Q I r h
  obtain ⟨a, S, n, rfl, ha, h64, q⟩ := h
  have R := setO_get I ha
  rw [Vals.ref1 r]
  refine sorted_setN R (I.ok.hd hc) h64 fun s' p out c ns k g o hp hg hi hs hm hl => ?_
  have hlen : (ns.map V.int).length ≤ sizeLine := by rw [List.length_map, hl, sizeLine_eq]; omega
  have hn : H p = none := I.hok.fresh hp
  have J : Inv X pins σ (upd H p (.lst (ns.map V.int))) { s with heap := s'.heap, gens := s'.gens, drawn := s'.drawn, toks := s'.toks } :=
    I.call (ch := []) (Un.laid k hp hn) (I.hok.laid k hp ⟨hlen, out.toList, c, vals_of_ints hi, hg⟩) (by rw [g]; exact I.bare) (fun _ z => nomatch z)
  have e : s' = { s with heap := s'.heap, gens := s'.gens, drawn := s'.drawn, toks := s'.toks } := by
    cases s'
    cases s
    cases o
    rfl
  rw [e]
  exact ⟨.ref p, _, J, rfl, q ns p hs hm hl hn⟩
end
/-- a def's rule that hands on what its code object is (a set's display asks it) -/
theorem Fun.okC {P : Program} {w : World} {K : PySem.W.Frag} {mg : Str → Option Value} {base : Heap} {x qual : Str} {st : Stmt} {f : Addr} {fd : FuncData} {N ps : List Str} {k : Nat} {sp : Sp} (F : Fun K x qual st f fd) (S : FnScope N ps (defScope st)) (len : ∀ vs H Q E, sp vs H Q E → vs.length = ps.length)
    (hbody : ∀ (cdv : Value) (A : Around) (outer : List Env) (s : Shared) (H : Hp) (vs : List V) (Q : VK) (E : XK), PySem.W.codeIn K cdv qual = true → Room k (A.deeper (envOfC qual (defScope st) s.heap.objs.size f cdv)) → sp vs H Q E →
      ∃ t, PSs (cxOf CX0 P w K mg base N qual (defScope st) f cdv A outer s H E).nox (defBody st) t ∧ t { nx := fun _ H' => Q .non H', rt := Q } (start N vs) H) : FnOk P w K mg base CX0 (k + 1) f fd ps sp := by
  obtain ⟨oc, od, kV, doc, pm, an, cdv, ct, osl, rfl, lk, hcd⟩ := F.ex
  refine fn_of lk hcd S len fun A outer s H vs Q E hr hsp => ?_
  obtain ⟨t, h, q⟩ := hbody cdv A outer s H vs Q E hcd hr hsp
  exact ⟨t, h.nox, q⟩
end L2

set_option Elab.async false
set_option linter.all false
set_option maxRecDepth 100000
set_option maxHeartbeats 4000000
/-! a call by keywords alone; a text times a number -/
namespace L2
open PySem PySem.Spec PyProof.Rows
theorem Fun.kbinds {K : PySem.W.Frag} {x qual : Str} {st : Stmt} {f : Addr} {fd : FuncData} {ps ks : List Str} (F : Fun K x qual st f fd) (g : {α : Type} → List α → List α)
    (h : ∀ (kV doc pm : Value) (an : Option Addr) (cdv ct : Value) (ws : List Value), ws.length = ks.length → bindArgs (PySem.W.fnOf x qual (defArgs st) (defBody st) (defScope st) .none kV doc pm an cdv ct) ⟨[], ks.zip ws⟩ = pure (ps.zip (g ws)))
    (hrel : ∀ {zs : List V} {ws : List Value}, Vals zs ws → Vals (g zs) (g ws)) : KBn K fd ps 0 ks (fun _ ws => g ws) (fun _ zs => g zs) := by
  obtain ⟨oc, od, kV, doc, pm, an, cdv, ct, osl, rfl, lk, hcd⟩ := F.ex
  refine ⟨fun s us ws _ h0 hl => ?_, fun _ r => hrel r⟩
  cases us with
  | nil => exact BindsTo.of_eq (h kV doc pm an cdv ct ws hl)
  | cons a r => cases h0
section
variable {X : Cx} {CX : CXT} {k : Nat} {f : Addr} {fd : FuncData} {ps ks : List Str} {sp : Sp} {E : XK} {x : Str} {p pos : Pos} {kws : List Keyword} {tk : TA} {g : List Value → List Value → List Value} {gV : List V → List V → List V}
theorem pe_callN0 (F : FnOk X.prog X.w X.K X.mg X.base CX k f fd ps sp) (hr : Room k X.A) (hg : Gl X x) (hm : X.mg x = some (.ref f)) (hk : PySem.W.keepIn X.K (.ref f) = true) (hb : KBn X.K fd ps 0 ks g gV) (hx : Passes CX X E)
    (hkw : PK X kws tk) (hall : (backToKw pos (keywordEach kws X.env)).all (·.1.isSome) = true := by rfl) (hks : (backToKw pos (keywordEach kws X.env)).filterMap (·.1) = ks := by rfl)
    (hdb : (x == ("__debug__" : Str)) = false := by decide)
    (hpl : ((backTo pos (starEach [] X.env)).any (·.1) || (backToKw pos (keywordEach kws X.env)).any (·.1.isNone)) = false := by rfl) :
    PE X (.Call (.Name x p) [] kws pos) (tCallN 0 ks.length sp gV E tNil tk) := by
  refine ⟨fun pins s σ H Q I h => ?_⟩
  refine wpAny_Call_Name_kw (ld_glob I hg hm ?_ hdb)
  refine PySem.W.callWith_KW0 (h₀ := X.base) I.ok.mod.kin hk hall ?_ hpl
  refine thn (hkw.run pos pins s σ H _ I h) fun ws s2 ⟨zs, H2, I2, rz, l1, l2, q2⟩ => ⟨I2.kIn, ?_⟩
  rw [hks]
  exact run_fnN (us := []) (vs := []) F hr hb hx I2 .nil rz rfl l2 q2
theorem op_mul_str : OpR X (binaryOp .Mult) (fun x y H Q => ∃ z n, x = .str z ∧ y = .int n ∧ z.length ≤ 16 ∧ -(2 ^ 63 : Int) ≤ n ∧ n ≤ 1048576 ∧ Q (.str (Txt.mul z n)) H) := by
  intro pins s σ H x y v u Q I rx ry h
  obtain ⟨z, n, rfl, rfl, h1, h2, h3, q⟩ := h
  obtain ⟨t, rfl⟩ := rx
  obtain ⟨t', rfl⟩ := ry
  exact SB.mul (mulOk_of 16 1048576 h1 h3 h2 (by decide) (by decide)) fun t' tk => ⟨.str _, H, I.tok _, ⟨_, rfl⟩, q⟩
end
end L2

set_option Elab.async false
set_option linter.all false
set_option maxRecDepth 100000
set_option maxHeartbeats 4000000
/-! d.setdefault(y, z) where the keys are tuples -/
namespace L2
open PySem PySem.Spec PyProof.Rows
section
variable {X : Cx} {pins : List (Addr × Obj)} {σ : St} {H : Hp} {s : Shared} {a b : Addr} {r : Value} {d : V} {k : List Key} {A : Around} {E : Value → Shared → Prop}
theorem d_setdT {kvs : List (List Key × V)} {Q : Value → Shared → Prop} (hu : A.units + 1 < cLine) (I : Inv X pins σ H s) (e : H a = some (.dT kvs)) (eb : H b = some (.tup (k.map kV))) (rd : RelV d r) (hl : kvs.length < sizeLine)
    (h1 : ∀ v, valV kvs k = some v → ∀ (w' : Value) (s' : Shared), Inv X pins σ H s' → RelV v w' → Q w' s') (h2 : valV kvs k = none → ∀ (w' : Value) (s' : Shared), Inv X pins σ (upd H a (.dT (putK kvs k d))) s' → RelV d w' → Q w' s') :
    wpAny (model X.prog X.w) A (call (.builtin "dict.setdefault") [.ref a, .ref b, r]) Q E s := by
  obtain ⟨z, hd, xs, rel, dd⟩ := dt_of I.hok e
  have hz : xs.length ≤ sizeLine := by rw [← Paired.length rel]; exact z
  have q := rel.val k
  refine call_setdefault_heap (hsz := hz) (tupleKind_room_in1 hu) (key_of I.hok eb) hd dd (fun p hp => ?_) fun hn h' dd' hs => ?_
  · rw [hp] at q
    cases q0 : valV kvs k with
    | none =>
      rw [q0] at q
      exact (show False from q).elim
    | some v =>
      rw [q0] at q
      exact h1 v q0 _ _ (I.tok _) q
  · rw [hn] at q
    cases q0 : valV kvs k with
    | some v =>
      rw [q0] at q
      exact (show False from q).elim
    | none =>
      have hl2 : (putK kvs k d).length ≤ sizeLine := by
        have := length_putK kvs k d
        omega
      obtain ⟨o, es, ep, hq, g2, g3, g4, _, g5⟩ := dd'
      refine h2 q0 _ _ (d_write (t' := s.toks + _) I (by rw [e]; exact True.intro) hs ⟨o, hq⟩ ⟨hl2, hd, _, (rel.put k eb rd).keeps fun c ys ec => ?_, o, es, ep, hq, g2, g3, g4, g5⟩) rd
      rw [upd_ne (ne_of ec e (fun z => nomatch z))]
      exact ec
end
/-- d.setdefault(y, z), the keys tuples -/
def tDSetdT (td ty tx : TE) : TE := fun σ H Q => td σ H fun x H1 => ∃ a, x = .ref a ∧ IsD H1 a ∧ ty σ H1 fun y H2 => tx σ H2 fun z H3 => ∃ (kvs : List (List Key × V)) (k : List Key) (b : Addr), H3 a = some (.dT kvs) ∧ y = .ref b ∧ H3 b = some (.tup (k.map kV)) ∧ kvs.length < sizeLine ∧
  (∀ v, valV kvs k = some v → Q v H3) ∧ (valV kvs k = none → Q z (upd H3 a (.dT (putK kvs k z))))
section
variable {X : Cx} {o e f : Expr} {td ty tx : TE} {apos cpos : Pos}
theorem pe_dsetdT (hu : X.A.units + 1 < cLine) (ho : PE X o td) (he : PE X e ty) (hf : PE X f tx) (m : M2 X o "setdefault" apos e f cpos) : PE X (.Call (.Attribute o "setdefault" apos) [e, f] [] cpos) (tDSetdT td ty tx) := by
  refine ⟨fun pins s σ H Q I h => ?_⟩
  refine wpAny_Call_method m.base m.few m.line PySem.F.plainAttrs_dict PySem.F.slot_dict_setdefault PySem.F.type_dict_setdefault (thn (ho.run pins s σ H _ I h) fun u s1 ⟨x, H1, I1, rx, a, ex, d, q1⟩ => ?_)
  subst ex
  obtain rfl : u = Value.ref a := rx
  obtain ⟨t1, t2, _⟩ := isD_at I1 d
  refine ⟨t1, t2, ?_⟩
  rw [m.trees]
  refine Calls.callWith_builtin rfl (Calls.evalArgs_plain (Calls.spliced_cons (thn (he.run pins s1 σ H1 _ I1 q1) fun iv s2 ⟨y, H2, I2, ry, q2⟩ =>
    Calls.spliced_cons (thn (hf.run pins s2 σ H2 _ I2 q2) fun fv s3 ⟨z, H3, I3, rz, kvs, k, b, ea, ey, eb, hl, q3, q4⟩ => Calls.spliced_nil ?_))))
  subst ey
  cases ry
  exact d_setdT hu I3 ea eb rz hl (fun v hv w' s4 I4 rw' => ⟨v, _, I4, rw', q3 v hv⟩) fun hn w' s4 I4 rw' => ⟨z, _, I4, rw', q4 hn⟩
end
end L2

set_option Elab.async false
set_option linter.all false
set_option maxRecDepth 100000
set_option maxHeartbeats 4000000
/-! zip of two texts, in a for and in a comprehension -/
namespace L2
open PySem PySem.Spec PyProof.Rows
/-- two texts at once, the signs in new pairs -/
def ItzS (x y : Str) : It :=
  ⟨fun i _ => i < min x.cps.size y.cps.size,
    fun i H v H' => ∃ T c d, v = .ref T ∧ H T = none ∧ H' = upd H T (.tup [.str ⟨#[c]⟩, .str ⟨#[d]⟩]) ∧ x.cps[i]? = some c ∧ y.cps[i]? = some d,
    fun i _ => i = min x.cps.size y.cps.size⟩
theorem turn_zipS {P : Program} {w : World} {K : PySem.W.Frag} {elts : List Expr} {kk : Nat} {tpos : Pos} {x y : Str} {t1 t2 : Tok} {z TI TO i1 i2 : Addr} (D : ZipSep2 z TI TO i1 i2 [i1] [i2]) :
    Turn P w K (.Tuple elts kk tpos) (ItzS x y) [z, TI, TO, i1, i2] z (fun i h => IsZip h z TI TO .none ∧ IsTupOf2 h TI (.ref i1) (.ref i2) ∧ (∃ x y, IsTupOf2 h TO x y) ∧ h.IsStrIter i1 (strIterType x) x t1 i ∧ h.IsStrIter i2 (strIterType y) y t2 i) where
  mem := by simp
  obj := fun i h st c hc => by
    obtain ⟨hz, hTI, ⟨x, y, hTO⟩, ⟨o1, e1, _, d1⟩, ⟨o2, e2, _, d2⟩⟩ := st
    have e' : c = z ∨ c = TI ∨ c = TO ∨ c = i1 ∨ c = i2 := by simpa using hc
    rcases e' with q | q | q | q | q
    · rw [q]; exact ⟨_, hz, fun v q => nomatch q⟩
    · rw [q]; exact ⟨_, hTI, fun v q => nomatch q⟩
    · rw [q]; exact ⟨_, hTO, fun v q => nomatch q⟩
    · rw [q]; exact ⟨o1, e1, fun v q => by rw [d1] at q; cases q⟩
    · rw [q]; exact ⟨o2, e2, fun v q => by rw [d2] at q; cases q⟩
  keep := fun i h h' st k => by
    obtain ⟨hz, hTI, ⟨x, y, hTO⟩, ⟨o1, e1, r1⟩, ⟨o2, e2, r2⟩⟩ := st
    exact ⟨k z (by simp) _ hz, k TI (by simp) _ hTI, ⟨x, y, k TO (by simp) _ hTO⟩, ⟨o1, k i1 (by simp) _ e1, r1⟩, ⟨o2, k i2 (by simp) _ e2, r2⟩⟩
  item := by
    intro X hP hw hK hc i pins s σ H E I hf st hg
    subst hP hw hK
    obtain ⟨hz, hTI, ⟨x0, y0, hTO⟩, h1, h2⟩ := st
    have hg' : i < min x.cps.size y.cps.size := hg
    have hzl : z < s.heap.objs.size := Heap.lt_size hz
    have hd := I.ok.hd hc
    refine wpAny_pyNext_zipD2_item D (Draws.text (A := X.A.in1) hd i1 x t1) (Draws.text (A := X.A.in1) hd i2 y t2) hz hTI hTO h1 h2 (by omega) (by omega) fun u u2 h' tk p1 p2 z' TO' h1' h2' hT hsz hk => ?_
    obtain ⟨c, tc, hcx, rfl⟩ := p1
    obtain ⟨d, td, hdy, rfl⟩ := p2
    refine ⟨_, rfl, wpAny_letOwnedTupleGo_zip (s := { s with heap := h', toks := tk }) z' fun h'' z'' sb => ?_⟩
    have hT2 : h''.get? s.heap.objs.size = some { cls := .type "tuple", data := .seq #[.str ⟨#[c]⟩ tc, .str ⟨#[d]⟩ td] } := (sb.2 _ (Nat.ne_of_gt hzl)).trans hT
    have new : ObjOk X.prog X.w (upd H s.heap.objs.size (.tup [.str ⟨#[c]⟩, .str ⟨#[d]⟩])) h'' s.heap.objs.size (.tup [.str ⟨#[c]⟩, .str ⟨#[d]⟩]) :=
      ⟨by show 2 ≤ sizeLine; decide, [.str ⟨#[c]⟩ tc, .str ⟨#[d]⟩ td], .cons ⟨_, rfl⟩ (.cons ⟨_, rfl⟩ .nil), ⟨_, hT2, rfl, _, rfl⟩⟩
    have I1 : Inv X pins σ (upd H s.heap.objs.size (.tup [.str ⟨#[c]⟩, .str ⟨#[d]⟩])) { s with heap := h'', toks := tk } :=
      I.turnedNew (t' := tk) (ch := [z, TI, TO, i1, i2]) (fun c o hb q => (sb.2 c (fun q' => hb (by simp [q']))).trans (hk c o (fun q' => hb (by simp [q'])) (fun q' => hb (by simp [q'])) (fun q' => hb (by simp [q'])) (fun q' => hb (by simp [q'])) q)) hf (Nat.le_refl _) new
    have nz1 : i1 ≠ z := D.zi1.symm
    have nz2 : i2 ≠ z := D.zi2.symm
    refine ⟨.ref s.heap.objs.size, _, I1, rfl, ⟨_, c, d, rfl, I.hok.fresh (Nat.le_refl _), rfl, hcx, hdy⟩, ⟨z'', ?_, ⟨_, _, (sb.2 _ D.TOz).trans TO'⟩, ?_, ?_⟩, fun c hcm => ?_⟩
    · exact (sb.2 _ D.TIz).trans (hk _ _ D.TIz D.TITO D.TIi1 D.TIi2 hTI)
    · obtain ⟨o, e, r⟩ := h1'
      exact ⟨o, (sb.2 _ nz1).trans e, r⟩
    · obtain ⟨o, e, r⟩ := h2'
      exact ⟨o, (sb.2 _ nz2).trans e, r⟩
    · have hlt : c < s.heap.objs.size := by
        have e' : c = z ∨ c = TI ∨ c = TO ∨ c = i1 ∨ c = i2 := by simpa using hcm
        rcases e' with q | q | q | q | q
        · rw [q]; exact hzl
        · rw [q]; exact Heap.lt_size hTI
        · rw [q]; exact Heap.lt_size hTO
        · rw [q]; obtain ⟨_, e1, _⟩ := h1; exact Heap.lt_size e1
        · rw [q]; obtain ⟨_, e2, _⟩ := h2; exact Heap.lt_size e2
      rw [upd_ne (Nat.ne_of_lt hlt)]
      exact (hf c hcm).1
  done := by
    intro X hP hw hK hc i pins s σ H E I hf st hg
    subst hP hw hK
    obtain ⟨hz, hTI, ⟨x0, y0, hTO⟩, h1, h2⟩ := st
    have hg' : i = min x.cps.size y.cps.size := hg
    have hd := I.ok.hd hc
    exact wpAny_pyNext_zipD2_end D (Draws.text (A := X.A.in1) hd i1 x t1) (Draws.text (A := X.A.in1) hd i2 y t2) hz hTI hTO h1 h2 (by omega) (by omega) (by omega) fun h' tk hk => ⟨rfl, I.turnedL (t' := tk) (ch := [z, TI, TO, i1, i2]) (fun c o hb q =>
      hk c o (fun q' => hb (by simp [q'])) (fun q' => hb (by simp [q'])) (fun q' => hb (by simp [q'])) (fun q' => hb (by simp [q'])) q) hf⟩
  self := fun A i s Q E st h => wpAny_pyIter_zip st.1 h
def iZipS (ta : TA) : TI := fun σ H R => ta σ H fun vs H1 => ∃ x y, vs = [.str x, .str y] ∧ R (ItzS x y) H1
theorem pi_zipS {X : Cx} {e e2 : Expr} {ta : TA} {p pos tpos : Pos} {elts : List Expr} {kk : Nat} (hg : Gl X "zip") (hm : X.mg "zip" = none) (ha : PA X [e, e2] ta)
    (hs : starEach [e, e2] X.env = (false, eval e X.env) :: starEach [e2] X.env := by rfl) (hpl : (backTo pos (starEach [e2] X.env)).any (·.1) = false := by rfl) :
    PI X (.Tuple elts kk tpos) (.Call (.Name "zip" p) [e, e2] [] pos) (iZipS ta) := by
  refine ⟨fun pins s σ H R I h => ?_⟩
  refine Call_ (ld_blt I hg hm PyProof.Rows.boot_zip (PyProof.Rows.callWith_type1 (thn (ha.run pos pins s σ H _ I h) fun us s1 ⟨vs, H1, I1, r1, q1⟩ => ?_) hs hpl))
  obtain ⟨x, y, ex, q⟩ := q1
  subst ex
  cases r1 with
  | cons r rr =>
    cases rr with
    | cons r' rr =>
      cases rr
      obtain ⟨t1, rfl⟩ := r
      obtain ⟨t2, rfl⟩ := r'
      refine zip_begins2 (begins_text x t1) (begins_text y t2) trivial trivial fun h' hz hTI hTO h1 h2 hsz hk => wpAny_pyIter_zip hz ?_
      have I2 : Inv X pins σ H1 { s1 with heap := h' } := I1.kept (t' := s1.toks) hk
      generalize hn : s1.heap.objs.size = n at hz hTI hTO h1 h2 hsz ⊢
      have D : ZipSep2 (n + 4) (n + 2) (n + 3) n (n + 1) [n] [n + 1] := by constructor <;> simp <;> omega
      refine ⟨n + 4, [n + 4, n + 2, n + 3, n, n + 1], _, _, H1, rfl, I2, turn_zipS (t1 := t1) (t2 := t2) D, ⟨hz, hTI, ⟨_, _, hTO⟩, ⟨_, h1, rfl, rfl⟩, ⟨_, h2, rfl, rfl⟩⟩, fun c hcm => ?_, q⟩
      have e' : c = n + 4 ∨ c = n + 2 ∨ c = n + 3 ∨ c = n ∨ c = n + 1 := by simpa using hcm
      have hle : s1.heap.objs.size ≤ c := by
        rw [hn]
        rcases e' with q | q | q | q | q
        · rw [q]; exact Nat.le_add_right _ _
        · rw [q]; exact Nat.le_add_right _ _
        · rw [q]; exact Nat.le_add_right _ _
        · rw [q]; exact Nat.le_refl _
        · rw [q]; exact Nat.le_add_right _ _
      exact I1.fpOk hle (I1.hok.fresh hle)
end L2

set_option Elab.async false
set_option linter.all false
set_option maxRecDepth 100000
set_option maxHeartbeats 4000000
/-! x != y of two objects of a class with an own __eq__ and no __ne__ -/
namespace HN
open PySem PySem.Spec PyProof.Rows PySem.SeqAt
section
variable {M : Model} {prog : Program} {w : World} {A : Around} {E : Value → Shared → Prop} {s : Shared} {K : PySem.W.Frag} {x C f : Addr} {ox : Obj} {od : Option Obj} {b tb : Value}
theorem ifBound_objNe {args : List Value} {Q : Option Value → Shared → Prop} (X : K.In s.heap) (I : PySem.W.InstAt s.heap x ox C od) (hs : PySem.W.findIn K (.ref C) "__ne__" = some (some (.builtin "object.__ne__")))
    (h : wpAny M A (call (.builtin "object.__ne__") (.ref x :: args)) (fun v => Q (some v)) E s) : wpAny M A (callSpecialIfBound? (.ref x) "__ne__" args) Q E s := by
  simp only [callSpecialIfBound?, bindSpecialIfBound?]
  refine wpAny_holding (wpAny_bind (wpAny_bind (wpAny_bind (I.type.here ((PySem.W.looks_findIn X hs).here ?_)))))
  refine wpAny_bind (wpAny_askSetting (wpAny_ite ?_))
  have fin : wpAny M A (call (.builtin "object.__ne__") ([.ref x] ++ args) >>= fun v => pure (some v)) Q E s := wpAny_bind (wpAny_mono h (fun v s' h' => wpAny_pure h') fun _ _ h' => h')
  split
  · exact wpAny_bind (wpAny_of_eq (F.cmp_object.ne.bind _) (wpAny_pure (by exact fin)))
  · exact wpAny_tryCatch (wpAny_bind (wpAny_of_eq (F.cmp_object.ne.bind _) (wpAny_pure (by exact fin))))
/-- what object.__ne__ does, where the class's own __eq__ says True -/
theorem entry_ne {R : Fin → Shared → Prop} (hu : A.units < cLine) (X : K.In s.heap) (I : PySem.W.InstAt s.heap x ox C od) (hs : PySem.W.findIn K (.ref C) "__eq__" = some (some (.ref f))) (hf : PySem.W.isFn K (.ref f) = true)
    (h : wpAny M A (call (.ref f) [.ref x, b]) (fun v s' => v = .bool true ∧ R (.done (.ret (.bool false))) s') E s) : wpAny M A (Builtin.«object.__ne__» ⟨[.ref x, b], []⟩) R E s := by
  unfold Builtin.«object.__ne__»
  have q : wpAny M A (callSpecialIfBound? (.ref x) "__eq__" [b]) (fun r s' => r = some (.bool true) ∧ R (.done (.ret (.bool false))) s') E s :=
    PySem.W.ifBound_K X I hs hf (wpAny_mono h (fun v s' ⟨e, z⟩ => ⟨by rw [e], z⟩) fun _ _ z => z)
  repeat (first | with_reducible refine wpAny_cRoomFor hu ?_ | with_reducible refine wpAny_bind (wpAny_mono q (fun r s' ⟨e, z⟩ => ?_) fun _ _ z => z) | wp_step)
  subst e
  refine wpAny_bind (wpAny_truthy_bool ?_)
  exact wpAny_pure z
theorem call_objNe {Q : Value → Shared → Prop} (hu : A.in1.units < cLine) (X : K.In s.heap) (I : PySem.W.InstAt s.heap x ox C od) (hm : PySem.W.mroIn K C (.type "object") = some true) (hs : PySem.W.findIn K (.ref C) "__eq__" = some (some (.ref f))) (hf : PySem.W.isFn K (.ref f) = true)
    (h : wpAny (model prog w) A.in1 (call (.ref f) [.ref x, b]) (fun v s' => v = .bool true ∧ Q (.bool false) s') E s) :
    wpAny (model prog w) A (call (.builtin "object.__ne__") [.ref x, b]) Q E s :=
  wpAny_call (codeAny_call_builtin F.cmp_object.ne.plain F.cmpEntry_ne (PySem.W.check_slot F.cmpKind_ne F.cmpSplit_ne (I.type.andThen (PySem.W.looks_mroIn X hm)) (F.cmpArgs_ne _ _) (entry_ne hu X I hs hf h)))
theorem rc_ne {L : Addr} {h₀ : Heap} {m : Str → Option Value} {Q : Value → Shared → Prop} (hu : A.units < cLine) (hu1 : A.in1.units < cLine) (F : Fr h₀ L s.heap m) (X₀ : K.In h₀) (I : PySem.W.InstAt s.heap x ox C od) (hb : PySem.W.Looks (model prog w) s.heap (typeOf b) tb) (hn : PySem.W.notFirst K C tb = true)
    (hm : PySem.W.mroIn K C (.type "object") = some true) (hne : PySem.W.findIn K (.ref C) "__ne__" = some (some (.builtin "object.__ne__"))) (hs : PySem.W.findIn K (.ref C) "__eq__" = some (some (.ref f))) (hf : PySem.W.isFn K (.ref f) = true)
    (h : wpAny (model prog w) A.in1 (call (.ref f) [.ref x, b]) (fun v s' => v = .bool true ∧ Q (.bool false) s') E s) : wpAny (model prog w) A (richCompare .NotEq (.ref x) b) Q E s := by
  have X := X₀.keeps F.keep
  have one : wpAny (model prog w) A (tryCompare (.ref x) (cmpInfo .NotEq).2.1 b) (fun r s' => ∃ v, r = some v ∧ Q v s') E s := by
    unfold tryCompare
    refine wpAny_bind (ifBound_objNe X I hne (call_objNe hu1 X I hm hs hf (wpAny_mono h (fun v s' hv => ?_) fun _ _ e => e)))
    exact ⟨hv.1, wpAny_pure ⟨_, rfl, hv.2⟩⟩
  unfold richCompare
  simp only [oneThing_ref]
  refine wpAny_holding (wpAny_bind (wpAny_cRoomFor hu ?_))
  refine wpAny_bind (I.type.here (wpAny_bind (hb.here ?_)))
  split
  · rename_i q
    have e : PySem.W.subIn K tb (.ref C) = some false := by
      rcases Bool.or_eq_true_iff.mp hn with e | e
      · rw [beq_iff_eq.mp e] at q; simp at q
      · exact beq_iff_eq.mp e
    refine wpAny_bind ((PySem.W.looks_subIn X e).here ?_)
    simp only [Bool.false_eq_true, if_false]
    refine wpAny_bind (wpAny_mono one (fun r s' z => ?_) fun _ _ e => e)
    obtain ⟨v, rfl, hq⟩ := z
    exact wpAny_pure hq
  · refine wpAny_bind (wpAny_pure ?_)
    simp only [Bool.false_eq_true, if_false]
    refine wpAny_bind (wpAny_mono one (fun r s' z => ?_) fun _ _ e => e)
    obtain ⟨v, rfl, hq⟩ := z
    exact wpAny_pure hq
end
end HN
namespace L2
open PySem PySem.Spec PyProof.Rows
section
variable {X : Cx} {n : Nat}
def rNeG (D : Eqv) : R2 := fun x y H Q => D x y H ∧ ∀ H', Ext H H' → Q (.bl false) H'
/-- x != y, two objects of the class at C, equal by its own __eq__ -/
theorem op_neG {CX : CXT} {C f : Addr} {fd : FuncData} {ps : List Str} {R : Addr → Addr → Hp → Prop} {E : XK} (F : FnOk X.prog X.w X.K X.mg X.base CX n f fd ps (spEq R))
    (hs : PySem.W.findIn X.K (.ref C) "__eq__" = some (some (.ref f))) (hf : PySem.W.isFn X.K (.ref f) = true) (hne : PySem.W.findIn X.K (.ref C) "__ne__" = some (some (.builtin "object.__ne__"))) (hm : PySem.W.mroIn X.K C (.type "object") = some true)
    (hb : Binds X.K fd ps []) (hx : Passes CX X E) (hr : Room (n + 1) X.A) : OpR X (compareOp .NotEq) (rNeG (DIns C R)) := by
  intro pins s σ H x y u v Q I rx ry hq
  obtain ⟨⟨a, b, dx, dy, fs, gs, rfl, rfl, ha, hb', hr'⟩, q⟩ := hq
  cases rx
  cases ry
  have sb : Sub X n X.A.in1 := Sub.in1 ⟨hr, rfl⟩
  obtain ⟨mA, J, _⟩ := ins_get I.hok ha
  obtain ⟨mB, J', _⟩ := ins_get I.hok hb'
  obtain ⟨od, J, _⟩ := J.look
  obtain ⟨od', J', _⟩ := J'.look
  obtain ⟨m, hF⟩ := I.fr
  show wpAny (model X.prog X.w) X.A (richCompare .NotEq (.ref a) (.ref b)) (EP X pins σ Q) X.xe s
  refine HN.rc_ne (tb := .ref C) hr.units0 sb.room.units0 hF I.ok.mod.kin J J'.type (by simp [PySem.W.notFirst]) hm hne hs hf ?_
  have hsp : spEq R [.ref a, .ref b] H (fun v H' => v = .bl true ∧ Ext H H') E := ⟨a, b, rfl, hr', fun H' e => ⟨rfl, e⟩⟩
  have e0 : Env0 X.prog X.w X.K X.mg X.base X.A.in1 X.stack s H := by
    have e := I.env0
    exact ⟨by rw [sb.fr]; exact e.frames, e.mod, e.bs, e.bsz, e.funs, e.frf, e.hok, e.bare⟩
  have hl := F.len _ _ _ _ hsp
  have r2 : Vals [V.ref a, V.ref b] [Value.ref a, Value.ref b] := .cons rfl (.cons rfl .nil)
  refine wpAny_call (codeAny_mono (F.run X.A.in1 X.stack s H ⟨[.ref a, .ref b], []⟩ [.ref a, .ref b] [.ref a, .ref b] _ E sb.room e0 (by
    have := hb s [.ref a, .ref b] I.kIn (by simpa using hl)
    simpa using this) r2 hsp) fun r s' hq => ?_)
  cases r with
  | error e => exact hx pins σ H s e s' I hq
  | ok fl =>
    cases fl with
    | ret w =>
      obtain ⟨z, H', I', rz, ez, ex⟩ := I.after hq
      subst ez
      cases rz
      exact ⟨rfl, .bl false, H', I', rfl, q H' ex⟩
    | next => exact False.elim hq
    | brk => exact False.elim hq
    | cont => exact False.elim hq
end
end L2


set_option Elab.async false
set_option linter.all false
set_option maxRecDepth 100000
set_option maxHeartbeats 4000000
/-! sorted of lists of tuples of ints and texts, and of texts, of any length: one total order -/
namespace SrtC
open PySem PySem.Spec PyProof.Rows Srt SrtO L2
/-! ### the order of texts and cells -/
def sLt (x y : Str) : Bool := decide (x.cps.toList < y.cps.toList)
theorem str_ext {x y : Str} (h : x.cps.toList = y.cps.toList) : x = y := by
  cases x; cases y
  exact congrArg _ (Array.toList_inj.mp h)
theorem sLt_irr (x : Str) : sLt x x = false := decide_eq_false (List.lt_irrefl _)
theorem sLt_trans {x y z : Str} (h1 : sLt x y = true) (h2 : sLt y z = true) : sLt x z = true :=
  decide_eq_true (List.lt_trans (of_decide_eq_true h1) (of_decide_eq_true h2))
theorem sLt_tri {x y : Str} (h1 : sLt x y = false) (h2 : sLt y x = false) : x = y := by
  have a := List.not_lt.mp (of_decide_eq_false h1)
  have b := List.not_lt.mp (of_decide_eq_false h2)
  exact str_ext (List.le_antisymm b a)
def cLt : Key → Key → Bool
  | .inl a, .inl b => decide (a < b)
  | .inl _, .inr _ => true
  | .inr _, .inl _ => false
  | .inr x, .inr y => sLt x y
theorem cLt_irr (x : Key) : cLt x x = false := by
  cases x with
  | inl a => exact decide_eq_false (Int.lt_irrefl a)
  | inr x => exact sLt_irr x
theorem cLt_trans {x y z : Key} (h1 : cLt x y = true) (h2 : cLt y z = true) : cLt x z = true := by
  cases x with
  | inl a =>
    cases z with
    | inr c => rfl
    | inl c =>
      cases y with
      | inl b => exact decide_eq_true (Int.lt_trans (of_decide_eq_true h1) (of_decide_eq_true h2))
      | inr b => cases h2
  | inr a =>
    cases y with
    | inl b => cases h1
    | inr b =>
      cases z with
      | inl c => cases h2
      | inr c => exact sLt_trans h1 h2
theorem cLt_tri {x y : Key} (h1 : cLt x y = false) (h2 : cLt y x = false) : x = y := by
  cases x with
  | inl a =>
    cases y with
    | inl b =>
      have p : ¬ a < b := of_decide_eq_false h1
      have q : ¬ b < a := of_decide_eq_false h2
      exact congrArg _ (by omega)
    | inr b => cases h1
  | inr a =>
    cases y with
    | inl b => cases h2
    | inr b => exact congrArg _ (sLt_tri h1 h2)
def lexC : List Key → List Key → Bool
  | [], [] => false
  | [], _ :: _ => true
  | _ :: _, [] => false
  | x :: xs, y :: ys => if x = y then lexC xs ys else cLt x y
theorem lexC_irr : ∀ x : List Key, lexC x x = false
  | [] => rfl
  | x :: xs => by
    show (if x = x then lexC xs xs else cLt x x) = false
    rw [if_pos rfl]
    exact lexC_irr xs
theorem lexC_trans : ∀ {x y z : List Key}, lexC x y = true → lexC y z = true → lexC x z = true
  | [], [], [], h1, _ => nomatch h1
  | [], _ :: _, [], _, h2 => nomatch h2
  | [], _, _ :: _, _, _ => rfl
  | _ :: _, [], _, h1, _ => by cases h1
  | _ :: _, _ :: _, [], _, h2 => by cases h2
  | x :: xs, y :: ys, z :: zs, h1, h2 => by
    have e1 : (if x = y then lexC xs ys else cLt x y) = true := h1
    have e2 : (if y = z then lexC ys zs else cLt y z) = true := h2
    show (if x = z then lexC xs zs else cLt x z) = true
    by_cases a : x = y
    · subst a
      rw [if_pos rfl] at e1
      by_cases b : x = z
      · rw [if_pos b] at e2 ⊢
        exact lexC_trans e1 e2
      · rw [if_neg b] at e2 ⊢
        exact e2
    · rw [if_neg a] at e1
      by_cases b : y = z
      · subst b
        rw [if_neg a]
        exact e1
      · rw [if_neg b] at e2
        have t := cLt_trans e1 e2
        have n : ¬ x = z := fun q => by
          subst q
          rw [cLt_irr] at t
          cases t
        rw [if_neg n]
        exact t
theorem lexC_tri : ∀ {x y : List Key}, lexC x y = false → lexC y x = false → x = y
  | [], [], _, _ => rfl
  | [], _ :: _, h1, _ => by cases h1
  | _ :: _, [], _, h2 => by cases h2
  | x :: xs, y :: ys, h1, h2 => by
    have e1 : (if x = y then lexC xs ys else cLt x y) = false := h1
    have e2 : (if y = x then lexC ys xs else cLt y x) = false := h2
    by_cases a : x = y
    · subst a
      rw [if_pos rfl] at e1 e2
      rw [lexC_tri e1 e2]
    · rw [if_neg a] at e1
      rw [if_neg (fun q => a q.symm)] at e2
      exact absurd (cLt_tri e1 e2) a
/-- an order with these three is a strict weak one -/
theorem swo_of {α : Type} {lt : α → α → Bool} (irr : ∀ x, lt x x = false) (tr : ∀ x y z, lt x y = true → lt y z = true → lt x z = true) (tri : ∀ x y, lt x y = false → lt y x = false → lt x = lt y) : Swo lt := by
  have asym : ∀ x y, lt x y = true → lt y x = false := fun x y h => by
    rcases bcase (lt y x) with q | q
    · have t := tr _ _ _ h q
      rw [irr] at t
      cases t
    · exact q
  refine ⟨asym, fun x y z h1 h2 => ?_⟩
  rcases bcase (lt z x) with q | q
  · rcases bcase (lt x y) with p | p
    · have t := tr _ _ _ q p
      rw [h2] at t
      cases t
    · have e := tri _ _ p h1
      rcases bcase (lt y z) with r | r
      · have t := tr _ _ _ r q
        rw [h1] at t
        cases t
      · have e2 := tri _ _ h2 r
        have e3 : lt z x = lt y x := congrFun e2 x
        rw [q, h1] at e3
        cases e3
  · exact q
theorem swo_lexC {α : Type} (k : α → List Key) : Swo fun u v : α => lexC (k u) (k v) :=
  swo_of (fun x => lexC_irr _) (fun x y z h1 h2 => lexC_trans h1 h2) (fun x y h1 h2 => by
    have e := lexC_tri h1 h2
    funext z
    show lexC (k x) (k z) = lexC (k y) (k z)
    rw [e])
/-- the same things in a row that ascends stand in one way -/
theorem srtd_uniq {α : Type} {lt : α → α → Bool} (tri : ∀ x y, lt x y = false → lt y x = false → x = y) {l m : List α} (h1 : Srtd lt l) (h2 : Srtd lt m) (p : l.Perm m) : l = m :=
  List.Perm.eq_of_pairwise (fun a b _ _ h h' => tri a b h' h) h1 h2 p

/-! ### tuples of cells compare as lexC says -/
section
variable {prog : Program} {w : World} {A : Around} {E : Value → Shared → Prop} {s : Shared}
theorem one_int {b : Bool} {x y : Int} {t u : Tok} {Q : Bool → Shared → Prop} (h : Q (decide (x < y)) s) : wpAny (model prog w) A (oneLt' b (.int x t) (.int y u)) Q E s := by
  cases b with
  | true => exact oneLt_int h
  | false => exact PySem.W.kat_one _ _ (PyProof.Rows.lt_int h)
theorem one_str {b : Bool} {x y : Str} {t u : Tok} {Q : Bool → Shared → Prop} (h : Q (sLt x y) s) : wpAny (model prog w) A (oneLt' b (.str x t) (.str y u)) Q E s := by
  cases b with
  | true => exact oneLt_str h
  | false => exact PySem.W.kat_one _ _ (PyProof.Rows.lt_str h)
theorem lex_same (x : Key) (xs ys : List Key) : lexC (x :: xs) (x :: ys) = lexC xs ys := if_pos rfl
theorem lex_diff {x y : Key} (h : ¬ x = y) (xs ys : List Key) : lexC (x :: xs) (y :: ys) = cLt x y := if_neg h
theorem lex_go : ∀ (cs ds : List Key) (xs ys : List Value) (i : Nat) (r0 : Bool), Vals (cs.map kV) xs → Vals (ds.map kV) ys → cs.map Sum.isLeft = ds.map Sum.isLeft → r0 = lexC cs ds →
    PySem.W.KatLex prog w A true false (fun r s' => s' = s ∧ r = r0) (xs.zip ys) i s
  | [], [], _, _, i, r0, .nil, .nil, _, hr => PySem.W.kat_nil ⟨rfl, hr.symm⟩
  | [], _ :: _, _, _, _, _, _, _, hs, _ => by cases hs
  | _ :: _, [], _, _, _, _, _, _, hs, _ => by cases hs
  | .inl a :: cs, .inl b :: ds, x :: xs, y :: ys, i, r0, .cons rx tx, .cons ry ty, hs, hr => by
    obtain ⟨t, rfl⟩ := rx
    obtain ⟨u, rfl⟩ := ry
    have hs' : cs.map Sum.isLeft = ds.map Sum.isLeft := by simpa using hs
    refine PySem.W.kat_cons (SeqAt.EqAt.int_int a t b u prog w _ _ (PySem.W.kat_go (fun e => PySem.W.kat_yes ?_) (fun e => PySem.W.kat_no (one_int ⟨rfl, ?_⟩))))
    · have e : a = b := by simpa using e
      subst e
      exact lex_go cs ds xs ys (i + 1) r0 tx ty hs' (by rw [hr, lex_same])
    · have e : ¬ a = b := by simpa using e
      rw [hr, lex_diff (fun q => e (Sum.inl.inj q))]
      rfl
  | .inr a :: cs, .inr b :: ds, x :: xs, y :: ys, i, r0, .cons rx tx, .cons ry ty, hs, hr => by
    obtain ⟨t, rfl⟩ := rx
    obtain ⟨u, rfl⟩ := ry
    have hs' : cs.map Sum.isLeft = ds.map Sum.isLeft := by simpa using hs
    refine PySem.W.kat_cons (SeqAt.EqAt.str_str a t b u prog w _ _ (PySem.W.kat_go (fun e => PySem.W.kat_yes ?_) (fun e => PySem.W.kat_no (one_str ⟨rfl, ?_⟩))))
    · have e : a = b := by simpa using e
      subst e
      exact lex_go cs ds xs ys (i + 1) r0 tx ty hs' (by rw [hr, lex_same])
    · have e : ¬ a = b := by simpa using e
      rw [hr, lex_diff (fun q => e (Sum.inr.inj q))]
      rfl
  | .inl a :: cs, .inr b :: ds, _, _, _, _, _, _, hs, _ => by simp at hs
  | .inr a :: cs, .inl b :: ds, _, _, _, _, _, _, hs, _ => by simp at hs
/-- v is a tuple of these cells -/
def IsC (h : Heap) (v : Value) (cs : List Key) : Prop := ∃ a its, v = .ref a ∧ Vals (cs.map kV) its ∧ IsTup h a its.toArray
theorem IsC.keeps {h h' : Heap} {v : Value} {cs : List Key} (x : IsC h v cs) (k : ∀ b o, h.get? b = some o → o.cls = .type "tuple" → h'.get? b = some o) : IsC h' v cs := by
  obtain ⟨a, its, e, r, o, ho, hc, hd⟩ := x
  exact ⟨a, its, e, r, o, k _ _ ho hc, hc, hd⟩
theorem cells_cmp {vs : List Value} {k : Value → List Key} {S : List Bool} (hp : ∀ v ∈ vs, IsC s.heap v (k v) ∧ (k v).map Sum.isLeft = S) : Cmp prog w A s (tuples' true) (fun p => p.1 ∈ vs) (lt2 fun v u => lexC (k v) (k u)) := by
  intro p q hm hm'
  obtain ⟨⟨a, its, e, r, o, ho, hc, n, hd⟩, h1⟩ := hp _ hm
  obtain ⟨⟨a', its', e', r', o', ho', hc', n', hd'⟩, h2⟩ := hp _ hm'
  show wpAny (model prog w) A (keyLt' (tuples' true) p.1 q.1) (fun r s' => s' = s ∧ r = lexC (k p.1) (k q.1)) (fun _ _ => False) s
  have el : its.length = its'.length := by
    have q1 := congrArg List.length (h1.trans h2.symm)
    rw [List.length_map, List.length_map] at q1
    have q2 := r.length
    have q3 := r'.length
    rw [List.length_map] at q2 q3
    omega
  generalize k p.1 = cs at *
  generalize k q.1 = ds at *
  rw [e, e']
  refine PySem.W.kat_lt ho hd ho' hd' ?_
  have ed : decide (its.toArray.size < its'.toArray.size) = false := decide_eq_false (by simp [el])
  rw [ed]
  exact lex_go cs ds its its' 0 _ r r' (h1.trans h2.symm) rfl
theorem firstsC {h : Heap} {k : Value → List Key} {b : Bool} {S : List Bool} : ∀ {vs : List Value}, (∀ v ∈ vs, IsC h v (k v) ∧ (k v).map Sum.isLeft = b :: S) → ∃ fs : List Value, PySem.W.KatTups h vs fs ∧ fs.length = vs.length ∧
    ∀ f ∈ fs, (b = true ∧ ∃ x t, f = Value.int x t) ∨ (b = false ∧ ∃ x t, f = Value.str x t)
  | [], _ => ⟨[], PySem.W.KatTups.nil, rfl, fun _ hm => by simp at hm⟩
  | v :: vs, hp => by
    obtain ⟨fs, h1, h2, h3⟩ := firstsC (vs := vs) fun v' hm => hp v' (List.mem_cons_of_mem _ hm)
    obtain ⟨⟨a, its, e, r, o, ho, hc, n, hd⟩, hs⟩ := hp v (List.mem_cons_self ..)
    subst e
    generalize k (.ref a) = cs at *
    cases cs with
    | nil => cases hs
    | cons c cs =>
      match its, r with
      | u :: us, .cons rx tx =>
        refine ⟨u :: fs, PySem.W.KatTups.cons ho hc hd rfl h1, by rw [List.length_cons, List.length_cons, h2], fun f hm => ?_⟩
        rcases List.mem_cons.mp hm with rfl | hm
        · have hb : Sum.isLeft c = b := by
            have := congrArg List.head? hs
            simpa using this
          cases c with
          | inl x =>
            obtain ⟨t, rfl⟩ := rx
            exact .inl ⟨hb.symm, x, t, rfl⟩
          | inr x =>
            obtain ⟨t, rfl⟩ := rx
            exact .inr ⟨hb.symm, x, t, rfl⟩
        · exact h3 f hm
theorem cells_sortable {a : Addr} {vs : List Value} {k : Value → List Key} {b : Bool} {S : List Bool} (h0 : 0 < vs.length) (hp : ∀ v ∈ vs, IsC s.heap v (k v) ∧ (k v).map Sum.isLeft = b :: S) (ha : ∀ o, s.heap.get? a = some o → o.cls ≠ .type "tuple") :
    SortableO prog w A s a vs fun v u => lexC (k v) (k u) := by
  intro h' keep
  have hp' : ∀ v ∈ vs, IsC h' v (k v) ∧ (k v).map Sum.isLeft = b :: S := fun v hm => ⟨(hp v hm).1.keeps fun b o e c => keep b o (fun z => by subst z; exact ha o e c) e, (hp v hm).2⟩
  obtain ⟨fs, h1, h2, h3⟩ := firstsC hp'
  refine ⟨tuples' true, fun Q E hq => ?_, cells_cmp hp'⟩
  cases b with
  | true =>
    refine PySem.W.kat_kind (T := .type "int") h1 (by omega) (fun f hm => ?_) (by rfl) ?_
    · rcases h3 f hm with ⟨_, x, t, rfl⟩ | ⟨z, _⟩
      · exact PySem.W.Looks.now
      · cases z
    · have e : (Value.type "int" != Value.type "tuple") = true := by first | decide +kernel | rfl | decide
      rw [e]
      exact hq
  | false =>
    refine PySem.W.kat_kind (T := .type "str") h1 (by omega) (fun f hm => ?_) (by rfl) ?_
    · rcases h3 f hm with ⟨z, _⟩ | ⟨_, x, t, rfl⟩
      · cases z
      · exact PySem.W.Looks.now
    · have e : (Value.type "str" != Value.type "tuple") = true := by first | decide +kernel | rfl | decide
      rw [e]
      exact hq
theorem sorted_cells {l : Addr} {vs : List Value} {k : Value → List Key} {b : Bool} {S : List Bool} {Q : Value → Shared → Prop} (hl : s.heap.IsList l vs.toArray) (hz : vs.length ≤ sizeLine) (hp : ∀ v ∈ vs, IsC s.heap v (k v) ∧ (k v).map Sum.isLeft = b :: S)
    (h : ∀ (h' : Heap) (d : Addr) (out : List Value), Srtd (fun v u => lexC (k v) (k u)) out → Stb (fun v u => lexC (k v) (k u)) out vs → (∀ b o, s.heap.get? b = some o → h'.get? b = some o) → s.heap.objs.size ≤ d → (∃ n, h'.get? d = some (seqObj "list" out.toArray n)) → Q (.ref d) { s with heap := h' }) :
    wpAny (model prog w) A (call (.builtin "sorted") [.ref l]) Q E s := by
  refine sorted_ord (swo_lexC k) hl hz (fun h2 h₁ a ha kk => ?_) fun out hs hb => ?_
  · refine cells_sortable (s := { s with heap := h₁ }) (by omega) (fun v hm => ⟨(hp v hm).1.keeps fun b o e _ => (kk b o e).2, (hp v hm).2⟩) fun o e => ?_
    obtain rfl : o = seqObj "list" vs.toArray 0 := Option.some.inj (e.symm.trans ha)
    intro c
    exact absurd (Value.type.inj c) (by decide)
  · exact h _ _ out hs hb (fun b o e => sortedAll_old e) (Nat.le_succ _) (sortedAll_at s.heap vs out.toArray)
/-! ### texts -/
def tv : Value → Str
  | .str x _ => x
  | _ => Str.empty
def ltTv (v u : Value) : Bool := sLt (tv v) (tv u)
theorem swo_tv : Swo ltTv := swo_of (fun x => sLt_irr _) (fun x y z h1 h2 => sLt_trans h1 h2) (fun x y h1 h2 => by
    have e := sLt_tri h1 h2
    funext z
    show sLt (tv x) (tv z) = sLt (tv y) (tv z)
    rw [e])
theorem strs_mem : ∀ {vs : List Value} {ss : List Str}, StrsAre vs ss → ∀ v ∈ vs, ∃ x t, v = Value.str x t
  | _, _, .nil, v, h => absurd h (by simp)
  | _, _, .cons x t r, v, h => by
    rcases List.mem_cons.mp h with e | h
    · exact ⟨x, t, e⟩
    · exact strs_mem r v h
theorem strs_tv : ∀ {vs : List Value}, (∀ v ∈ vs, ∃ x t, v = Value.str x t) → StrsAre vs (vs.map tv)
  | [], _ => .nil
  | v :: vs, h => by
    obtain ⟨x, t, e⟩ := h v List.mem_cons_self
    subst e
    exact .cons x t (strs_tv fun u hu => h u (List.mem_cons_of_mem _ hu))
theorem tv_strs : ∀ {vs : List Value} {ss : List Str}, StrsAre vs ss → vs.map tv = ss
  | _, _, .nil => rfl
  | _, _, .cons x t r => congrArg (x :: ·) (tv_strs r)
theorem str_cmp {vs : List Value} {ss : List Str} (hI : StrsAre vs ss) : Cmp prog w A s oneType' (fun p => p.1 ∈ vs) (lt2 ltTv) := by
  intro p q hm hm'
  obtain ⟨a, t, e⟩ := strs_mem hI _ hm
  obtain ⟨b, u, e'⟩ := strs_mem hI _ hm'
  show wpAny (model prog w) A (keyLt' oneType' p.1 q.1) (fun r s' => s' = s ∧ r = ltTv p.1 q.1) (fun _ _ => False) s
  rw [e, e', keyLt'_oneType]
  exact oneLt_str ⟨rfl, rfl⟩
theorem strs_sortable {a : Addr} {vs : List Value} {ss : List Str} (hI : StrsAre vs ss) (h2 : 2 ≤ vs.length) : SortableO prog w A s a vs ltTv := by
  intro h' _
  refine ⟨oneType', fun Q E hq => ?_, str_cmp hI⟩
  match vs, hI, h2 with
  | v1 :: v2 :: rest, hI, _ =>
    rw [keyKind_strs hI]
    exact wpAny_pure hq
  | [], _, h => exact absurd h (by decide)
  | [v], _, h => exact absurd h (by simp)
/-- ascending texts -/
def Asc (ss : List Str) : Prop := ss.Pairwise fun x y => sLt y x = false
theorem strs_out {vs out : List Value} {ss : List Str} (hI : StrsAre vs ss) (hs : Srtd ltTv out) (hb : Stb ltTv out vs) : StrsAre out (out.map tv) ∧ (out.map tv).Perm ss ∧ Asc (out.map tv) := by
  refine ⟨strs_tv fun v hv => strs_mem hI v (hb.perm.mem_iff.mp hv), ?_, ?_⟩
  · have q := hb.perm.map tv
    rw [tv_strs hI] at q
    exact q
  · exact List.pairwise_map.mpr hs
end
end SrtC
namespace L2
open PySem PySem.Spec PyProof.Rows
section
variable {X : Cx}
/-- sorted(xs), xs a list of tuples of ints and texts that stand in the same columns (k says which): a new list, ascending -/
def rSortedC (K : PySem.W.Frag) : List V → Hp → VK → Prop := fun vs H Q => ∃ (a : Addr) (xs : List V) (k : V → List Key) (b : Bool) (S : List Bool), vs = [V.ref a] ∧ SqL K H a xs ∧ (∀ x ∈ xs, ∃ t, x = V.ref t ∧ SqT K H t ((k x).map kV) ∧ (k x).map Sum.isLeft = b :: S) ∧
  ∀ ys p, SrtO.Srtd (fun x y => SrtC.lexC (k x) (k y)) ys → ys.Perm xs → H p = none → Q (.ref p) (upd H p (.lst ys))
theorem cr_sortedC : CallR X (.builtin "sorted") (rSortedC X.K) := by
  intro pins s σ H vs us Q I r h
  obtain ⟨a, xs, k, b, S, rfl, hs, hx, q⟩ := h
  obtain ⟨its, rv, hl, hz⟩ := I.list hs
  obtain ⟨u, rfl, ru⟩ := vals1 r
  obtain rfl : u = Value.ref a := ru
  obtain ⟨e1, e2⟩ := refs_back rv fun x m => by
    obtain ⟨t, e, _⟩ := hx x m
    exact ⟨t, e⟩
  refine SrtC.sorted_cells (k := fun u => k (backV u)) (b := b) (S := S) hl.isList (by rw [← rv.length]; exact hz) (fun v hv => ?_) fun h' d out h1 h2 kp hd hn => ?_
  · obtain ⟨t, rfl⟩ := e2 v hv
    have hm : V.ref t ∈ xs := by rw [e1]; exact List.mem_map.mpr ⟨_, hv, rfl⟩
    obtain ⟨t', e, ht, hS⟩ := hx _ hm
    cases e
    obtain ⟨its2, r2, hT, _⟩ := I.tuple ht
    exact ⟨⟨t, its2, rfl, r2, hT⟩, hS⟩
  · have h3 : ∀ u ∈ out, ∃ a, u = Value.ref a := fun u hu => e2 u (h2.perm.mem_iff.mp hu)
    obtain ⟨n, hn⟩ := hn
    have hb : (out.map backV).Perm xs := by
      rw [e1]
      exact h2.perm.map backV
    refine ⟨.ref d, upd H d (.lst (out.map backV)), I.laid (t' := s.toks) kp hd ⟨?_, out, n, vals_back h3, hn⟩, rfl, q _ d (List.pairwise_map.mpr h1) hb (I.hok.fresh hd)⟩
    rw [hb.length_eq]
    exact hz
/-- sorted(xs), xs a list of texts of any length -/
def rSortedTx (K : PySem.W.Frag) : List V → Hp → VK → Prop := fun vs H Q => ∃ (a : Addr) (ss : List Str), vs = [V.ref a] ∧ SqL K H a (ss.map V.str) ∧
  ∀ (ys : List Str) (p : Addr), SrtC.Asc ys → ys.Perm ss → H p = none → Q (.ref p) (upd H p (.lst (ys.map V.str)))
theorem strs_of_vals' : ∀ {ss : List Str} {us : List Value}, Vals (ss.map V.str) us → StrsAre us ss
  | [], _, .nil => .nil
  | x :: ss, _, .cons ⟨t, e⟩ r => by
    subst e
    exact .cons x t (strs_of_vals' r)
theorem cr_sortedTx : CallR X (.builtin "sorted") (rSortedTx X.K) := by
  intro pins s σ H vs us Q I r h
  obtain ⟨a, ss, rfl, hs, q⟩ := h
  obtain ⟨its, rv, hl, hz⟩ := I.list hs
  obtain ⟨u, rfl, ru⟩ := vals1 r
  obtain rfl : u = Value.ref a := ru
  have hI := strs_of_vals' rv
  have hz' : its.length ≤ sizeLine := by rw [← rv.length]; exact hz
  refine SrtO.sorted_ord SrtC.swo_tv hl.isList hz' (fun h2 h₁ a ha kk => SrtC.strs_sortable hI h2) fun out h1 h2 => ?_
  obtain ⟨a1, a2, a3⟩ := SrtC.strs_out hI h1 h2
  obtain ⟨ep, he'⟩ := sortedAll_at s.heap its out.toArray
  have hlen : ((out.map SrtC.tv).map V.str).length ≤ sizeLine := by
    rw [List.length_map, a2.length_eq, ← List.length_map (f := V.str)]
    exact hz
  exact ⟨.ref _, upd H (s.heap.objs.size + 1) (.lst ((out.map SrtC.tv).map V.str)), I.laid (t' := s.toks) (fun _ _ => sortedAll_old) (Nat.le_succ _) ⟨hlen, out, ep, vals_of_strs a1, he'⟩, rfl, q _ _ a3 a2 (I.hok.fresh (Nat.le_succ _))⟩
end
end L2

set_option Elab.async false
set_option linter.all false
set_option maxRecDepth 100000
set_option maxHeartbeats 4000000
/-! sorted(a dict whose keys are tuples of ints and texts): its keys, ascending -/
namespace L2
open PySem PySem.Spec PyProof.Rows
def vK : V → Key
  | .int i => .inl i
  | .str x => .inr x
  | _ => .inl 0
theorem vK_kV : ∀ ks : List Key, (ks.map kV).map vK = ks
  | [] => rfl
  | .inl i :: r => by
    show vK (.int i) :: (r.map kV).map vK = _
    rw [vK_kV r]; rfl
  | .inr x :: r => by
    show vK (.str x) :: (r.map kV).map vK = _
    rw [vK_kV r]; rfl
/-- the cells of the tuple at t -/
def keyA (H : Hp) (t : Addr) : List Key := match H t with
  | some (.tup xs) => xs.map vK
  | _ => []
theorem keyA_of {H : Hp} {t : Addr} {k : List Key} (h : H t = some (.tup (k.map kV))) : keyA H t = k := by
  unfold keyA
  rw [h]
  exact vK_kV k
def keyU (H : Hp) : Value → List Key
  | .ref t => keyA H t
  | _ => []
theorem paired_map {H : Hp} : ∀ cs : List Addr, (∀ c ∈ cs, H c = some (.tup ((keyA H c).map kV))) → Paired (fun (k : List Key) c => H c = some (.tup (k.map kV))) (cs.map (keyA H)) cs
  | [], _ => .nil
  | c :: r, h => .cons (h c (by simp)) (paired_map r fun d hd => h d (List.mem_cons_of_mem _ hd))
theorem isKeys_keyA {H : Hp} {kvs : List (List Key × V)} {bs : List Addr} (h : IsKeys H kvs bs) : bs.map (keyA H) = kvs.map (·.1) ∧ (∀ c ∈ bs, H c = some (.tup ((keyA H c).map kV))) ∧ (∀ c ∈ bs, ∃ p ∈ kvs, keyA H c = p.1) := by
  unfold IsKeys at h
  induction h with
  | nil => exact ⟨rfl, fun _ h => (nomatch h), fun _ h => (nomatch h)⟩
  | @cons p b kvs bs hh t ih =>
    have e := keyA_of hh
    refine ⟨by rw [List.map_cons, List.map_cons, e, ih.1], fun c hc => ?_, fun c hc => ?_⟩
    · rcases List.mem_cons.mp hc with rfl | hc
      · rw [e]; exact hh
      · exact ih.2.1 c hc
    · rcases List.mem_cons.mp hc with rfl | hc
      · exact ⟨p, by simp, e⟩
      · obtain ⟨q, hq, e⟩ := ih.2.2 c hc
        exact ⟨q, List.mem_cons_of_mem _ hq, e⟩
def refU : Value → Addr
  | .ref t => t
  | _ => 0
def rSortedDT : List V → Hp → VK → Prop := fun vs H Q => ∃ (d : Addr) (kvs : List (List Key × V)) (b : Bool) (S : List Bool), vs = [V.ref d] ∧ Rd H d (.dT kvs) ∧ (∀ p ∈ kvs, p.1.map Sum.isLeft = b :: S) ∧
  ∀ (cs : List Addr) (ks : List (List Key)) (p : Addr), Paired (fun (k : List Key) c => H c = some (.tup (k.map kV))) ks cs → ks.Pairwise (fun x y => SrtC.lexC y x = false) → ks.Perm (kvs.map (·.1)) → H p = none → Q (.ref p) (upd H p (.lst (cs.map V.ref)))
theorem cr_sortedDT {X : Cx} (hc : X.calm = true) : CallR X (.builtin "sorted") rSortedDT := by
  intro pins s σ H vs us Q I r h
  obtain ⟨d, kvs, b, S, rfl, hd, hsh, q⟩ := h
  obtain ⟨u, rfl, rx⟩ := r.one
  cases rx
  obtain ⟨z, hs, ks, pr, o, es, ep, ho, hx, hdt, he, hn⟩ := (show ObjOk X.prog X.w H s.heap d (.dT kvs) from hd.ok I.hok)
  have l1 : es.size = ks.length := size_of_entries he
  have l2 : kvs.length = ks.length := Paired.length pr
  refine Calls.call_function_entry kind_sorted plain_sorted entry_sorted (args_sorted1 _) ?_
  unfold Builtin.«sorted»
  refine wpAny_bind (m := checkCount "sorted" 1 1 _) (wpAny_pure ?_)
  refine wpAny_bind (PySem.W.kdu_collect (A := X.A.in1) (kdl_raw hs hx hdt) (I.ok.hd hc) ho (by omega) fun h' tk acc' kp it => ?_)
  have ea : acc'.toList = ks.map fun x => Value.ref x.2.1 := by
    have hl : acc'.toList.length = ks.length := by rw [Array.length_toList, it.1]; exact l1
    apply List.ext_getElem?
    intro j
    rw [List.getElem?_map]
    cases hj : acc'.toList[j]? with
    | none =>
      have h1 := List.getElem?_eq_none_iff.mp hj
      rw [List.getElem?_eq_none (by omega)]
      all_goals rfl
    | some v =>
      obtain ⟨en, hen, hv⟩ := it.2 j v (by rw [← Array.getElem?_toList]; exact hj)
      have qe := entry_at he j
      rw [hen] at qe
      cases hb : ks[j]? with
      | none =>
        rw [hb] at qe
        exact nomatch (show some en = none from qe)
      | some b =>
        rw [hb] at qe
        have e2 : en = entryOfKey (tupleKind (mixKind X.prog X.w)) b := Option.some.inj qe
        rw [hv, e2]
        all_goals rfl
  have eb : acc'.toList = (ks.map fun x => x.2.1).map Value.ref := by rw [ea, List.map_map]; all_goals rfl
  have IK := isKeys_of pr
  have lb : (ks.map fun x => x.2.1).length = kvs.length := by rw [List.length_map, l2]
  generalize (ks.map fun x => x.2.1) = bs at *
  obtain ⟨k1, k2, k3⟩ := isKeys_keyA IK
  have hvl : acc'.toList.length = kvs.length := by rw [eb, List.length_map, lb]
  generalize acc'.toList = vs at *
  have hvz : vs.length ≤ sizeLine := by omega
  have hp : ∀ v ∈ vs, SrtC.IsC h' v (keyU H v) ∧ (keyU H v).map Sum.isLeft = b :: S := fun v hv => by
    rw [eb] at hv
    obtain ⟨t, ht, rfl⟩ := List.mem_map.mp hv
    obtain ⟨p, hp, e⟩ := k3 t ht
    have ht2 := k2 t ht
    obtain ⟨its, r2, hT, _⟩ := I.tuple (SqT.of ht2)
    refine ⟨SrtC.IsC.keeps (h := s.heap) ⟨t, its, rfl, r2, hT⟩ fun b o e _ => kp b o e, ?_⟩
    show (keyA H t).map Sum.isLeft = _
    rw [e]
    exact hsh p hp
  refine wpAny_bind (wpAny_newList ?_ hvz)
  have hoL : (h'.push (seqObj "list" vs.toArray 0)).get? h'.objs.size = some (seqObj "list" vs.toArray 0) := Heap.get?_push_size _ rfl
  refine wpAny_bind (wpAny_holding (wpAny_call_entry slot_list_sort ⟨_, hoL, rfl⟩ entry_list_sort (SrtO.list_sort_ord (SrtC.swo_lexC (keyU H)) hoL hvz (fun h2 => SrtC.cells_sortable (by omega) (fun v hv => ⟨(hp v hv).1.keeps fun b o e _ => Heap.get?_push_of_some _ e, (hp v hv).2⟩) fun o e => ?_) fun out h1 h2 => ⟨.none, rfl, ?_⟩) (args_list_sort _)))
  · obtain rfl : o = seqObj "list" vs.toArray 0 := Option.some.inj (e.symm.trans hoL)
    intro c
    exact absurd (Value.type.inj c) (by decide)
  · obtain ⟨c, hcc⟩ := sortedHeap_at (vs := vs) (out := out.toArray) hoL
    have I0 : Inv X pins σ H { s with heap := h', toks := tk } := I.kept kp
    have old : ∀ b u, h'.get? b = some u → (sortedHeap (h'.push (seqObj "list" vs.toArray 0)) h'.objs.size vs out.toArray).get? b = some u := fun b u e => by
      have hlt := Heap.lt_size e
      rw [sortedHeap_old (Nat.ne_of_lt hlt) (by rw [size_push']; exact Nat.lt_succ_of_lt hlt)]
      exact Heap.get?_push_of_some _ e
    have hout : out = (out.map refU).map Value.ref := by
      rw [List.map_map]
      conv => lhs; rw [← List.map_id out]
      refine List.map_congr_left fun v hv => ?_
      have hv := h2.perm.mem_iff.mp hv
      rw [eb] at hv
      obtain ⟨t, _, rfl⟩ := List.mem_map.mp hv
      rfl
    have hpm : (out.map refU).Perm bs := by
      have := h2.perm.map refU
      rw [eb, List.map_map] at this
      have e : List.map (refU ∘ Value.ref) bs = bs := by
        conv => rhs; rw [← List.map_id bs]
        exact List.map_congr_left fun _ _ => rfl
      rwa [e] at this
    generalize out.map refU = cs at *
    subst hout
    have hcz : (cs.map V.ref).length ≤ sizeLine := by rw [List.length_map, hpm.length_eq, lb]; omega
    refine wpAny_pure ⟨_, rfl, .ref h'.objs.size, upd H h'.objs.size (.lst (cs.map V.ref)), I0.laid (t' := tk) old (Nat.le_refl _) (show ObjOk X.prog X.w _ _ _ (.lst (cs.map V.ref)) from ⟨hcz, cs.map Value.ref, c, vals_refs cs, hcc⟩), rfl, ?_⟩
    refine q cs (cs.map (keyA H)) _ (paired_map cs fun c hc => k2 c (hpm.mem_iff.mp hc)) ?_ ?_ (I0.hok.fresh (Nat.le_refl _))
    · exact List.pairwise_map.mpr (List.pairwise_map.mp h1)
    · rw [← k1]
      exact hpm.map _
end L2

set_option Elab.async false
/-! comparisons of data within a block: K is named -/
namespace L2
open PySem
theorem hu65 {k : Nat} {A : Around} (r : Room k A) : A.units + 65 < cLine := by have := r.un; omega
section
variable {X : Cx} {K : PySem.W.Frag}
theorem op_inDK (hK : X.K = K) (hu : X.A.units + 65 < cLine) : OpR X (compareOp .In) (rInD K) := by
  subst hK
  exact op_inD hu
theorem op_notInDK (hK : X.K = K) (hu : X.A.units + 65 < cLine) : OpR X (compareOp .NotIn) (rNotInD K) := by
  subst hK
  exact op_notInD hu
theorem op_eqDK (hK : X.K = K) (hu : X.A.units + 64 < cLine) : OpR X (compareOp .Eq) (rEqD K) := by
  subst hK
  exact op_eqD hu
theorem op_neDK (hK : X.K = K) (hu : X.A.units + 64 < cLine) : OpR X (compareOp .NotEq) (rNeD K) := by
  subst hK
  exact op_neD hu
end
end L2

set_option Elab.async false
/-! membership in a list or a tuple of data -/
namespace L2
open PySem PySem.Spec PyProof.Rows
def rInT (K : PySem.W.Frag) : R2 := fun x y H Q => ∃ dx dys, Dp K H x dx ∧ Dp K H y (.tuple dys) ∧ SeqAt.shaped dx = true ∧ SeqAt.shaped (.tuple dys) = true ∧ Q (.bl (dys.any fun z => PyData.eqv z dx)) H
section
variable {X : Cx} {K : PySem.W.Frag}
theorem op_inTK (hK : X.K = K) (room : X.A.units + 65 < cLine) : OpR X (compareOp .In) (rInT K) := by
  subst hK
  rintro pins s σ H x y xv yv Q inv rdx rdy ⟨dx, dys, px, py, shx, shy, go⟩
  obtain ⟨ax, readx⟩ := Dp.reads inv dx x xv px rdx
  obtain ⟨ay, ready⟩ := Dp.reads inv (.tuple dys) y yv py rdy
  refine SeqAt.in_tuple_reads ready readx (SeqAt.canLay_of_shaped shy) (SeqAt.canLay_of_shaped shx) ?_ ⟨.bl _, H, inv, rfl, go⟩
  exact room_in_shaped shx room
theorem op_either {op : Value → Value → Sem Value} {r1 r2 : R2} (h1 : OpR X op r1) (h2 : OpR X op r2) : OpR X op (fun x y H Q => r1 x y H Q ∨ r2 x y H Q) :=
  fun pins s σ H x y v u Q inv rx ry h => h.elim (h1 pins s σ H x y v u Q inv rx ry) (h2 pins s σ H x y v u Q inv rx ry)
end
end L2

set_option Elab.async false
set_option linter.all false
set_option maxRecDepth 100000
set_option maxHeartbeats 4000000
/-! d.items() where the keys are tuples: each pair a new tuple of the key's own tuple and the value -/
namespace L2
open PySem PySem.Spec PyProof.Rows
def ItemT (d : Addr) (o : Obj) (kvs : List (List Key × V)) : It :=
  ⟨fun i H => H d = some (.frz o (.dT kvs)) ∧ i < kvs.length,
    fun i H x H' => ∃ (T : Addr) (k : List Key) (v : V) (q : Addr), kvs[i]? = some (k, v) ∧ x = .ref T ∧ H T = none ∧ H q = some (.tup (k.map kV)) ∧ H' = upd H T (.tup [.ref q, v]),
    fun i H => H d = some (.frz o (.dT kvs)) ∧ kvs.length ≤ i⟩
section
variable {X : Cx} {pins : List (Addr × Obj)} {σ : L2.St} {H : Hp} {s : Shared} {d : Addr} {o : Obj}
/-- the locked dict's entries, keys and values -/
theorem lockedT {kvs : List (List Key × V)} (inv : Inv X pins σ H s) (at_ : H d = some (.frz o (.dT kvs))) :
    (d == sysModules) = false ∧ ∃ (es : Array DictEntry) (ep : Nat), o.data = .dict es ep ∧ s.heap.DictRaw d es ep ∧ es.size = kvs.length ∧
      ∀ (i : Nat) (k : List Key) (v : V), kvs[i]? = some (k, v) → ∃ (hi : i < es.size) (q : Addr), es[i].key = .ref q ∧ H q = some (.tup (k.map kV)) ∧ RelV v es[i].val := by
  obtain ⟨there, lz, notSys, rows, pair, o2, es, ep, ho2, exact_, data_, list_, _⟩ := inv.hok d _ at_
  rw [there] at ho2
  cases ho2
  have n1 : kvs.length = rows.length := Paired.length pair
  have n2 : es.size = rows.length := by
    have := congrArg List.length list_
    rwa [Array.length_toList, List.length_map] at this
  refine ⟨notSys, es, ep, data_, ⟨o, there, exact_, data_⟩, by omega, fun i k v e => ?_⟩
  obtain ⟨row, hrow, e1, e2, e3⟩ := paired_get pair e
  have hi : i < es.size := by
    have := (List.getElem?_eq_some_iff.mp hrow).1
    omega
  have en : es[i] = entryOfKey (tupleKind (mixKind X.prog X.w)) row := by
    have q : es.toList[i]? = some (entryOfKey (tupleKind (mixKind X.prog X.w)) row) := by rw [list_, List.getElem?_map, hrow]; rfl
    rw [Array.getElem?_toList, Array.getElem?_eq_getElem hi] at q
    exact Option.some.inj q
  refine ⟨hi, row.2.1, ?_, e2, ?_⟩
  · rw [en]; rfl
  · rw [en]; exact e3
end
section
variable {P : Program} {w : World} {K : PySem.W.Frag} {d : Addr} {o : Obj} {es : Array DictEntry} {ep : Nat}
theorem turn_itemsT {kvs : List (List Key × V)} {elts : List Expr} {kk : Nat} {tpos : Pos} (it : Addr) (hod : o.data = .dict es ep) (hsz : es.size = kvs.length) :
    Turn P w K (.Tuple elts kk tpos) (ItemT d o kvs) [it] it (fun i h => ∃ a b, IsItemIter h it d i es.size ep a b) where
  mem := List.mem_singleton.mpr rfl
  obj := by
    rintro i h ⟨a, b, at_⟩ c hc
    rw [List.mem_singleton.mp hc]
    exact ⟨_, at_, fun _ z => nomatch z⟩
  keep := by
    rintro i h h' ⟨a, b, at_⟩ k
    exact ⟨a, b, k it (List.mem_singleton.mpr rfl) _ at_⟩
  item := by
    rintro X rfl rfl rfl calm i pins s σ H E inv free ⟨a, b, at_⟩ ⟨lk, lt⟩
    obtain ⟨ns, es2, ep2, dat2, raw, sz, ent⟩ := lockedT inv lk
    obtain ⟨rfl, rfl⟩ := dict_ep hod dat2
    have hkv : kvs[i]? = some kvs[i] := List.getElem?_eq_getElem lt
    generalize hp : kvs[i] = kv at hkv
    obtain ⟨k, v⟩ := kv
    obtain ⟨hi, q, e1, e2, e3⟩ := ent i k v hkv
    have below : it < s.heap.objs.size := Heap.lt_size at_
    refine wpAny_pyNext_items_item_raw at_ raw hi fun h1 out1 tup1 size1 same1 => ?_
    refine ⟨_, rfl, wpAny_letOwnedTupleGo_items (s := { s with heap := h1 }) out1 fun h2 it2 but2 => ?_⟩
    have tup2 : h2.get? s.heap.objs.size = some { cls := .type "tuple", data := .seq #[es2[i].key, es2[i].val] } := (but2.2 _ (Nat.ne_of_gt below)).trans tup1
    have fresh : H s.heap.objs.size = none := inv.hok.fresh (Nat.le_refl _)
    have new : ObjOk X.prog X.w (upd H s.heap.objs.size (.tup [.ref q, v])) h2 s.heap.objs.size (.tup [.ref q, v]) :=
      ⟨show 2 ≤ sizeLine by decide, [es2[i].key, es2[i].val], .cons e1 (.cons e3 .nil), ⟨_, tup2, rfl, _, rfl⟩⟩
    have inv2 := inv.turnedNew (t' := s.toks) (ch := [it]) (fun b ob hb e => (but2.2 b (fun z => hb (List.mem_singleton.mpr z))).trans (same1 b ob (fun z => hb (List.mem_singleton.mpr z)) e)) free (Nat.le_refl _) new
    refine ⟨.ref s.heap.objs.size, _, inv2, rfl, ⟨_, k, v, q, hkv, rfl, fresh, e2, rfl⟩, ⟨_, _, it2⟩, fun b hb => ?_⟩
    rw [List.mem_singleton.mp hb, upd_ne (Nat.ne_of_lt below)]
    exact (free it (List.mem_singleton.mpr rfl)).1
  done := by
    rintro X rfl rfl rfl calm i pins s σ H E inv free ⟨a, b, at_⟩ ⟨lk, ge⟩
    obtain ⟨f0, f1, f2, f3, f4, f5⟩ := free it (List.mem_singleton.mpr rfl)
    obtain ⟨ns, es2, ep2, dat2, raw, sz, ent⟩ := lockedT inv lk
    obtain ⟨rfl, rfl⟩ := dict_ep hod dat2
    exact wpAny_pyNext_items_end_raw (inv.ok.hd calm) at_ raw (by omega) fun h' eb => ⟨rfl, inv.turned (t' := s.toks) (fun b ob hb e => eb b ob hb e) f0 f1 f3 f4 f5⟩
  self := fun A i s Q E st h => by
    obtain ⟨a, b, at_⟩ := st
    exact PySem.W.kcp_self at_ h
end
def iItemT (td : TE) : TI := fun σ H R => td σ H fun x H1 => ∃ d o kvs, x = .ref d ∧ H1 d = some (.frz o (.dT kvs)) ∧ R (ItemT d o kvs) H1
section
variable {X : Cx} {e : Expr} {td : TE} {apos cpos : Pos}
theorem pi_itemsT {elts : List Expr} {kk : Nat} {tpos : Pos} (he : PE X e td) (hbase : attributeBase e "items" X.env (eval e X.env) = eval e X.env := by rfl) (hline : (apos.endLine == cpos.line) = true := by rfl) :
    PI X (.Tuple elts kk tpos) (.Call (.Attribute e "items" apos) [] [] cpos) (iItemT td) := by
  constructor
  intro pins s σ H R inv h
  refine wpAny_Call_method (T := "dict") (id := "dict.items") hbase rfl hline F.plainAttrs_dict F.slot_dict_items F.type_dict_items (thn (he.run pins s σ H _ inv h) fun u s1 hu => ?_)
  obtain ⟨x, H1, inv1, rx, d, o, kvs, rfl, lk, go⟩ := hu
  cases (show u = Value.ref d from rx)
  obtain ⟨ns, es, ep, dat, raw, sz, _⟩ := lockedT inv1 lk
  refine ⟨raw.typeIs, ?_, ?_⟩
  · intro a e
    cases e
    obtain ⟨o', a1, a2, _⟩ := raw
    exact ⟨o', a1, a2.2.1⟩
  have big : Inv X pins σ H1 { s1 with heap := s1.heap.push { cls := .type "dict_items", data := .fields #[.ref d] } } := inv1.kept (t' := s1.toks) fun b ob q => Heap.get?_push_of_some _ q
  have raw2 : ({ s1 with heap := s1.heap.push { cls := .type "dict_items", data := .fields #[.ref d] } } : Shared).heap.DictRaw d es ep := raw.at fun o e => Heap.get?_push_of_some _ e
  have fin : wpAny (model X.prog X.w) X.A (pyIter (.ref s1.heap.objs.size)) (PIE X pins σ (.Tuple elts kk tpos) R) X.xe { s1 with heap := s1.heap.push { cls := .type "dict_items", data := .fields #[.ref d] } } :=
    wpAny_pyIter_items_raw (d := d) ⟨_, Heap.get?_push_size _ rfl, rfl, rfl⟩ raw2 (pi_one (tk := s1.toks) big _ (turn_itemsT _ dat sz) ⟨.none, .none, Heap.get?_push_size _ rfl⟩ go)
  show wpAny _ _ (callWith cpos (.builtin "dict.items") [.ref d] [] []) _ X.xe s1
  exact method_meetsIn F.slot_dict_items F.entry_dict_items rfl (PySem.evalArgs_none ⟨rfl, raw.typeIs, F.args_dict_items_1 _, _, meets_dict_items_raw d ns, ⟨es, ep, raw⟩, fin⟩)
theorem walk_itemsT {d : Addr} {o : Obj} {kvs : List (List Key × V)} : Walk (ItemT d o kvs) kvs.length (fun H => H d = some (.frz o (.dT kvs)))
    (fun i H x H' => ∃ (T : Addr) (k : List Key) (v : V) (q : Addr), kvs[i]? = some (k, v) ∧ x = .ref T ∧ H T = none ∧ H q = some (.tup (k.map kV)) ∧ H' = upd H T (.tup [.ref q, v])) :=
  ⟨fun _ _ lt at_ => ⟨at_, lt⟩, fun _ at_ => ⟨at_, Nat.le_refl _⟩, fun _ _ _ _ _ _ y => y⟩
end
end L2

set_option Elab.async false
set_option linter.all false
set_option maxRecDepth 100000
/-! a dict comprehension over whatever a Walk tells of; an expression whose rule is either of two -/
namespace L2
open PySem PySem.Spec PyProof.Rows
theorem pe_either {X : Cx} {e : Expr} {ta tb : TE} (ha : PE X e ta) (hb : PE X e tb) : PE X e (fun σ H Q => ta σ H Q ∨ tb σ H Q) :=
  ⟨fun pins s σ H Q I h => h.elim (ha.run pins s σ H Q I) (hb.run pins s σ H Q I)⟩
/-- an f-string, as a name of its own -/
def tJ (ts : List TE) : TE := fun σ H Q => tJs ts Str.empty σ H fun out H1 => Q (.str out) H1
theorem pe_joinT {X : Cx} {v1 v2 : Expr} {rest : List Expr} {ts : List TE} {pos : Pos} (h : PJ X (v1 :: v2 :: rest) ts) : PE X (.JoinedStr (v1 :: v2 :: rest) pos) (tJ ts) := pe_joined h
theorem dc_it {J : It} {n : Nat} {G : Hp → Prop} {Y : Nat → Hp → V → Hp → Prop} (w : Walk J n G Y) {g : TG} {tt : TT} {tk tv : TE} {vs : List Nat} {σ : St} {H1 : Hp} {D : Addr} {Qd : Hp → Prop} (Pv : Nat → Hp → Prop)
    (h0 : Pv 0 (upd H1 D (.dK []))) (hG : ∀ i H, i ≤ n → Pv i H → G H) (hs : ∀ i x H H', i < n → Pv i H → Y i H x H' → (g x (wipe σ vs) H' fun σ2 H2 => wipe σ2 vs = wipe σ vs ∧ tt σ2 H2 fun b H3 => if b = true then (tk σ2 H3 fun y H4 => tv σ2 H4 fun z H5 => ∃ kvs k, y = kV k ∧ H5 D = some (.dK kvs) ∧ kvs.length < sizeLine ∧ Pv (i + 1) (upd H5 D (.dK (putK kvs k z)))) else Pv (i + 1) H3)) (hd : ∀ H, Pv n H → Qd H) :
    ∃ W : Nat → Nat → Hp → Prop, (∃ m, W 0 m (upd H1 D (.dK []))) ∧ ∀ i m H, W i m H → (J.stop i H ∧ Qd H) ∨
      (J.go i H ∧ ∃ Nx : Hp → Prop, (∀ H', Nx H' → ∃ m', m' < m ∧ W (i + 1) m' H') ∧ ∀ x H', J.yld i H x H' → (g x (wipe σ vs) H' fun σ2 H2 => wipe σ2 vs = wipe σ vs ∧ tt σ2 H2 fun b H3 => if b = true then (tk σ2 H3 fun y H4 => tv σ2 H4 fun z H5 => ∃ kvs k, y = kV k ∧ H5 D = some (.dK kvs) ∧ kvs.length < sizeLine ∧ Nx (upd H5 D (.dK (putK kvs k z)))) else Nx H3)) := by
  refine ⟨fun i m H => (m = n - i ∧ i ≤ n) ∧ Pv i H, ⟨n, ⟨rfl, Nat.zero_le _⟩, h0⟩, ?_⟩
  rintro i m H ⟨⟨rfl, hi⟩, p⟩
  rcases Nat.lt_or_ge i n with hlt | hge
  · exact .inr ⟨w.goes i H hlt (hG i H hi p), Pv (i + 1), fun H' p' => ⟨n - (i + 1), by omega, ⟨rfl, hlt⟩, p'⟩, fun x H' y => hs i x H H' hlt p (w.yields i H x H' hlt (hG i H hi p) y)⟩
  · have e : n = i := Nat.le_antisymm hge hi
    subst e
    exact .inl ⟨w.stops H (hG _ H hi p), hd H p⟩
end L2

set_option Elab.async false
set_option linter.all false
set_option maxRecDepth 100000
set_option maxHeartbeats 4000000
/-! sets of texts: made of a list, made by a comprehension, in, len, sorted -/
namespace SetX
open PySem PySem.Spec PyProof.Rows L2 PpSet
/-- an entry's text -/
def txt (e : Int × Value) : Str := SrtC.tv e.2
def Ent (w : World) (e : Int × Value) : Prop := ∃ k tk, e.2 = Value.str k tk ∧ e.1 = hashStr w k
/-- the set of texts at a: S its members, n their number -/
structure At (w : World) (h : Heap) (a : Addr) (S : Str → Bool) (n : Nat) (o : Obj) (es : Array (Int × Value)) (ep : Nat) (t : SetTable) : Prop where
  get : h.get? a = some o
  ex : o.ExactSet
  dat : o.data = .set es ep t
  ent : ∀ e ∈ es.toList, Ent w e
  nd : (es.toList.map txt).Nodup
  mem : ∀ k, S k = true ↔ k ∈ es.toList.map txt
  room : es.size < scanBound
  fit : t.fits es.size = true
  num : es.size = n
  ris : Ris t.place.toList
  led : w.params.followText "set-order" = true ∨ t.led = true
def SetS (w : World) (h : Heap) (a : Addr) (S : Str → Bool) (n : Nat) : Prop := ∃ o es ep t, At w h a S n o es ep t
section
variable {P : Program} {w : World} {h h' : Heap} {a : Addr} {S S' : Str → Bool} {n : Nat}
theorem SetS.keep (R : SetS w h a S n) (k : ∀ o, h.get? a = some o → h'.get? a = some o) : SetS w h' a S n := by
  obtain ⟨o, es, ep, t, r⟩ := R
  exact ⟨o, es, ep, t, { r with get := k o r.get }⟩
theorem SetS.congr (R : SetS w h a S n) (e : ∀ k, S' k = S k) : SetS w h a S' n := by
  have q : S' = S := funext e
  rw [q]; exact R
theorem str_is (k : Str) (u : Tok) : (strKind P w).is k (.str k u) = true := by
  show Value.isStrOf k (.str k u) = true
  simp [Value.isStrOf]
theorem elems {l : List (Int × Value)} (g : ∀ e ∈ l, Ent w e) : ElemsOf (strKind P w) l := fun e he => by
  obtain ⟨k, tk, h1, h2⟩ := g e he
  exact ⟨⟨k, by rw [h1]; exact str_is k tk, h2⟩, by rw [h1] <;> rfl⟩
theorem ent_is {e : Int × Value} (g : Ent w e) (k : Str) : (strKind P w).is k e.2 = true ↔ txt e = k := by
  obtain ⟨k0, tk, h1, _⟩ := g
  unfold txt
  rw [h1]
  constructor
  · intro q
    exact (strKind P w).inj (.str k0 tk) k0 k (str_is k0 tk) q
  · intro q
    have q : k0 = k := q
    rw [← q]
    exact str_is k0 tk
theorem ent_mem {l : List (Int × Value)} (g : ∀ e ∈ l, Ent w e) (k : Str) : k ∈ l.map txt ↔ ∃ e ∈ l, (strKind P w).is k e.2 = true := by
  rw [List.mem_map]
  exact ⟨fun ⟨e, he, q⟩ => ⟨e, he, (ent_is (g e he) k).2 q⟩, fun ⟨e, he, q⟩ => ⟨e, he, (ent_is (g e he) k).1 q⟩⟩
theorem SetS.of (R : SetS w h a S n) : h.SetOf (strKind P w) a S n := by
  obtain ⟨o, es, ep, t, r⟩ := R
  exact ⟨o, es, ep, t, r.get, r.ex, r.dat, elems r.ent, fun k => (r.mem k).trans (ent_mem r.ent k), r.room, r.fit, r.num⟩
end
section
variable {P : Program} {w : World} {A : Around} {E : Value → Shared → Prop} {s : Shared} {a : Addr} {S : Str → Bool} {n : Nat}
theorem add_tail {g : Bool → Sem Unit} (hg : ∀ (b : Bool) (s₁ : Shared) (Q' : Unit → Shared → Prop), Q' () s₁ → wpAny (model P w) A (g b) Q' E s₁)
    {o : Obj} {es : Array (Int × Value)} {ep : Nat} {t : SetTable} (ho : s.heap.get? a = some o) (hex : o.ExactSet) (hd : o.data = .set es ep t)
    {es1 : Array (Int × Value)} {t2 : SetTable} {S' : Str → Bool} (g1 : ∀ e ∈ es1.toList, Ent w e) (nd1 : (es1.toList.map txt).Nodup) (m1 : ∀ k, S' k = true ↔ k ∈ es1.toList.map txt)
    (hb1 : es1.size < scanBound) (hf2 : t2.fits es1.size = true) (hr : Ris t2.place.toList) (hl : w.params.followText "set-order" = true ∨ t2.led = true) {wasDummy : Bool} {R : Option Bool → Shared → Prop}
    (hR : ∀ h', Heap.SameBut a s.heap h' → SetS w h' a S' es1.size → R (some true) { s with heap := h' }) :
    wpAny (model P w) A (do
        storeSet a es1 t2
        if (!wasDummy && t2.tooFull) = true then do
            g (relayAll t2 es1 (SetTable.grown es1.size)).2.2
            storeSet a (relayAll t2 es1 (SetTable.grown es1.size)).1 (relayAll t2 es1 (SetTable.grown es1.size)).2.1
            pure (some true)
          else pure (some true)) R E s := by
  have ho1 := storeB_at (es' := es1) (t' := t2) ho hd
  have sb1 := Heap.SameBut.update s.heap a (Obj.putSet es1 t2)
  refine wpAny_bind (wpAny_storeSet_of ho hd ?_ (fits_of_scanBound hb1))
  by_cases full : (!wasDummy && t2.tooFull) = true
  · rw [if_pos full]
    have pm := relayAll_perm t2 es1 (SetTable.grown es1.size)
    have hf3 := relayAll_fits t2 es1 (SetTable.grown es1.size)
    have hr3 := relayAll_ris t2 es1 (SetTable.grown es1.size)
    have hl3 := relayAll_led t2 es1 (SetTable.grown es1.size)
    generalize relayAll t2 es1 (SetTable.grown es1.size) = Z at pm hf3 hr3 hl3 ⊢
    obtain ⟨es2, t3, gave⟩ := Z
    dsimp only at pm hf3 hr3 hl3 ⊢
    have hsz : es2.size = es1.size := by simpa using pm.length_eq
    have hb2 : es2.size < scanBound := hsz ▸ hb1
    refine wpAny_bind (hg _ _ _ (wpAny_bind (wpAny_storeSet_of ho1 rfl ?_ (fits_of_scanBound hb2))))
    have ho2 := storeB_at (es' := es2) (t' := t3) ho1 rfl
    refine wpAny_pure (hR _ (sb1.trans (Heap.SameBut.update _ a _)) ?_)
    refine ⟨_, es2, _, t3, ho2, hex, rfl, ?_, ?_, ?_, ?_, ?_, ?_, ?_, ?_⟩
    · exact fun e he => g1 e (pm.mem_iff.mp he)
    · exact (pm.map txt).nodup_iff.mpr nd1
    · exact fun k => (m1 k).trans (pm.map txt).mem_iff.symm
    · exact hb2
    · exact hf3
    · exact hsz
    · exact hr3
    · exact hl.imp id fun z => by rw [hl3]; exact z
  · rw [if_neg full]
    exact wpAny_pure (hR _ sb1 ⟨_, es1, _, t2, ho1, hex, rfl, g1, nd1, m1, hb1, hf2, rfl, hr, hl⟩)
theorem add_hashed {k : Str} {tk : Tok} {Q : Bool → Shared → Prop} (R : SetS w s.heap a S n) (room : n + 1 < scanBound)
    (hQ : ∀ h', Heap.SameBut a s.heap h' → SetS w h' a (fun j => S j || decide (j = k)) (if S k = true then n else n + 1) → Q (!S k) { s with heap := h' }) :
    wpAny (model P w) A (setAddHashed a (.str k tk) (hashStr w k)) Q E s := by
  obtain ⟨o, es, ep, t, r⟩ := R
  have hel : ElemsOf (strKind P w) es.toList := elems r.ent
  have hsc : (Value.str k tk).scannable = true := rfl
  have hkey : (strKind P w).is k (.str k tk) = true := str_is k tk
  unfold setAddHashed setAddHashedIn
  refine wpAny_holding (wpAny_bind (wpAny_setState_of r.get r.dat r.fit ?_))
  dsimp only
  rw [byScan_of hsc r.room hel]
  simp only [↓reduceIte]
  unfold setAddByScan
  refine wpAny_bind (wpAny_bind (wpAny_rule (wpAny_bind (wpAny_setScan_of hkey r.get r.dat r.fit hel ?_))))
  cases hfi : List.findIdx? (fun e => (strKind P w).is k e.2) es.toList with
  | some j =>
    dsimp only
    obtain ⟨hj, pj, _⟩ := List.findIdx?_eq_some_iff_getElem.mp hfi
    have hSk : S k = true := (r.mem k).2 ((ent_mem (P := P) r.ent k).2 ⟨es.toList[j], List.getElem_mem hj, pj⟩)
    refine wpAny_pure (wpAny_pure ?_)
    have hm : ∀ i, (S i || decide (i = k)) = true ↔ i ∈ es.toList.map txt := fun i => by
      rw [Bool.or_eq_true, decide_eq_true_eq, ← r.mem i]
      exact ⟨fun z => z.elim id (fun e => e ▸ hSk), .inl⟩
    have hn : es.size = if S k = true then n else n + 1 := by
      rw [if_pos hSk]
      exact r.num
    have q := hQ s.heap (Heap.SameBut.refl a s.heap) ⟨o, es, ep, t, r.get, r.ex, r.dat, r.ent, r.nd, hm, r.room, r.fit, hn, r.ris, r.led⟩
    rw [hSk] at q
    exact q
  | none =>
    dsimp only
    have hnk : k ∉ es.toList.map txt := fun z => by
      obtain ⟨e, he, q⟩ := (ent_mem (P := P) r.ent k).1 z
      have c := List.findIdx?_eq_none_iff.mp hfi e he
      rw [q] at c
      cases c
    have hSk : S k = false := by
      cases q : S k with
      | false => rfl
      | true => exact absurd ((r.mem k).1 q) hnk
    have hgw : ∀ (b : Bool) {s₁ : Shared} {Q' : Unit → Shared → Prop}, Q' () s₁ → wpAny (model P w) A (match b with | true => rule "set.scan.the-table-gave-way" | false => pure ()) Q' E s₁ :=
      fun b s₁ Q' q => by cases b <;> first | exact wpAny_pure q | exact wpAny_rule q
    have pm := layNew_perm t es (hashStr w k) (.str k tk)
    have hf1 := layNew_fits t es (hashStr w k) (.str k tk)
    have hr1 := layNew_ris t es (hashStr w k) (.str k tk) r.ris
    have hl1 := layNew_led t es (hashStr w k) (.str k tk)
    show wpAny _ _ _ _ _ _
    have eh : (strKind P w).hash k = hashStr w k := rfl
    generalize layNew t es (hashStr w k) (.str k tk) = Z at pm hf1 hr1 hl1 ⊢
    obtain ⟨es1, t1, wasDummy, gave⟩ := Z
    dsimp only at pm hf1 hr1 hl1 ⊢
    rw [Array.toList_push] at pm
    have pc : es1.toList.Perm ((hashStr w k, Value.str k tk) :: es.toList) := pm.trans (List.perm_append_singleton _ _)
    have pk : (es1.toList.map txt).Perm (k :: es.toList.map txt) := pc.map txt
    have hsz : es1.size = n + 1 := by
      have := pc.length_eq
      rw [List.length_cons, Array.length_toList, Array.length_toList, r.num] at this
      exact this
    have hb1 : es1.size < scanBound := hsz ▸ room
    have g1 : ∀ e ∈ es1.toList, Ent w e := fun e he => by
      rcases List.mem_cons.mp (pc.mem_iff.mp he) with z | z
      · rw [z]; exact ⟨k, tk, rfl, rfl⟩
      · exact r.ent e z
    have nd1 : (es1.toList.map txt).Nodup := pk.nodup_iff.mpr (List.nodup_cons.mpr ⟨hnk, r.nd⟩)
    have m1 : ∀ i, (S i || decide (i = k)) = true ↔ i ∈ es1.toList.map txt := fun i => by
      rw [Bool.or_eq_true, decide_eq_true_eq, r.mem i, pk.mem_iff, List.mem_cons]
      exact Or.comm
    have hled : w.params.followText "set-order" = true ∨ t1.led = true := r.led.imp id fun z => by rw [hl1]; exact z
    have fin : ∀ h', Heap.SameBut a s.heap h' → SetS w h' a (fun j => S j || decide (j = k)) es1.size → Q true { s with heap := h' } := fun h' sb r => by
      have q := hQ h' sb
      rw [hSk] at q
      rw [hsz] at r
      exact q r
    refine wpAny_bind (hgw _ ?_)
    split
    · refine wpAny_bind ?_
      rw [hashByValue_scannable 8 hsc]
      refine wpAny_pure (add_tail ?_ r.get r.ex r.dat g1 nd1 m1 hb1 ?_ ?_ ?_ ?_)
      · intro b s₁ Q' q; cases b <;> first | exact wpAny_pure q | exact wpAny_rule q
      · first | (split <;> first | exact hf1 | exact SetTable.fits_plain_off hf1) | exact hf1
      · first | (split <;> exact hr1) | exact hr1
      · first | (split <;> exact hled) | exact hled
      · intro h' sb r; dsimp only; exact wpAny_pure (fin h' sb r)
    · refine wpAny_bind (wpAny_pure ?_)
      simp only [↓reduceIte]
      refine add_tail ?_ r.get r.ex r.dat g1 nd1 m1 hb1 hf1 hr1 hled ?_
      · intro b s₁ Q' q; cases b <;> first | exact wpAny_pure q | exact wpAny_rule q
      · intro h' sb r; dsimp only; exact wpAny_pure (fin h' sb r)
theorem add_call {k : Str} {tk : Tok} {Q : Value → Shared → Prop} (R : SetS w s.heap a S n) (room : n + 1 < scanBound)
    (hQ : ∀ h', Heap.SameBut a s.heap h' → SetS w h' a (fun j => S j || decide (j = k)) (if S k = true then n else n + 1) → Q .none { s with heap := h', toks := s.toks + 1 }) :
    wpAny (model P w) A (call (.builtin "set.add") [.ref a, .str k tk]) Q E s := by
  have hS : s.heap.SetOf (strKind P w) a S n := R.of
  refine wpAny_call_entry F.slot_set_add hS.typeIs F.entry_set_add ?_ (F.args_set_add_2 _ _)
  unfold Builtin.«set.add» Builtin.Frozenset.oneOther
  simp only [List.isEmpty_nil, bind_assoc]
  unfold Builtin.Frozenset.addrOf setAdd
  refine wpAny_bind (wpAny_pure ?_)
  try dsimp only
  refine wpAny_bind (wpAny_pure ?_)
  try dsimp only
  refine wpAny_bind (wpAny_holding (wpAny_bind ((strKind P w).pyHash (str_is k tk) ?_)))
  refine add_hashed (s := { s with toks := s.toks + 1 }) R room fun h' sb r => ?_
  show wpAny _ _ (ret Value.none) _ _ _
  exact wpAny_pure ⟨_, rfl, hQ h' sb r⟩
theorem led0 (w : World) : w.params.followText "set-order" = true ∨ (SetTable.fresh 0 0 (!w.params.followText "set-order")).led = true := by
  show _ ∨ (!w.params.followText "set-order") = true
  cases w.params.followText "set-order"
  · exact .inr rfl
  · exact .inl rfl
theorem fresh {h : Heap} {a : Addr} (w : World) (ho : h.get? a = some { cls := .type "set", dict := none, data := .set #[] 0 (.fresh 0 0 (!w.params.followText "set-order")) }) : SetS w h a (fun _ => false) 0 :=
  ⟨_, #[], 0, _, ho, ⟨rfl, rfl, rfl⟩, rfl, (fun e he => by simp at he), (by simp), (fun k => by simp), (by decide), (by rfl), rfl, List.Pairwise.nil, led0 w⟩
/-! ### set(a list of texts) -/
theorem upd_loop {I : Addr} {fp wr : List Addr} {G : Array GenState → Array GenState → Prop} {m : Nat} {Pv : Nat → Value → Prop} {St : Nat → Shared → Prop} {R : Result → Shared → Prop}
    (W : WalksS P w A.in1 I fp wr G m Pv St) (D : Addr) (hDf : D ∉ fp) (ss : List Str) (hn : m = ss.length) (hb : ss.length + 1 < scanBound) (hval : ∀ i v, Pv i v → ∃ k t, ss[i]? = some k ∧ v = .str k t) :
    ∀ (k i : Nat) (s : Shared), m - i = k → i ≤ m → St i s → (∃ c, c ≤ i ∧ SetS w s.heap D (fun j => decide (j ∈ ss.take i)) c) →
      (∀ s' c, Moved (D :: wr) G s s' → c ≤ m → SetS w s'.heap D (fun j => decide (j ∈ ss)) c → R (.ok (.ret .none)) s') →
      codeAny (model P w) A (.builtin "set.update.loop" ⟨[.ref D, .ref I], []⟩) R s := by
  have hDw : D ∉ wr := fun h => hDf (W.sub _ h)
  have more : ∀ b ∈ wr, b ∈ D :: wr := fun b hb => List.mem_cons_of_mem _ hb
  intro k
  induction k with
  | zero =>
    rintro i s hk' hi hst ⟨c, hc, hS⟩ hR
    obtain rfl : i = m := by omega
    refine codeAny_builtin F.entry_set_update_loop ?_
    rw [Around.under_plainId F.plain_set_update_loop _]
    show wpAny _ A.in1 (pyNext (.ref I) >>= _) _ _ s
    refine wpAny_bind (W.done s _ _ hst fun s' hm => ?_)
    show wpAny _ A.in1 (ret Value.none) _ _ s'
    rw [List.take_of_length_le (show ss.length ≤ i by omega)] at hS
    exact wpAny_pure (hR s' c (hm.mono more) hc (hS.keep fun o e => hm.heap D o hDw e))
  | succ k ih =>
    rintro i s hk' hi hst ⟨c, hc, hS⟩ hR
    have hlt : i < m := by omega
    refine codeAny_builtin F.entry_set_update_loop ?_
    rw [Around.under_plainId F.plain_set_update_loop _]
    show wpAny _ A.in1 (pyNext (.ref I) >>= _) _ _ s
    refine wpAny_bind (W.item i s _ _ hlt hst fun v s' hP hst' hm => ?_)
    obtain ⟨z, t, hz, rfl⟩ := hval i v hP
    have hS' : SetS w s'.heap D (fun j => decide (j ∈ ss.take i)) c := hS.keep fun o e => hm.heap D o hDw e
    show wpAny _ A.in1 (holding [Value.str z t] (setAdd D (.str z t)) >>= _) _ _ s'
    refine wpAny_bind (wpAny_holding ?_)
    unfold setAdd
    refine wpAny_holding (wpAny_bind ((strKind P w).pyHash (k := z) (str_is _ _) ?_))
    refine add_hashed (s := { s' with toks := s'.toks + 1 }) hS' (by omega) fun h' hsb hS2 => ?_
    have hS3 : SetS w h' D (fun j => decide (j ∈ ss.take (i + 1))) (if decide (z ∈ ss.take i) = true then c else c + 1) := hS2.congr fun j => by
      rw [List.take_add_one, hz]
      simp [List.mem_append]
    have hc3 : (if decide (z ∈ ss.take i) = true then c else c + 1) ≤ i + 1 := by
      split <;> omega
    refine wpAny_pure ⟨plainId_quiet F.plain_set_update_loop _, ih (i + 1) _ (by omega) hlt (W.frame _ s' _ _ hst' (Nat.le_succ _) fun b hb o e => ?_) ⟨_, hc3, hS3⟩ fun s'' c2 hm'' hc'' hS'' => ?_⟩
    · rw [hsb.2 b (fun h : b = D => hDf (by rw [← h]; exact hb))]; exact e
    · refine hR s'' c2 (Moved.trans W.gtrans ((hm.mono more).then_heap (Nat.le_succ _) fun b o hb e => ?_) hm'') hc'' hS''
      rw [hsb.2 b (fun h : b = D => hb (by rw [h]; exact List.mem_cons_self))]; exact e
theorem strs_get : ∀ {us : List Value} {ss : List Str}, StrsAre us ss → ∀ {i : Nat} {v : Value}, us[i]? = some v → ∃ k t, ss[i]? = some k ∧ v = .str k t
  | _, _, .nil, i, v, h => by simp at h
  | _, _, .cons x t r, 0, v, h => by
    obtain rfl := Option.some.inj h
    exact ⟨x, t, rfl, rfl⟩
  | _, _, .cons x t r, i + 1, v, h => strs_get r (i := i) h
theorem slen : ∀ {vs : List Value} {ss : List Str}, StrsAre vs ss → vs.length = ss.length
  | _, _, .nil => rfl
  | _, _, .cons _ _ r => congrArg (· + 1) (slen r)
/-- a new empty set -/
abbrev newO (w : World) : Obj := { cls := .type "set", dict := none, data := .set #[] 0 (.fresh 0 0 (!w.params.followText "set-order")) }
set_option maxHeartbeats 6400000 in
theorem call_list {l : Addr} {items : Array Value} (ss : List Str) {Q : Value → Shared → Prop} (hh : A.handled = none) (hl : s.heap.IsList l items) (hit : StrsAre items.toList ss) (hb : ss.length + 1 < scanBound)
    (h : ∀ (h' : Heap) (tk c : Nat), SetS w h' s.heap.objs.size (fun j => decide (j ∈ ss)) c → c ≤ ss.length → (∀ b o, s.heap.get? b = some o → h'.get? b = some o) → Q (.ref s.heap.objs.size) { s with heap := h', toks := tk }) :
    wpAny (model P w) A (call (.type "set") [.ref l]) Q E s := by
  have hisz : items.size = ss.length := by rw [← slen hit, Array.length_toList]
  obtain ⟨c, tl, hmro⟩ := F.called_set.mro
  have hmade := F.called_set.made
  have hsub := F.called_set.sub
  have h1 := F.called_set.notType
  have h2 := F.called_set.canCreate
  have hct := F.typeCall_set_1 (.ref l)
  refine wpAny_call (codeAny_of_tree ?_)
  show wpAny _ _ (callAny (.type "set") _) _ _ _
  refine wpAny_pure ⟨Code.quiet_builtin _ (by decide +kernel), codeAny_builtin F.entry_type_call ?_⟩
  rw [Around.under_plain (weight_type_call_type "set" [.ref l] []) rfl]
  repeat (any_goals (first | assumption | wp_step))

  refine codeAny_mono (code_set_led1 (.ref l) (E := E) (Q₁ := fun obj s₁ => obj = .ref s.heap.objs.size ∧ s₁ = { s with heap := s.heap.push (newO w) }) ⟨rfl, rfl⟩) fun r s₁ hr => ?_
  cases r with
  | error e => exact hr
  | ok fl =>
    cases fl with
    | ret obj =>
      obtain ⟨rfl, rfl⟩ := hr
      have hS : (s.heap.push (newO w)).get? s.heap.objs.size = some (newO w) := Heap.get?_push_size _ rfl
      have hT : Shared.TypeIs { s with heap := s.heap.push (newO w) } (.ref s.heap.objs.size) "set" := ⟨_, hS, rfl⟩
      have hli := F.called_set.init.lookup
      have hbi := F.called_set.init.bind (.ref s.heap.objs.size)
      repeat (any_goals (first | assumption | wp_step))

      refine codeAny_mono (codeAny_call_builtin (R := wants (fun r s₂ => r = .none ∧ ∃ h' tk c, s₂ = { s with heap := h', toks := tk } ∧ SetS w h' s.heap.objs.size (fun j => decide (j ∈ ss)) c ∧ c ≤ ss.length ∧
          (∀ b o, s.heap.get? b = some o → h'.get? b = some o)) E) F.called_set.init.plain F.entry_set_init (check_set_init_1 hT ?_)) fun r₂ s₂ hr₂ => ?_
      · obtain ⟨ol, hol, hcl, nl, hdl⟩ := hl
        obtain ⟨ocls, odict, odata, oslots⟩ := ol
        simp only at hcl hdl
        subst hcl; subst hdl
        have hol' : (s.heap.push (newO w)).get? l = some { cls := .type "list", dict := odict, data := .seq items nl, slots := oslots } := Heap.get?_push_of_some _ hol
        have hsls := F.sub_list_set
        have hslf := F.sub_list_frozenset
        have hne : (Value.type "list" == Value.type "dict") = false := by decide
        have hl1 : (s.heap.push (newO w)).IsList l items := ⟨_, hol', rfl, nl, rfl⟩
        unfold Builtin.«set.__init__» noKeywords Builtin.Frozenset.updateFrom
        generalize hPI : pyIter = PI
        wp_walk
        subst hPI

        refine wpAny_pyIter_list hl1 ?_
        refine wpAny_bind (wpAny_runValue ?_)
        have hlS : l < s.heap.objs.size := Heap.lt_size hol
        have hh3 : A.in1.in1.in1.handled = none := by simp [hh]
        have hneI : l ≠ (s.heap.push (newO w)).objs.size := by
          rw [Heap.size_push]; exact Nat.ne_of_lt (Nat.lt_succ_of_lt hlS)
        have hSf : s.heap.objs.size ∉ [(s.heap.push (newO w)).objs.size, l] := by
          rw [Heap.size_push]; simp only [List.mem_cons, List.mem_singleton, List.not_mem_nil, or_false, not_or]
          exact ⟨Nat.ne_of_lt (Nat.lt_succ_self _), Nat.ne_of_gt hlS⟩
        have hval : ∀ (i : Nat) (v : Value), items[i]? = some v → ∃ k t, ss[i]? = some k ∧ v = .str k t := fun i v hv => strs_get hit (by rw [Array.getElem?_toList]; exact hv)
        refine upd_loop ((Walks.list hh3 _ l hneI items).toS) s.heap.objs.size
          hSf ss hisz hb hval (items.size - 0) 0 _ (by omega) (Nat.zero_le _)
          ⟨⟨_, Heap.get?_push_size _ rfl, rfl, rfl⟩, (hl1.push _)⟩ ?hS0 ?hR
        case hS0 =>
          have hget : ((s.heap.push (newO w)).push { cls := .type "list_iterator", data := .fields #[.ref l, .int 0 0] }).get? s.heap.objs.size = some (newO w) := Heap.get?_push_of_some _ hS
          exact ⟨0, Nat.le_refl 0, (fresh w hget).congr fun j => by simp⟩
        case hR =>
          intro s' c' hm hc' hS'
          obtain ⟨h', g2, d', tk', os'⟩ := s'
          obtain rfl : g2 = s.gens := hm.gens
          obtain rfl : d' = s.drawn := hm.drawn
          obtain rfl : os' = s.os := hm.os
          show wpAny _ _ _ _ _ _
          refine wpAny_pure ?_
          show wpAny _ _ (ret Value.none) _ _ _
          rw [hisz] at hc'
          refine wpAny_pure ⟨rfl, h', tk', c', rfl, hS', hc', fun b o e => ?_⟩
          have hb0 : b < s.heap.objs.size := Heap.lt_size e
          have hb1 : b ≠ s.heap.objs.size := Nat.ne_of_lt hb0
          have hb2 : b ≠ (s.heap.push (newO w)).objs.size := by
            rw [Heap.size_push]; exact Nat.ne_of_lt (Nat.lt_succ_of_lt hb0)
          exact hm.heap b o (by simp only [List.mem_cons, List.mem_singleton, List.not_mem_nil, or_false, not_or]; exact ⟨hb1, hb2⟩) (Heap.get?_push_of_some _ (Heap.get?_push_of_some _ e))

      · cases r₂ with
        | error e => exact hr₂
        | ok fl₂ =>
          cases fl₂ with
          | ret r =>
            obtain ⟨rfl, h', tk, c', rfl, hS', hc', hk'⟩ := hr₂
            repeat (any_goals (first | assumption | wp_step))
            exact h _ _ _ hS' hc' hk'
          | _ => exact hr₂.elim
    | _ => exact hr.elim
/-! ### sorted(a set of texts) -/
theorem sorted_set {Q : Value → Shared → Prop} (R : SetS w s.heap a S n) (hh : A.handled = none) (hn4 : n ≤ 100000)
    (hQ : ∀ s' p (out : Array Value) (c : Nat) (ss : List Str), (∀ b o, s.heap.get? b = some o → s'.heap.get? b = some o) → s'.gens = s.gens → s'.os = s.os → s.heap.objs.size ≤ p →
      s'.heap.get? p = some (seqObj "list" out c) → StrsAre out.toList ss → SrtC.Asc ss → ss.Nodup → (∀ k, k ∈ ss ↔ S k = true) → ss.length = n → Q (.ref p) s') :
    wpAny (model P w) A (call (.builtin "sorted") [.ref a]) Q E s := by
  obtain ⟨o, es, ep, t, r⟩ := R
  refine Calls.call_function_entry kind_sorted plain_sorted entry_sorted (args_sorted1 _) ?_
  unfold Builtin.«sorted»
  refine wpAny_bind (m := checkCount "sorted" 1 1 _) (wpAny_pure ?_)
  refine wpAny_bind (collect_set (A := A.in1) hh ⟨o, r.get, r.ex.1, r.dat⟩ r.fit r.room r.ris r.led fun s1 vs k1 hz g1 o1 pm => ?_)
  have hvl : vs.length = n := by rw [pm.length_eq, List.length_map, Array.length_toList]; exact r.num
  have hI : StrsAre vs (vs.map SrtC.tv) := SrtC.strs_tv fun v hv => by
    obtain ⟨e, he, q⟩ := List.mem_map.mp (pm.mem_iff.mp hv)
    obtain ⟨k, tk, h1, _⟩ := r.ent e he
    exact ⟨k, tk, by rw [← q]; exact h1⟩
  have pk : (vs.map SrtC.tv).Perm (es.toList.map txt) := by
    have q := pm.map SrtC.tv
    rw [List.map_map] at q
    exact q
  have hvz : vs.length ≤ sizeLine := by rw [hvl, sizeLine_eq]; omega
  refine wpAny_bind (wpAny_newList ?_ hvz)
  have hoL : (s1.heap.push (seqObj "list" vs.toArray 0)).get? s1.heap.objs.size = some (seqObj "list" vs.toArray 0) := Heap.get?_push_size _ rfl
  refine wpAny_bind (wpAny_holding (wpAny_call_entry slot_list_sort ⟨_, hoL, rfl⟩ entry_list_sort (SrtO.list_sort_ord SrtC.swo_tv hoL hvz (fun h2 => SrtC.strs_sortable hI h2) fun out h1 h2 => ⟨.none, rfl, ?_⟩) (args_list_sort _)))
  obtain ⟨a1, a2, a3⟩ := SrtC.strs_out hI h1 h2
  obtain ⟨c, hc⟩ := sortedHeap_at (vs := vs) (out := out.toArray) hoL
  have pn : (out.map SrtC.tv).Perm (es.toList.map txt) := a2.trans pk
  refine wpAny_pure ⟨_, rfl, hQ _ s1.heap.objs.size out.toArray c (out.map SrtC.tv) (fun b u e => ?_) g1 o1 hz hc a1 a3 (pn.nodup_iff.mpr r.nd) (fun k => by rw [pn.mem_iff, ← r.mem k]) ?_⟩
  · have q := k1 b u e
    have hlt := Heap.lt_size q
    show (sortedHeap (s1.heap.push (seqObj "list" vs.toArray 0)) s1.heap.objs.size vs out.toArray).get? b = some u
    rw [sortedHeap_old (Nat.ne_of_lt hlt) (by rw [size_push']; exact Nat.lt_succ_of_lt hlt)]
    exact Heap.get?_push_of_some _ q
  · rw [pn.length_eq, List.length_map, Array.length_toList]; exact r.num
end
end SetX
namespace L2
open PySem PySem.Spec PyProof.Rows SetX
/-- the set of texts at a -/
def SetSO (w : World) (a : Addr) (S : Str → Bool) (n : Nat) : HO := .ext fun h => SetS w h a S n
theorem setSO_new {w : World} {P : Program} {H : Hp} {h : Heap} {a : Addr} {S : Str → Bool} {n : Nat} (R : SetS w h a S n) : ObjOk P w H h a (SetSO w a S n) :=
  ⟨R, let ⟨o, _, _, _, r⟩ := R; ⟨o, r.get⟩, fun _ _ p k => SetS.keep p k⟩
section
variable {X : Cx}
theorem setSO_get {pins : List (Addr × Obj)} {σ : St} {H : Hp} {s : Shared} {a : Addr} {S : Str → Bool} {n : Nat} (I : Inv X pins σ H s) (ha : H a = some (SetSO X.w a S n)) : SetS X.w s.heap a S n := (I.hok a _ ha).1
/-- set(xs), xs a list of texts -/
def rSetTx (K : PySem.W.Frag) (w : World) : List V → Hp → VK → Prop := fun vs H Q => ∃ (l : Addr) (ss : List Str), vs = [V.ref l] ∧ SqL K H l (ss.map V.str) ∧ ss.length ≤ 4000 ∧
  ∀ (p : Addr) (c : Nat), H p = none → c ≤ ss.length → Q (.ref p) (upd H p (SetSO w p (fun j => decide (j ∈ ss)) c))
theorem cr_setTx (hc : X.calm = true) : CallR X (.type "set") (rSetTx X.K X.w) := by
  intro pins s σ H vs us Q I r h
  obtain ⟨l, ss, rfl, hs, hn, q⟩ := h
  obtain ⟨its, rv, hl, hz⟩ := I.list hs
  rw [Vals.ref1 r]
  have hI := strs_of_vals' rv
  refine call_list ss (I.ok.hd hc) hl.isList (by simpa using hI) (by unfold scanBound; omega) fun h' tk c R hc' k => ?_
  have hp := I.hok.fresh (Nat.le_refl s.heap.objs.size)
  exact ⟨.ref _, upd H s.heap.objs.size (SetSO X.w s.heap.objs.size (fun j => decide (j ∈ ss)) c), I.laid (t' := tk) k (Nat.le_refl _) (setSO_new R), rfl, q _ c hp hc'⟩
/-- sorted(a set of texts) -/
def rSortedSetS (w : World) : List V → Hp → VK → Prop := fun vs H Q => ∃ (a : Addr) (S : Str → Bool) (n : Nat), vs = [V.ref a] ∧ H a = some (SetSO w a S n) ∧ n ≤ 100000 ∧
  ∀ (ss : List Str) (p : Addr), SrtC.Asc ss → ss.Nodup → (∀ k : Str, k ∈ ss ↔ S k = true) → ss.length = n → H p = none → Q (.ref p) (upd H p (.lst (ss.map V.str)))
theorem cr_sortedSetS (hc : X.calm = true) : CallR X (.builtin "sorted") (rSortedSetS X.w) := by
  intro pins s σ H vs us Q I r h
  obtain ⟨a, S, n, rfl, ha, hn, q⟩ := h
  rw [Vals.ref1 r]
  refine SetX.sorted_set (setSO_get I ha) (I.ok.hd hc) hn fun s' p out c ss k g o hp hg hi hs hnd hm hl => ?_
  have hlen : (ss.map V.str).length ≤ sizeLine := by rw [List.length_map, hl, sizeLine_eq]; omega
  have hpn : H p = none := I.hok.fresh hp
  have J : Inv X pins σ (upd H p (.lst (ss.map V.str))) { s with heap := s'.heap, gens := s'.gens, drawn := s'.drawn, toks := s'.toks } :=
    I.call (ch := []) (Un.laid k hp hpn) (I.hok.laid k hp ⟨hlen, out.toList, c, vals_of_strs hi, hg⟩) (by rw [g]; exact I.bare) (fun _ z => nomatch z)
  have e : s' = { s with heap := s'.heap, gens := s'.gens, drawn := s'.drawn, toks := s'.toks } := by
    cases s'
    cases s
    cases o
    rfl
  rw [e]
  exact ⟨.ref p, _, J, rfl, q ss p hs hnd hm hl hpn⟩
/-- len(a set of texts) -/
def rLenSetS (w : World) : List V → Hp → VK → Prop := fun vs H Q => ∃ (a : Addr) (S : Str → Bool) (n : Nat), vs = [V.ref a] ∧ H a = some (SetSO w a S n) ∧ n ≤ 100000 ∧
  ∀ ss : List Str, ss.Nodup → (∀ k : Str, k ∈ ss ↔ S k = true) → ss.length = n → Q (.int n) H
theorem cr_lenSetS : CallR X (.builtin "len") (rLenSetS X.w) := by
  intro pins s σ H vs us Q I r h
  obtain ⟨a, S, n, rfl, ha, hn, q⟩ := h
  rw [Vals.ref1 r]
  obtain ⟨o, es, ep, t, R⟩ := setSO_get I ha
  refine call_len_set R.get R.ex R.dat R.fit (by rw [R.num] <;> omega) ⟨.int n, H, I.tok _, ⟨_, by rw [R.num]⟩, q (es.toList.map txt) R.nd (fun k => (R.mem k).symm) ?_⟩
  rw [List.length_map, Array.length_toList]
  exact R.num
/-- x in a set of texts -/
def rSInS (w : World) (neg : Bool) : V → V → Hp → VK → Prop := fun x y H Q => ∃ (k : Str) (a : Addr) (S : Str → Bool) (n : Nat), x = V.str k ∧ y = V.ref a ∧ H a = some (SetSO w a S n) ∧ Q (.bl (if neg then !S k else S k)) H
theorem or_sinS : OpR X (compareOp .In) (rSInS X.w false) := by
  intro pins s σ H x y v u Q I rx ry h
  obtain ⟨k, a, S, n, rfl, rfl, ha, q⟩ := h
  cases ry
  obtain ⟨t, rfl⟩ := rx
  exact wpAny_inSet_of (str_is (P := X.prog) (w := X.w) k t) rfl (setSO_get I ha).of ⟨.bl (S k), H, I.tok _, rfl, q⟩
end
end L2

set_option Elab.async false
set_option linter.all false
set_option maxRecDepth 100000
set_option maxHeartbeats 4000000
/-! a set of texts, made by a comprehension over two sources without tests -/
namespace SetC2
open PySem PySem.Spec PyProof.Rows L2 SetX
abbrev two (elt t0 i0 t1 i1 : Expr) (scope : Scope) (pos : Pos) : Expr := .SetComp elt [⟨t0, i0, [], 0⟩, ⟨t1, i1, [], 0⟩] scope pos
abbrev No : Value → Shared → Prop := fun _ _ => False
theorem outer_turn (elt t0 i0 t1 i1 : Expr) (scope : Scope) (pos : Pos) (it acc : Value) (env : Env) :
    compTurn (two elt t0 i0 t1 i1 scope pos) 0 it acc env = (do
      standAt i0.pos
      match ← pyNext it with
      | none => pure (.done .next)
      | some v =>
        letOwnedTupleGo t0 it v
        assign t0 env v
        let x ← eval i1 env
        standAt i1.pos
        let x ← foldedSetIterable i1 env x
        let _ ← runOwn (.compStart (two elt t0 i0 t1 i1 scope pos) 1 (← holding [x] (pyIter x)) acc env) env
        again (.compLoop (two elt t0 i0 t1 i1 scope pos) 0 it acc env)) := by rfl
theorem inner_turn (elt t0 i0 t1 i1 : Expr) (scope : Scope) (pos : Pos) (it acc : Value) (env : Env) :
    compTurn (two elt t0 i0 t1 i1 scope pos) 1 it acc env = (do
      standAt i1.pos
      match ← pyNext it with
      | none => pure (.done .next)
      | some v =>
        letOwnedTupleGo t1 it v
        assign t1 env v
        (do let v ← eval elt env; standAt elt.pos; let _ ← call (.builtin "set.add") [acc, v])
        again (.compLoop (two elt t0 i0 t1 i1 scope pos) 1 it acc env)) := by rfl
/-- one step of a walk: the end, or a thing more -/
def Step (J : It) (i : Nat) (H : Hp) (fin nxt : Hp → Prop) (B : V → Hp → (Hp → Prop) → Prop) : Prop :=
  (J.stop i H ∧ fin H) ∨ (J.go i H ∧ ∃ nx : Hp → Prop, (∀ H', nx H' → nxt H') ∧ ∀ x H', J.yld i H x H' → B x H' nx)
/-- a walk to its end, by a measure -/
def Whole (J : It) (H : Hp) (fin : Hp → Prop) (B : V → Hp → (Hp → Prop) → Prop) : Prop :=
  ∃ W : Nat → Nat → Hp → Prop, (∃ m, W 0 m H) ∧ ∀ i m H, W i m H → Step J i H fin (fun H' => ∃ m', m' < m ∧ W (i + 1) m' H') B
theorem whole_list {K : PySem.W.Frag} {a : Addr} {xs : List V} {H : Hp} {fin : Hp → Prop} {B : V → Hp → (Hp → Prop) → Prop} (Pv : Nat → Hp → Prop) (h0 : Pv 0 H) (hl : ∀ i H, Pv i H → SqL K H a xs)
    (hs : ∀ i x H, xs[i]? = some x → Pv i H → B x H (Pv (i + 1))) (hd : ∀ H, Pv xs.length H → fin H) : Whole (Itl K a) H fin B := by
  refine ⟨fun i m H => i + m = xs.length ∧ Pv i H, ⟨xs.length, Nat.zero_add _, h0⟩, fun i m H ⟨e, p⟩ => ?_⟩
  have q := hl i H p
  cases m with
  | zero => exact .inl ⟨⟨xs, q, by omega⟩, hd H (by rw [← e]; exact p)⟩
  | succ m =>
    have hlt : i < xs.length := by omega
    refine .inr ⟨⟨xs, xs[i], q, List.getElem?_eq_getElem hlt⟩, Pv (i + 1), fun H' p' => ⟨m, Nat.lt_succ_self m, by omega, p'⟩, fun x H' y => ?_⟩
    obtain ⟨rfl, y⟩ := y
    exact hs i x _ (y xs q) p
theorem whole_range {lo : Int} {n : Nat} {H : Hp} {fin : Hp → Prop} {B : V → Hp → (Hp → Prop) → Prop} (Pv : Nat → Hp → Prop) (h0 : Pv 0 H)
    (hs : ∀ i H, i < n → Pv i H → B (.int (lo + (i : Int))) H (Pv (i + 1))) (hd : ∀ H, Pv n H → fin H) : Whole (Itr lo n) H fin B := by
  refine ⟨fun i m H => i + m = n ∧ Pv i H, ⟨n, Nat.zero_add _, h0⟩, fun i m H ⟨e, p⟩ => ?_⟩
  cases m with
  | zero => exact .inl ⟨show n ≤ i by omega, hd H (by rw [← e]; exact p)⟩
  | succ m =>
    have hlt : i < n := by omega
    refine .inr ⟨hlt, Pv (i + 1), fun H' p' => ⟨m, Nat.lt_succ_self m, by omega, p'⟩, fun x H' y => ?_⟩
    obtain ⟨rfl, rfl⟩ := y
    exact hs i _ hlt p
theorem thnX {α : Type} {Y : Cx} {t : Sem α} {Q Q' : α → Shared → Prop} {M : Model} {A : Around} {E : Value → Shared → Prop} {s : Shared} (hx : ∀ v s, ¬ Y.xe v s) (h : wpAny M A t Q Y.xe s) (hQ : ∀ a s, Q a s → Q' a s) : wpAny M A t Q' E s :=
  wpAny_mono h hQ fun v s z => (hx v s z).elim
/-- set.add of a text -/
theorem add_text {Y : Cx} {pins : List (Addr × Obj)} {σ : L2.St} {H : Hp} {s : Shared} {E : Value → Shared → Prop} {D : Addr} {S : Str → Bool} {n : Nat} {c : Str} {u : Value} {Q : Value → Shared → Prop} (I : Inv Y pins σ H s) (hD : H D = some (SetSO Y.w D S n)) (hu : RelV (.str c) u) (room : n + 1 < scanBound)
    (h : ∀ s', Inv Y pins σ (upd H D (SetSO Y.w D (fun j => S j || decide (j = c)) (if S c = true then n else n + 1))) s' → Q .none s') : wpAny (model Y.prog Y.w) Y.A (call (.builtin "set.add") [.ref D, u]) Q E s := by
  obtain ⟨tk, rfl⟩ := hu
  refine add_call (setSO_get I hD) room fun h' sb R => h _ ?_
  have he : ∃ u, h'.get? D = some u := let ⟨o, _, _, _, r⟩ := R; ⟨o, r.get⟩
  exact I.write (e := D) (t' := s.toks + 1) (by rw [hD]; trivial) (.inl rfl) (fun b u hb hu => (sb.2 b hb).trans hu) he (setSO_new R)
section
variable {Y : Cx}
/-- a source's next thing, put into its name; what is behind it may go on as it likes as long as it knows the slots -/
theorem hand {tg : Expr} {J : It} {fp : List Addr} {it : Addr} {tn : Nat → Heap → Prop} {g : TG} {pins : List (Addr × Obj)} {σ : L2.St} {H : Hp} {s : Shared} {i : Nat} {vs : List Nat} {B : L2.St → Hp → Prop} (hc : Y.calm = true) (hx : ∀ v s, ¬ Y.xe v s) (T : Turn Y.prog Y.w Y.K tg J fp it tn) (pg : PG Y tg g)
    (I : Inv Y pins σ H s) (hf : ∀ b ∈ fp, FpOk Y pins H b) (st : tn i s.heap) (go : J.go i H) (h : ∀ x H', J.yld i H x H' → g x σ H' fun σ2 H2 => wipe σ2 vs = σ ∧ B σ2 H2) :
    wpAny (model Y.prog Y.w) Y.A (pyNext (.ref it)) (fun r s1 => ∃ u, r = some u ∧ wpAny (model Y.prog Y.w) Y.A (letOwnedTupleGo tg (.ref it) u) (fun _ s2 => wpAny (model Y.prog Y.w) Y.A (assign tg Y.env u)
      (fun _ s3 => ∃ pl σ2 H2, wipe σ2 vs = σ ∧ Inv Y (pins ++ pl) σ2 H2 s3 ∧ B σ2 H2 ∧ ∀ σ9 H9 s9, Inv Y (pins ++ pl) σ9 H9 s9 → σ.length = σ9.length → (∀ (j : Nat) v, σ[j]? = some (some v) → σ9[j]? = some (some v)) → Inv Y pins σ H9 s9 ∧ tn (i + 1) s9.heap ∧ ∀ b ∈ fp, H9 b = none) No s2) No s1) No s := by
  refine thnF (T.item Y rfl rfl rfl hc i pins s σ H No I hf st go) fun r s1 ⟨u, hr, h1⟩ => ⟨u, hr, thnF h1 fun _ s2 ⟨x, H2, I2, rx, hy, st2, n2⟩ => ?_⟩
  have P2 := I2.pinned (fun b hb => ⟨n2 b hb, (hf b hb).2⟩) (T.obj _ _ st2)
  refine thnX hx (pg.run _ s2 σ H2 x u _ P2 rx (h x H2 hy)) fun _ s3 ⟨σ3, H3, I3, hw, b3⟩ => ⟨_, σ3, H3, hw, I3, b3, fun σ9 H9 s9 I9 hl hk => ?_⟩
  have stay : ∀ b ∈ fp, ∀ o, s2.heap.get? b = some o → s9.heap.get? b = some o ∧ H9 b = none := fun b hb o e =>
    let z := I9.pin (b, o) (List.mem_append_right _ (List.mem_append_right _ (mem_pinsAt hb e)))
    ⟨z.1, z.2.1⟩
  refine ⟨I9.unpinned.weak hl hk, T.keep _ _ _ st2 fun b hb o e => (stay b hb o e).1, fun b hb => ?_⟩
  obtain ⟨o, e, _⟩ := T.obj _ _ st2 b hb
  exact (stay b hb o e).2
/-- what the second source's things come to -/
abbrev In (w : World) (g : TG) (te : TE) (D : Addr) (σ : L2.St) (vs : List Nat) : V → Hp → (Hp → Prop) → Prop := fun x H nx => g x σ H fun σ3 H3 => wipe σ3 vs = σ ∧ te σ3 H3 fun y H4 => ∃ (c : Str) (S : Str → Bool) (n : Nat), y = .str c ∧ H4 D = some (SetSO w D S n) ∧ n + 1 < scanBound ∧ nx (upd H4 D (SetSO w D (fun j => S j || decide (j = c)) (if S c = true then n else n + 1)))
theorem wiped {σ τ : L2.St} {vs : List Nat} (h : wipe τ vs = σ) : σ.length = τ.length ∧ ∀ (j : Nat) (v : V), σ[j]? = some (some v) → τ[j]? = some (some v) :=
  ⟨by rw [← h, wipe_length], fun j v e => by rw [← h] at e; exact (wipe_some e).1⟩
theorem inner {elt t0 i0 t1 i1 : Expr} {scope : Scope} {pos : Pos} {J : It} {fp : List Addr} {it D : Addr} {tn : Nat → Heap → Prop} {g : TG} {te : TE} {pins : List (Addr × Obj)} {σ : L2.St} {H : Hp} {s : Shared} {vs : List Nat} {fin : Hp → Prop} {R : Result → Shared → Prop}
    (hc : Y.calm = true) (hx : ∀ v s, ¬ Y.xe v s) (T : Turn Y.prog Y.w Y.K t1 J fp it tn) (pg : PG Y t1 g) (pe : PE Y elt te) (I : Inv Y pins σ H s) (hf : ∀ b ∈ fp, FpOk Y pins H b) (st : tn 0 s.heap) (h : Whole J H fin (In Y.w g te D σ vs))
    (done : ∀ s' H', Inv Y pins σ H' s' → fin H' → R (.ok .next) s') : codeAny (model Y.prog Y.w) Y.A (.compLoop (two elt t0 i0 t1 i1 scope pos) 1 (.ref it) (.ref D) Y.env) R s := by
  obtain ⟨W, ⟨m, w0⟩, turn⟩ := h
  refine codeAny_loop rfl (fun k s' => ∃ j H', Inv Y pins σ H' s' ∧ tn j s'.heap ∧ (∀ b ∈ fp, H' b = none) ∧ W j k H') (fun k s1 ⟨j, H1, I1, st1, n1, w1⟩ => ?_) m ⟨0, H, I, st, fun b hb => (hf b hb).1, w0⟩
  have f1 : ∀ b ∈ fp, FpOk Y pins H1 b := fun b hb => ⟨n1 b hb, (hf b hb).2⟩
  show wpAny _ Y.A ((compTurn (two elt t0 i0 t1 i1 scope pos) 1 (.ref it) (.ref D) Y.env).onRaise (fun x => do noteFrame x Y.env; theTreesLotGoes x)) _ _ s1
  refine wpAny_noted ?_
  rw [inner_turn]
  refine wpAny_bind (wpAny_standAt (wpAny_bind ?_))
  rcases turn j k H1 w1 with ⟨stop, q⟩ | ⟨go, nx, hn, b⟩
  · refine thnF (T.done Y rfl rfl rfl hc j pins _ σ H1 No I1 f1 st1 stop) fun r s2 ⟨hr, I2⟩ => ?_
    subst hr
    exact wpAny_pure (done s2 H1 I2 q)
  · refine thnF (hand (vs := vs) hc hx T pg I1 f1 st1 go b) fun r s2 ⟨u, hr, h2⟩ => ?_
    subst hr
    refine wpAny_bind (thnF h2 fun _ s3 h3 => wpAny_bind (thnF h3 fun _ s4 ⟨pl, σ4, H4, hw, I4, b4, back⟩ => ?_))
    refine wpAny_bind (wpAny_bind (thnX hx (pe.run _ s4 σ4 H4 _ I4 b4) fun z s5 ⟨y, H5, I5, r5, c, S, n, ey, hD5, room, nx5⟩ => ?_))
    subst ey
    refine wpAny_bind (wpAny_standAt (wpAny_bind (add_text I5 hD5 r5 room fun s6 I6 => wpAny_pure (wpAny_pure ⟨rfl, ?_⟩))))
    obtain ⟨I7, st7, n7⟩ := back σ4 _ s6 I6 (wiped hw).1 (wiped hw).2
    obtain ⟨m', hm, w'⟩ := hn _ nx5
    exact ⟨m', hm, j + 1, _, I7, st7, n7, w'⟩
theorem start_inner {elt t0 i0 t1 i1 : Expr} {scope : Scope} {pos : Pos} {prog : Program} {w : World} {A : Around} {R : Result → Shared → Prop} {s : Shared} {it acc : Value} {env : Env}
    (h : codeAny (model prog w) A (.compLoop (two elt t0 i0 t1 i1 scope pos) 1 it acc env) R s)
    (hi : ∀ (Q E : Value → Shared → Prop), Q it s → wpAny (model prog w) A (pyIter it) Q E s) : codeAny (model prog w) A (.compStart (two elt t0 i0 t1 i1 scope pos) 1 it acc env) R s := by
  refine codeAny_of_tree ?_
  show wpAny _ _ ((compStart (two elt t0 i0 t1 i1 scope pos) 1 it acc env).onRaise (fun x => do noteFrame x env; standAt theWindowsPlace)) _ _ s
  refine wpAny_notedAt ?_
  unfold compStart
  show wpAny _ _ (ask >>= _) _ _ s
  refine wpAny_bind (wpAny_askSetting (wpAny_ite ?_))
  split
  · first
      | exact wpAny_pure ⟨rfl, h⟩
      | exact wpAny_bind (wpAny_pure (wpAny_pure ⟨rfl, h⟩))
  · refine wpAny_bind (wpAny_rule ?_)
    show wpAny _ _ (standAt i1.pos >>= _) _ _ s
    exact wpAny_bind (wpAny_standAt (wpAny_bind (hi _ _ (wpAny_pure ⟨rfl, h⟩))))
/-- what the first source's things come to -/
abbrev Out (w : World) (g : TG) (wi1 : TI) (g1 : TG) (te : TE) (D : Addr) (σ : L2.St) (vs vs1 : List Nat) : V → Hp → (Hp → Prop) → Prop := fun x H nx => g x σ H fun σ2 H2 => wipe σ2 vs = σ ∧ wi1 σ2 H2 fun J1 H3 => Whole J1 H3 nx (In w g1 te D (wipe σ2 vs1) vs1)
theorem outer {elt t0 i0 t1 i1 : Expr} {scope : Scope} {pos : Pos} {J : It} {fp : List Addr} {it D : Addr} {tn : Nat → Heap → Prop} {g g1 : TG} {wi1 : TI} {te : TE} {σ : L2.St} {H : Hp} {s : Shared} {vs vs1 : List Nat} {fin : Hp → Prop} {R : Result → Shared → Prop}
    (hc : Y.calm = true) (hx : ∀ v s, ¬ Y.xe v s) (hs1 : ∀ env x, foldedSetIterable i1 env x = pure x) (hv : ∀ i ∈ vs1, i ∈ vs) (T : Turn Y.prog Y.w Y.K t0 J fp it tn) (pg : PG Y t0 g) (pi1 : PI Y t1 i1 wi1) (pg1 : PG Y t1 g1) (pe : PE Y elt te)
    (I : Inv Y [] σ H s) (hf : ∀ b ∈ fp, FpOk Y [] H b) (st : tn 0 s.heap) (h : Whole J H fin (Out Y.w g wi1 g1 te D σ vs vs1))
    (done : ∀ s' H', Inv Y [] σ H' s' → fin H' → R (.ok .next) s') : codeAny (model Y.prog Y.w) Y.A (.compLoop (two elt t0 i0 t1 i1 scope pos) 0 (.ref it) (.ref D) Y.env) R s := by
  obtain ⟨W, ⟨m, w0⟩, turn⟩ := h
  refine codeAny_loop rfl (fun k s' => ∃ j H', Inv Y [] σ H' s' ∧ tn j s'.heap ∧ (∀ b ∈ fp, H' b = none) ∧ W j k H') (fun k s1 ⟨j, H1, I1, st1, n1, w1⟩ => ?_) m ⟨0, H, I, st, fun b hb => (hf b hb).1, w0⟩
  have f1 : ∀ b ∈ fp, FpOk Y [] H1 b := fun b hb => ⟨n1 b hb, (hf b hb).2⟩
  show wpAny _ Y.A ((compTurn (two elt t0 i0 t1 i1 scope pos) 0 (.ref it) (.ref D) Y.env).onRaise (fun x => do noteFrame x Y.env; theTreesLotGoes x)) _ _ s1
  refine wpAny_noted ?_
  rw [outer_turn]
  refine wpAny_bind (wpAny_standAt (wpAny_bind ?_))
  rcases turn j k H1 w1 with ⟨stop, q⟩ | ⟨go, nx, hn, b⟩
  · refine thnF (T.done Y rfl rfl rfl hc j [] _ σ H1 No I1 f1 st1 stop) fun r s2 ⟨hr, I2⟩ => ?_
    subst hr
    exact wpAny_pure (done s2 H1 I2 q)
  · refine thnF (hand (vs := vs) hc hx T pg I1 f1 st1 go b) fun r s2 ⟨u, hr, h2⟩ => ?_
    subst hr
    refine wpAny_bind (thnF h2 fun _ s3 h3 => wpAny_bind (thnF h3 fun _ s4 ⟨pl, σ4, H4, hw, I4, b4, back⟩ => ?_))
    refine wpAny_bind (thnX hx (pi1.run _ s4 σ4 H4 _ I4 b4) fun x s5 h5 => ?_)
    refine wpAny_bind (wpAny_standAt (wpAny_bind (wpAny_of_eq (hs1 _ x) (wpAny_bind (wpAny_holding (thnX hx h5 fun itv s6 h6 => ?_))))))
    obtain ⟨it1, fp1, tn1, J1, H6, e6, I6, T1, st6, f6, W6⟩ := h6
    subst e6
    have know : ∀ (j : Nat) v, σ[j]? = some (some v) → (wipe σ4 vs1)[j]? = some (some v) := fun j v e => by
      rw [← hw] at e
      obtain ⟨e1, e2⟩ := wipe_some e
      rw [wipe_out fun z => e2 (hv j z)]
      exact e1
    have L := inner (elt := elt) (t0 := t0) (i0 := i0) (i1 := i1) (scope := scope) (pos := pos) (R := fun r s' => match r with
        | .ok _ => ∃ m, m < k ∧ ∃ j H', Inv Y [] σ H' s' ∧ tn j s'.heap ∧ (∀ b ∈ fp, H' b = none) ∧ W j m H'
        | .error _ => False) hc hx T1 pg1 pe (I6.weak (wipe_length σ4 vs1) (fun j v e => (wipe_some e).1)) f6 st6 W6 (fun s7 H7 I7 q7 => by
      obtain ⟨I8, st8, n8⟩ := back _ _ s7 I7 (by rw [wipe_length]; exact (wiped hw).1) know
      obtain ⟨m', hm, w'⟩ := hn _ q7
      exact ⟨m', hm, j + 1, _, I8, st8, n8, w'⟩)
    refine wpAny_bind (wpAny_runOwn ?_)
    rw [Around.mark_none]
    refine codeAny_mono (start_inner L fun Q E q => T1.self Y.A 0 _ _ _ st6 q) fun r s' hr => ?_
    cases r with
    | ok f =>
      first
        | exact wpAny_pure ⟨rfl, hr⟩
        | exact wpAny_bind (wpAny_pure (wpAny_pure ⟨rfl, hr⟩))
    | error e => exact hr.elim
end
/-- {elt for t0 in i0 for t1 in i1}: D the new set; vs the block's names, vs1 those of the second target -/
def tSc2 (w : World) (wi : TI) (g : TG) (wi1 : TI) (g1 : TG) (te : TE) (vs vs1 : List Nat) : TE := fun σ H Q => wi σ H fun J H1 => ∀ D, H1 D = none → Whole J (upd H1 D (SetSO w D (fun _ => false) 0)) (Q (.ref D)) (Out w g wi1 g1 te D (wipe σ vs) vs vs1)
section
variable {X : Cx}
/-- a new empty set behind a source's start: what the source needs stays -/
theorem with_set {pins : List (Addr × Obj)} {σ : L2.St} {H : Hp} {s : Shared} {tg : Expr} {J : It} {fp : List Addr} {it : Addr} {tn : Nat → Heap → Prop} (I : Inv X pins σ H s) (T : Turn X.prog X.w X.K tg J fp it tn) (st : tn 0 s.heap) (f : ∀ b ∈ fp, FpOk X pins H b) :
    H s.heap.objs.size = none ∧ Inv X pins σ (upd H s.heap.objs.size (SetSO X.w s.heap.objs.size (fun _ => false) 0)) { s with heap := s.heap.push (newO X.w) } ∧ tn 0 (s.heap.push (newO X.w)) ∧
      ∀ b ∈ fp, FpOk X pins (upd H s.heap.objs.size (SetSO X.w s.heap.objs.size (fun _ => false) 0)) b ∧ b < (s.heap.push (newO X.w)).objs.size := by
  have fr : H s.heap.objs.size = none := I.hok.fresh (Nat.le_refl _)
  have kp : ∀ b o, s.heap.get? b = some o → (s.heap.push (newO X.w)).get? b = some o := fun b o e => Heap.get?_push_of_some _ e
  refine ⟨fr, I.laid (t' := s.toks) kp (Nat.le_refl _) (setSO_new (fresh X.w (Heap.get?_push_size _ rfl))), T.keep _ _ _ st fun b _ o e => kp b o e, fun b hb => ?_⟩
  obtain ⟨o, e, _⟩ := T.obj _ _ st b hb
  have lt := Heap.lt_size e
  exact ⟨⟨by rw [upd_ne (Nat.ne_of_lt lt)]; exact (f b hb).1, (f b hb).2⟩, by rw [Heap.size_push]; exact Nat.lt_succ_of_lt lt⟩
theorem pe_sc2 {elt t0 i0 t1 i1 : Expr} {scope : Scope} {own : List (PySem.Str × Nat)} {vs1 : List Nat} {pos : Pos} {wi wi1 : TI} {g g1 : TG} {te : TE} (hc : X.calm = true) (hN : X.N.Nodup) (hi : PI X t0 i0 wi) (ok : BlkOk X.N X.env.scope scope own) (hv : ∀ i ∈ vs1, i ∈ own.map (·.2))
    (hg : ∀ (s : Shared) (H : Hp) (C : Addr) (cl : List (PySem.Str × Addr)) (fp : List Addr), PG (X.blk s H scope (compEnvC scope cl C X.env) fp) t0 g)
    (hi1 : ∀ (s : Shared) (H : Hp) (C : Addr) (cl : List (PySem.Str × Addr)) (fp : List Addr), PI (X.blk s H scope (compEnvC scope cl C X.env) fp) t1 i1 wi1)
    (hg1 : ∀ (s : Shared) (H : Hp) (C : Addr) (cl : List (PySem.Str × Addr)) (fp : List Addr), PG (X.blk s H scope (compEnvC scope cl C X.env) fp) t1 g1)
    (he : ∀ (s : Shared) (H : Hp) (C : Addr) (cl : List (PySem.Str × Addr)) (fp : List Addr), PE (X.blk s H scope (compEnvC scope cl C X.env) fp) elt te)
    (hs : ∀ x, foldedSetIterable i0 X.env x = pure x := by intro _; rfl) (hs1 : ∀ env x, foldedSetIterable i1 env x = pure x := by intro _ _; rfl) :
    PE X (two elt t0 i0 t1 i1 scope pos) (tSc2 X.w wi g wi1 g1 te (own.map (·.2)) vs1) := by
  refine ⟨fun pins s σ H Q I h => ?_⟩
  rw [PpSet.eval_SetComp]
  have hfree : ∀ y ∈ scope.names, y.2 = .free → ∃ c, X.env.cells.lookup y.1 = some c := fun y hy e => (ok.free y hy e).elim (fun k => I.ok.has _ (.inl k)) fun k => I.ok.has _ (.inr k)
  refine wpAny_comprehension_free (use := none) rfl hs (closure_ok hfree) ok.kind (fun y hy e => by rw [ok.uniq y hy, e]) (thn (hi.run pins s σ H _ I h) fun xv s1 h1 => thn h1 fun itv s2 h2 => ?_)
  obtain ⟨it, fp, tn, J, H2, e, I2, T, st2, f2, q⟩ := h2
  subst e
  refine PpSet.newSet_ok (newEnv_comp ?_)
  obtain ⟨fr, I3, st3, f3⟩ := with_set I2 T st2 f2
  have q := q s2.heap.objs.size fr
  have I4 := block_start I3 ok hN f3
  have st4 : tn 0 (pushCells ((s2.heap.push (newO X.w)).push { cls := Value.type "dict", data := Data.dict #[] }) scope.names) := T.keep _ _ _ st3 fun b _ o e => pushCells_keeps _ _ _ _ (Heap.get?_push_of_some _ e)
  have L := outer (Y := X.blk { s2 with heap := s2.heap.push (newO X.w) } (upd H2 s2.heap.objs.size (SetSO X.w s2.heap.objs.size (fun _ => false) 0)) scope (compEnvC scope (cellsFrom ((s2.heap.push (newO X.w)).objs.size + 1) scope.names (cloFrom X.env.cells scope.names [])) (s2.heap.push (newO X.w)).objs.size X.env) fp) (elt := elt) (i0 := i0) (scope := scope) (pos := pos) (R := compPost (model X.prog X.w) X.A X.xe none (fun u s' => EP X pins σ Q u s') (.ref s2.heap.objs.size) (s2.heap.push (newO X.w)).objs.size) hc (fun _ _ z => z) hs1 hv T (hg _ _ _ _ _) (hi1 _ _ _ _ _) (hg1 _ _ _ _ _) (he _ _ _ _ _) I4
    (fun b hb => ⟨(f3 b hb).1.1, (I4.ok.exf b hb).1, I4.ok.exfs b hb, .inl hb, fun x c e => (I4.ok.exf b hb).2 x c e, fun p hp => absurd (show p ∈ ([] : List (Addr × Obj)) ++ [] from hp) (by simp)⟩) st4 q (fun s5 H5 I5 q5 => ?_)
  · exact PpSet.codeAny_compStart_set L (T.self X.A 0 _ _ _ st4 L)
  · have I6 : Inv X pins σ H5 s5 := I3.call' (ch := fp) I5.os I5.base I5.hok I5.bare fun b hb => ⟨(f3 b hb).1.2.2.2.1, (f3 b hb).1.2.1, (f3 b hb).1.2.2.2.2.1, (f3 b hb).1.2.2.2.2.2⟩
    obtain ⟨m, hn, _⟩ := I5.loc
    obtain ⟨f0, f1, f2', f3', f4, f5⟩ := I3.fpOk (Nat.le_refl _) (show H5 (s2.heap.push (newO X.w)).objs.size = none from I5.free)
    exact ⟨m, hn, fun h'' sb => ⟨.ref _, H5, I6.turned (t' := s5.toks) (fun b o hb e => (sb.2 b hb).trans e) f0 f1 f3' f4 f5, rfl, q5⟩⟩
end
end SetC2

set_option Elab.async false
set_option linter.all false
set_option maxRecDepth 100000
set_option maxHeartbeats 4000000
/-! a set of texts, made by a comprehension over one source without tests -/
namespace SetC1
open PySem PySem.Spec PyProof.Rows L2 SetX SetC2
abbrev one (elt t0 i0 : Expr) (scope : Scope) (pos : Pos) : Expr := .SetComp elt [⟨t0, i0, [], 0⟩] scope pos
theorem one_turn (elt t0 i0 : Expr) (scope : Scope) (pos : Pos) (it acc : Value) (env : Env) :
    compTurn (one elt t0 i0 scope pos) 0 it acc env = (do
      standAt i0.pos
      match ← pyNext it with
      | none => pure (.done .next)
      | some v =>
        letOwnedTupleGo t0 it v
        assign t0 env v
        (do let v ← eval elt env; standAt elt.pos; let _ ← call (.builtin "set.add") [acc, v])
        again (.compLoop (one elt t0 i0 scope pos) 0 it acc env)) := by rfl
section
variable {Y : Cx}
theorem single {elt t0 i0 : Expr} {scope : Scope} {pos : Pos} {J : It} {fp : List Addr} {it D : Addr} {tn : Nat → Heap → Prop} {g : TG} {te : TE} {pins : List (Addr × Obj)} {σ : L2.St} {H : Hp} {s : Shared} {vs : List Nat} {fin : Hp → Prop} {R : Result → Shared → Prop}
    (hc : Y.calm = true) (hx : ∀ v s, ¬ Y.xe v s) (T : Turn Y.prog Y.w Y.K t0 J fp it tn) (pg : PG Y t0 g) (pe : PE Y elt te) (I : Inv Y pins σ H s) (hf : ∀ b ∈ fp, FpOk Y pins H b) (st : tn 0 s.heap) (h : Whole J H fin (In Y.w g te D σ vs))
    (done : ∀ s' H', Inv Y pins σ H' s' → fin H' → R (.ok .next) s') : codeAny (model Y.prog Y.w) Y.A (.compLoop (one elt t0 i0 scope pos) 0 (.ref it) (.ref D) Y.env) R s := by
  obtain ⟨W, ⟨m, w0⟩, turn⟩ := h
  refine codeAny_loop rfl (fun k s' => ∃ j H', Inv Y pins σ H' s' ∧ tn j s'.heap ∧ (∀ b ∈ fp, H' b = none) ∧ W j k H') (fun k s1 ⟨j, H1, I1, st1, n1, w1⟩ => ?_) m ⟨0, H, I, st, fun b hb => (hf b hb).1, w0⟩
  have f1 : ∀ b ∈ fp, FpOk Y pins H1 b := fun b hb => ⟨n1 b hb, (hf b hb).2⟩
  show wpAny _ Y.A ((compTurn (one elt t0 i0 scope pos) 0 (.ref it) (.ref D) Y.env).onRaise (fun x => do noteFrame x Y.env; theTreesLotGoes x)) _ _ s1
  refine wpAny_noted ?_
  rw [one_turn]
  refine wpAny_bind (wpAny_standAt (wpAny_bind ?_))
  rcases turn j k H1 w1 with ⟨stop, q⟩ | ⟨go, nx, hn, b⟩
  · refine thnF (T.done Y rfl rfl rfl hc j pins _ σ H1 No I1 f1 st1 stop) fun r s2 ⟨hr, I2⟩ => ?_
    subst hr
    exact wpAny_pure (done s2 H1 I2 q)
  · refine thnF (hand (vs := vs) hc hx T pg I1 f1 st1 go b) fun r s2 ⟨u, hr, h2⟩ => ?_
    subst hr
    refine wpAny_bind (thnF h2 fun _ s3 h3 => wpAny_bind (thnF h3 fun _ s4 ⟨pl, σ4, H4, hw, I4, b4, back⟩ => ?_))
    refine wpAny_bind (wpAny_bind (thnX hx (pe.run _ s4 σ4 H4 _ I4 b4) fun z s5 ⟨y, H5, I5, r5, c, S, n, ey, hD5, room, nx5⟩ => ?_))
    subst ey
    refine wpAny_bind (wpAny_standAt (wpAny_bind (add_text I5 hD5 r5 room fun s6 I6 => wpAny_pure (wpAny_pure ⟨rfl, ?_⟩))))
    obtain ⟨I7, st7, n7⟩ := back σ4 _ s6 I6 (wiped hw).1 (wiped hw).2
    obtain ⟨m', hm, w'⟩ := hn _ nx5
    exact ⟨m', hm, j + 1, _, I7, st7, n7, w'⟩
end
/-- {elt for t0 in i0}: D the new set; vs the block's names -/
def tSc1 (w : World) (wi : TI) (g : TG) (te : TE) (vs : List Nat) : TE := fun σ H Q => wi σ H fun J H1 => ∀ D, H1 D = none → Whole J (upd H1 D (SetSO w D (fun _ => false) 0)) (Q (.ref D)) (In w g te D (wipe σ vs) vs)
section
variable {X : Cx}
theorem pe_sc1 {elt t0 i0 : Expr} {scope : Scope} {own : List (PySem.Str × Nat)} {pos : Pos} {wi : TI} {g : TG} {te : TE} (hc : X.calm = true) (hN : X.N.Nodup) (hi : PI X t0 i0 wi) (ok : BlkOk X.N X.env.scope scope own)
    (hg : ∀ (s : Shared) (H : Hp) (C : Addr) (cl : List (PySem.Str × Addr)) (fp : List Addr), PG (X.blk s H scope (compEnvC scope cl C X.env) fp) t0 g)
    (he : ∀ (s : Shared) (H : Hp) (C : Addr) (cl : List (PySem.Str × Addr)) (fp : List Addr), PE (X.blk s H scope (compEnvC scope cl C X.env) fp) elt te)
    (hs : ∀ x, foldedSetIterable i0 X.env x = pure x := by intro _; rfl) :
    PE X (one elt t0 i0 scope pos) (tSc1 X.w wi g te (own.map (·.2))) := by
  refine ⟨fun pins s σ H Q I h => ?_⟩
  rw [PpSet.eval_SetComp]
  have hfree : ∀ y ∈ scope.names, y.2 = .free → ∃ c, X.env.cells.lookup y.1 = some c := fun y hy e => (ok.free y hy e).elim (fun k => I.ok.has _ (.inl k)) fun k => I.ok.has _ (.inr k)
  refine wpAny_comprehension_free (use := none) rfl hs (closure_ok hfree) ok.kind (fun y hy e => by rw [ok.uniq y hy, e]) (thn (hi.run pins s σ H _ I h) fun xv s1 h1 => thn h1 fun itv s2 h2 => ?_)
  obtain ⟨it, fp, tn, J, H2, e, I2, T, st2, f2, q⟩ := h2
  subst e
  refine PpSet.newSet_ok (newEnv_comp ?_)
  obtain ⟨fr, I3, st3, f3⟩ := with_set I2 T st2 f2
  have q := q s2.heap.objs.size fr
  have I4 := block_start I3 ok hN f3
  have st4 : tn 0 (pushCells ((s2.heap.push (newO X.w)).push { cls := Value.type "dict", data := Data.dict #[] }) scope.names) := T.keep _ _ _ st3 fun b _ o e => pushCells_keeps _ _ _ _ (Heap.get?_push_of_some _ e)
  have L := single (Y := X.blk { s2 with heap := s2.heap.push (newO X.w) } (upd H2 s2.heap.objs.size (SetSO X.w s2.heap.objs.size (fun _ => false) 0)) scope (compEnvC scope (cellsFrom ((s2.heap.push (newO X.w)).objs.size + 1) scope.names (cloFrom X.env.cells scope.names [])) (s2.heap.push (newO X.w)).objs.size X.env) fp) (elt := elt) (i0 := i0) (scope := scope) (pos := pos) (R := compPost (model X.prog X.w) X.A X.xe none (fun u s' => EP X pins σ Q u s') (.ref s2.heap.objs.size) (s2.heap.push (newO X.w)).objs.size) hc (fun _ _ z => z) T (hg _ _ _ _ _) (he _ _ _ _ _) I4
    (fun b hb => ⟨(f3 b hb).1.1, (I4.ok.exf b hb).1, I4.ok.exfs b hb, .inl hb, fun x c e => (I4.ok.exf b hb).2 x c e, fun p hp => absurd (show p ∈ ([] : List (Addr × Obj)) ++ [] from hp) (by simp)⟩) st4 q (fun s5 H5 I5 q5 => ?_)
  · exact PpSet.codeAny_compStart_set L (T.self X.A 0 _ _ _ st4 L)
  · have I6 : Inv X pins σ H5 s5 := I3.call' (ch := fp) I5.os I5.base I5.hok I5.bare fun b hb => ⟨(f3 b hb).1.2.2.2.1, (f3 b hb).1.2.1, (f3 b hb).1.2.2.2.2.1, (f3 b hb).1.2.2.2.2.2⟩
    obtain ⟨m, hn, _⟩ := I5.loc
    obtain ⟨f0, f1, f2', f3', f4, f5⟩ := I3.fpOk (Nat.le_refl _) (show H5 (s2.heap.push (newO X.w)).objs.size = none from I5.free)
    exact ⟨m, hn, fun h'' sb => ⟨.ref _, H5, I6.turned (t' := s5.toks) (fun b o hb e => (sb.2 b hb).trans e) f0 f1 f3' f4 f5, rfl, q5⟩⟩
end
end SetC1

set_option Elab.async false
set_option linter.all false
set_option maxRecDepth 100000
set_option maxHeartbeats 4000000
/-! a dict whose keys are tuples, made by a comprehension over one source without tests -/
namespace DcT
open PySem PySem.Spec PyProof.Rows L2 SetC2
abbrev one (kx vx t0 i0 : Expr) (scope : Scope) (pos : Pos) : Expr := .DictComp kx vx [⟨t0, i0, [], 0⟩] scope pos
section
variable {Y : Cx}
/-- an entry by a tuple -/
theorem put_tup {pins : List (Addr × Obj)} {σ : L2.St} {H : Hp} {s : Shared} {E : Value → Shared → Prop} {D b : Addr} {kvs : List (List Key × V)} {k : List Key} {z : V} {u r : Value} {Q : Unit → Shared → Prop} (hu : Y.A.units + 1 < cLine) (I : Inv Y pins σ H s) (hD : H D = some (.dT kvs)) (hb : H b = some (.tup (k.map kV))) (hz : kvs.length < sizeLine)
    (ru : RelV (.ref b) u) (rr : RelV z r) (h : ∀ s', Inv Y pins σ (upd H D (.dT (putK kvs k z))) s' → Q () s') : wpAny (model Y.prog Y.w) Y.A (dictSet D u r) Q E s := by
  cases (show u = Value.ref b from ru)
  obtain ⟨l0, hd, xs, rel, dd⟩ := dt_of I.hok hD
  have hl : (putK kvs k z).length ≤ sizeLine := by have := length_putK kvs k z; omega
  have hxs : xs.length ≤ sizeLine := by rw [← Paired.length rel]; exact l0
  refine wpAny_dictSet_heap (hsz := hxs) (show Y.A.units < cLine by omega) (key_of I.hok hb) dd fun h' dd' hs => h _ ?_
  obtain ⟨q, es, ep, hq, h2, h3, h4, _, h5⟩ := dd'
  refine d_write I (by rw [hD]; exact True.intro) hs ⟨q, hq⟩ ⟨hl, hd, _, (rel.put k hb rr).keeps fun c ys ec => ?_, q, es, ep, hq, h2, h3, h4, h5⟩
  rw [upd_ne (ne_of ec hD (fun z => nomatch z))]
  exact ec
/-- what the source's things come to -/
abbrev InT (g : TG) (tk tv : TE) (D : Addr) (σ : L2.St) (vs : List Nat) : V → Hp → (Hp → Prop) → Prop := fun x H nx => g x σ H fun σ3 H3 => wipe σ3 vs = σ ∧ tk σ3 H3 fun y H4 => tv σ3 H4 fun z H5 => ∃ (kvs : List (List Key × V)) (k : List Key) (b : Addr), y = .ref b ∧ H5 b = some (.tup (k.map kV)) ∧ H5 D = some (.dT kvs) ∧ kvs.length < sizeLine ∧ nx (upd H5 D (.dT (putK kvs k z)))
theorem single {kx vx t0 i0 : Expr} {scope : Scope} {pos : Pos} {J : It} {fp : List Addr} {it D : Addr} {tn : Nat → Heap → Prop} {g : TG} {tk tv : TE} {pins : List (Addr × Obj)} {σ : L2.St} {H : Hp} {s : Shared} {vs : List Nat} {fin : Hp → Prop} {R : Result → Shared → Prop}
    (hu : Y.A.units + 1 < cLine) (hc : Y.calm = true) (hx : ∀ v s, ¬ Y.xe v s) (T : Turn Y.prog Y.w Y.K t0 J fp it tn) (pg : PG Y t0 g) (pk : PE Y kx tk) (pv : PE Y vx tv) (I : Inv Y pins σ H s) (hf : ∀ b ∈ fp, FpOk Y pins H b) (st : tn 0 s.heap) (h : Whole J H fin (InT g tk tv D σ vs))
    (done : ∀ s' H', Inv Y pins σ H' s' → fin H' → R (.ok .next) s') : codeAny (model Y.prog Y.w) Y.A (.compLoop (one kx vx t0 i0 scope pos) 0 (.ref it) (.ref D) Y.env) R s := by
  obtain ⟨W, ⟨m, w0⟩, turn⟩ := h
  refine compLoop_anyD (fun k s' => ∃ j H', Inv Y pins σ H' s' ∧ tn j s'.heap ∧ (∀ b ∈ fp, H' b = none) ∧ W j k H') (fun k s1 ⟨j, H1, I1, st1, n1, w1⟩ => ?_) m ⟨0, H, I, st, fun b hb => (hf b hb).1, w0⟩
  have f1 : ∀ b ∈ fp, FpOk Y pins H1 b := fun b hb => ⟨n1 b hb, (hf b hb).2⟩
  rcases turn j k H1 w1 with ⟨stop, q⟩ | ⟨go, nx, hn, b⟩
  · refine thnF (T.done Y rfl rfl rfl hc j pins _ σ H1 No I1 f1 st1 stop) fun r s2 ⟨hr, I2⟩ => ?_
    subst hr
    exact done s2 H1 I2 q
  · refine thnF (hand (vs := vs) hc hx T pg I1 f1 st1 go b) fun r s2 ⟨u, hr, h2⟩ => ?_
    subst hr
    refine thnF h2 fun _ s3 h3 => thnF h3 fun _ s4 ⟨pl, σ4, H4, hw, I4, b4, back⟩ => ?_
    refine wpAny_pure ?_
    rw [if_pos rfl]
    refine thnX hx (pk.run _ s4 σ4 H4 _ I4 b4) fun ku s5 ⟨y, H5, I5, r5, b5⟩ => ?_
    refine thnX hx (pv.run _ s5 σ4 H5 _ I5 b5) fun vu s6 ⟨z, H6, I6, r6, kvs, key, b, ey, hb, hD6, hz, nx6⟩ => ?_
    subst ey
    refine put_tup hu I6 hD6 hb hz r5 r6 fun s7 I7 => ?_
    obtain ⟨I8, st8, n8⟩ := back σ4 _ s7 I7 (wiped hw).1 (wiped hw).2
    obtain ⟨m', hm, w'⟩ := hn _ nx6
    exact ⟨m', hm, j + 1, _, I8, st8, n8, w'⟩
end
/-- {kx: vx for t0 in i0}: D the new dict; vs the block's names -/
def tDcT (wi : TI) (g : TG) (tk tv : TE) (vs : List Nat) : TE := fun σ H Q => wi σ H fun J H1 => ∀ D, H1 D = none → Whole J (upd H1 D (.dT [])) (Q (.ref D)) (InT g tk tv D (wipe σ vs) vs)
section
variable {X : Cx}
theorem with_dict {pins : List (Addr × Obj)} {σ : L2.St} {H : Hp} {s : Shared} {tg : Expr} {J : It} {fp : List Addr} {it : Addr} {tn : Nat → Heap → Prop} (I : Inv X pins σ H s) (T : Turn X.prog X.w X.K tg J fp it tn) (st : tn 0 s.heap) (f : ∀ b ∈ fp, FpOk X pins H b) :
    H s.heap.objs.size = none ∧ Inv X pins σ (upd H s.heap.objs.size (.dT [])) { s with heap := s.heap.push { cls := .type "dict", data := .dict #[] } } ∧ tn 0 (s.heap.push { cls := .type "dict", data := .dict #[] }) ∧
      ∀ b ∈ fp, FpOk X pins (upd H s.heap.objs.size (.dT [])) b ∧ b < (s.heap.push { cls := .type "dict", data := .dict #[] }).objs.size := by
  have fr : H s.heap.objs.size = none := I.hok.fresh (Nat.le_refl _)
  have kp : ∀ b o, s.heap.get? b = some o → (s.heap.push { cls := .type "dict", data := .dict #[] }).get? b = some o := fun b o e => Heap.get?_push_of_some _ e
  refine ⟨fr, I.laid (t' := s.toks) kp (Nat.le_refl _) (dt_empty s.heap I.big), T.keep _ _ _ st fun b _ o e => kp b o e, fun b hb => ?_⟩
  obtain ⟨o, e, _⟩ := T.obj _ _ st b hb
  have lt := Heap.lt_size e
  exact ⟨⟨by rw [upd_ne (Nat.ne_of_lt lt)]; exact (f b hb).1, (f b hb).2⟩, by rw [Heap.size_push]; exact Nat.lt_succ_of_lt lt⟩
theorem core {kx vx t0 i0 : Expr} {scope : Scope} {own : List (PySem.Str × Nat)} {pos pos' : Pos} {wi : TI} {g : TG} {tk tv : TE} {use : Option (Value → Sem Unit)} {Qf : Value → Shared → Prop} {pins : List (Addr × Obj)} {s : Shared} {σ : L2.St} {H : Hp} {Q : VK} (hu : X.A.units + 1 < cLine) (hc : X.calm = true) (hN : X.N.Nodup) (I : Inv X pins σ H s) (hi : PI X t0 i0 wi) (ok : BlkOk X.N X.env.scope scope own)
    (hg : ∀ (s : Shared) (H : Hp) (C : Addr) (cl : List (PySem.Str × Addr)) (fp : List Addr), PG (X.blk s H scope (compEnvC scope cl C X.env) fp) t0 g)
    (hk : ∀ (s : Shared) (H : Hp) (C : Addr) (cl : List (PySem.Str × Addr)) (fp : List Addr), PE (X.blk s H scope (compEnvC scope cl C X.env) fp) kx tk)
    (he : ∀ (s : Shared) (H : Hp) (C : Addr) (cl : List (PySem.Str × Addr)) (fp : List Addr), PE (X.blk s H scope (compEnvC scope cl C X.env) fp) vx tv)
    (hs : ∀ x, foldedSetIterable i0 X.env x = pure x) (h : tDcT wi g tk tv (own.map (·.2)) σ H Q)
    (hRR : ∀ D C s' m H', Inv X pins σ H' s' → Q (.ref D) H' → s'.heap.Ns C m → FpOk X pins H' C → compPost (model X.prog X.w) X.A X.xe use Qf (.ref D) C (.ok .next) s') :
    wpAny (model X.prog X.w) X.A (comprehension (one kx vx t0 i0 scope pos) scope X.env pos' newDict false (eval i0 X.env) use) Qf X.xe s := by
  have hfree : ∀ y ∈ scope.names, y.2 = .free → ∃ c, X.env.cells.lookup y.1 = some c := fun y hy e => (ok.free y hy e).elim (fun k => I.ok.has _ (.inl k)) fun k => I.ok.has _ (.inr k)
  refine wpAny_comprehension_free (use := use) rfl hs (closure_ok hfree) ok.kind (fun y hy e => by rw [ok.uniq y hy, e]) (thn (hi.run pins s σ H _ I h) fun xv s1 h1 => thn h1 fun itv s2 h2 => ?_)
  obtain ⟨it, fp, tn, J, H2, e, I2, T, st2, f2, q⟩ := h2
  subst e
  refine wpAny_newObj_type (newEnv_comp ?_)
  obtain ⟨fr, I3, st3, f3⟩ := with_dict I2 T st2 f2
  have q := q s2.heap.objs.size fr
  have I4 := block_start I3 ok hN f3
  have st4 : tn 0 (pushCells ((s2.heap.push { cls := .type "dict", data := .dict #[] }).push { cls := Value.type "dict", data := Data.dict #[] }) scope.names) := T.keep _ _ _ st3 fun b _ o e => pushCells_keeps _ _ _ _ (Heap.get?_push_of_some _ e)
  have L := single (Y := X.blk { s2 with heap := s2.heap.push { cls := .type "dict", data := .dict #[] } } (upd H2 s2.heap.objs.size (.dT [])) scope (compEnvC scope (cellsFrom ((s2.heap.push { cls := .type "dict", data := .dict #[] }).objs.size + 1) scope.names (cloFrom X.env.cells scope.names [])) (s2.heap.push { cls := .type "dict", data := .dict #[] }).objs.size X.env) fp) (kx := kx) (vx := vx) (i0 := i0) (scope := scope) (pos := pos) (R := compPost (model X.prog X.w) X.A X.xe use Qf (.ref s2.heap.objs.size) (s2.heap.push { cls := .type "dict", data := .dict #[] }).objs.size) hu hc (fun _ _ z => z) T (hg _ _ _ _ _) (hk _ _ _ _ _) (he _ _ _ _ _) I4
    (fun b hb => ⟨(f3 b hb).1.1, (I4.ok.exf b hb).1, I4.ok.exfs b hb, .inl hb, fun x c e => (I4.ok.exf b hb).2 x c e, fun p hp => absurd (show p ∈ ([] : List (Addr × Obj)) ++ [] from hp) (by simp)⟩) st4 q (fun s5 H5 I5 q5 => ?_)
  · exact codeAny_compStart_dict L (T.self X.A 0 _ _ _ st4 L)
  · have I6 : Inv X pins σ H5 s5 := I3.call' (ch := fp) I5.os I5.base I5.hok I5.bare fun b hb => ⟨(f3 b hb).1.2.2.2.1, (f3 b hb).1.2.1, (f3 b hb).1.2.2.2.2.1, (f3 b hb).1.2.2.2.2.2⟩
    obtain ⟨m, hn, _⟩ := I5.loc
    exact hRR _ _ s5 m H5 I6 q5 hn (I3.fpOk (Nat.le_refl _) (show H5 (s2.heap.push { cls := .type "dict", data := .dict #[] }).objs.size = none from I5.free))
theorem pe_dcT {kx vx t0 i0 : Expr} {scope : Scope} {own : List (PySem.Str × Nat)} {pos : Pos} {wi : TI} {g : TG} {tk tv : TE} (hu : X.A.units + 1 < cLine) (hc : X.calm = true) (hN : X.N.Nodup) (hi : PI X t0 i0 wi) (ok : BlkOk X.N X.env.scope scope own)
    (hg : ∀ (s : Shared) (H : Hp) (C : Addr) (cl : List (PySem.Str × Addr)) (fp : List Addr), PG (X.blk s H scope (compEnvC scope cl C X.env) fp) t0 g)
    (hk : ∀ (s : Shared) (H : Hp) (C : Addr) (cl : List (PySem.Str × Addr)) (fp : List Addr), PE (X.blk s H scope (compEnvC scope cl C X.env) fp) kx tk)
    (he : ∀ (s : Shared) (H : Hp) (C : Addr) (cl : List (PySem.Str × Addr)) (fp : List Addr), PE (X.blk s H scope (compEnvC scope cl C X.env) fp) vx tv)
    (hs : ∀ x, foldedSetIterable i0 X.env x = pure x := by intro _; rfl) : PE X (one kx vx t0 i0 scope pos) (tDcT wi g tk tv (own.map (·.2))) := by
  refine ⟨fun pins s σ H Q I h => ?_⟩
  rw [arm_eval_DictComp]
  refine core hu hc hN I hi ok hg hk he hs h fun D C s' m H' I' q hn f => ⟨m, hn, fun h'' sb => ?_⟩
  exact ⟨.ref D, H', I'.turned (t' := s'.toks) (fun b o hb e => (sb.2 b hb).trans e) f.1 f.2.1 f.2.2.2.1 f.2.2.2.2.1 f.2.2.2.2.2, rfl, q⟩
/-- put into a name at once -/
theorem ps_setDcT {i : Nat} {y : PySem.Str} {py : Pos} {kx vx t0 i0 : Expr} {scope : Scope} {own : List (PySem.Str × Nat)} {pos spos : Pos} {wi : TI} {g : TG} {tk tv : TE} (hu : X.A.units + 1 < cLine) (hc : X.calm = true) (hN : X.N.Nodup) (hy : X.N[i]? = some y) (hyl : X.env.scope.names.lookup y = some .local)
    (hsw : swapsWith (one kx vx t0 i0 scope pos) (some (.Name y py)) spos.line X.env = pure true) (hi : PI X t0 i0 wi) (ok : BlkOk X.N X.env.scope scope own)
    (hg : ∀ (s : Shared) (H : Hp) (C : Addr) (cl : List (PySem.Str × Addr)) (fp : List Addr), PG (X.blk s H scope (compEnvC scope cl C X.env) fp) t0 g)
    (hk : ∀ (s : Shared) (H : Hp) (C : Addr) (cl : List (PySem.Str × Addr)) (fp : List Addr), PE (X.blk s H scope (compEnvC scope cl C X.env) fp) kx tk)
    (he : ∀ (s : Shared) (H : Hp) (C : Addr) (cl : List (PySem.Str × Addr)) (fp : List Addr), PE (X.blk s H scope (compEnvC scope cl C X.env) fp) vx tv)
    (hs : ∀ x, foldedSetIterable i0 X.env x = pure x := by intro _; rfl) : PS X (.Assign [.Name y py] (one kx vx t0 i0 scope pos) spos) (tAsg (tDcT wi g tk tv (own.map (·.2))) (gName i)) := by
  constructor
  intro pins s σ H Z I h
  replace h : tDcT wi g tk tv (own.map (·.2)) σ H (fun x H1 => gName i x σ H1 Z.nx) := h
  rw [exec_Assign_Name_used _ _ _ _ hsw]
  refine wpAny_bind (wpAny_standAt (wpAny_bind ?_))
  show wpAny _ X.A (do let _ ← comprehension (one kx vx t0 i0 scope pos) scope X.env (firstIterPos [⟨t0, i0, [], 0⟩] pos) newDict false (eval i0 X.env) (some (assign (.Name y py) X.env))) _ _ s
  have c := core (use := some (assign (.Name y py) X.env)) (pos := pos) (pos' := firstIterPos [⟨t0, i0, [], 0⟩] pos) (Qf := fun _ s' => SP X pins Z .next s') hu hc hN I hi ok hg hk he hs h fun D C s1 m H1 I1 q hn f => by
    show wpAny _ _ (assign (.Name y py) X.env (.ref D)) _ _ _
    refine wpAny_assign_Name (store_ok2 (v := V.ref D) I1 hN hy (.inl hyl) rfl (fun s2 I2 ⟨a, sb, ha⟩ => ?_) (.inr hyl))
    have ne : C ≠ a := ha.elim (fun z => by rw [z]; exact f.2.1) fun z => fun e => f.2.2.2.2.1 y a z e.symm
    exact ⟨m, hn.sameBut sb ne, fun h3 sb3 => ⟨_, H1, I2.turned (t' := s2.toks) (fun b o hb e => (sb3.2 b hb).trans e) f.1 f.2.1 f.2.2.2.1 f.2.2.2.2.1 f.2.2.2.2.2, q⟩⟩
  exact wpAny_bind (thn c fun _ s' hq => wpAny_pure (wpAny_pure hq))
end
end DcT

set_option Elab.async false
set_option linter.all false
set_option maxRecDepth 100000
/-! o.name(e, ..) with a letter for the frozen heap: for the word of a comprehension -/
namespace L2
open PySem PySem.Spec PyProof.Rows
theorem pe_bmK {X : Cx} {K : PySem.W.Frag} (hK : X.K = K) {o e : Expr} {es : List Expr} {to : TE} {t : TA} {name : Str} {apos cpos : Pos} {T id : String} {r : V → List V → Hp → VK → Prop}
    (pa : PlainAttrs T) (slot : Slot T name id) (hty : typeOf (.builtin id) = pure (.type "method_descriptor")) (hm : MtR X id r) (ho : PE X o to) (ha : PA X (e :: es) t)
    (h1 : attributeBase o name X.env (eval o X.env) = eval o X.env := by rfl)
    (h2 : (((backTo cpos (starEach (e :: es) X.env)).all (!·.1) && (backToKw cpos (keywordEach [] X.env)).all (·.1.isSome)) && decide ((e :: es).length + ([] : List Keyword).length + (if ([] : List Keyword).isEmpty then 0 else 1) < 30)) = true := by rfl)
    (h3 : (apos.endLine == cpos.line) = true := by rfl) (h4 : starEach (e :: es) X.env = (false, eval e X.env) :: starEach es X.env := by rfl) (h5 : (backTo cpos (starEach es X.env)).any (·.1) = false := by rfl) :
    PE X (.Call (.Attribute o name apos) (e :: es) [] cpos) (tBM K T r to t) := by
  subst hK
  exact pe_bm pa slot hty hm ho ha h1 h2 h3 h4 h5
end L2

set_option Elab.async false
set_option linter.all false
set_option maxRecDepth 100000
set_option maxHeartbeats 4000000
namespace L2
open PySem PySem.Spec PyProof.Rows
namespace DelS
/-- what is kept of numbered items -/
theorem keep {α : Type} (c : Nat) (f : Nat → Bool) : ∀ (xs : List α) (j : Nat), (∀ k, j ≤ k → k < j + xs.length → f k = decide (c ≤ k)) →
    ((xs.zipIdx j).filterMap fun (x, k) => if f k = true then none else some x) = xs.take (c - j)
  | [], _, _ => by simp
  | x :: xs, j, h => by
    have ih := keep c f xs (j + 1) fun k h1 h2 => h k (by omega) (by rw [List.length_cons]; omega)
    have h0 := h j (Nat.le_refl _) (by rw [List.length_cons]; omega)
    rw [List.zipIdx_cons, List.filterMap_cons]
    by_cases hc : c ≤ j
    · have e : f j = true := by rw [h0]; exact decide_eq_true hc
      simp only [e, if_true]
      rw [ih, show c - (j + 1) = 0 by omega, show c - j = 0 by omega]
      rfl
    · have e : f j = false := by rw [h0]; exact decide_eq_false hc
      simp only [e, Bool.false_eq_true, if_false]
      rw [ih, show c - j = (c - (j + 1)) + 1 by omega, List.take_succ_cons]
end DelS
section
variable {prog : Program} {w : World} {A : Around} {E : Value → Shared → Prop} {s : Shared}
theorem bounds_from {a n : Nat} (ha : a ≤ n) : sliceBounds (some (a : Int)) none none n = ((a : Int), (n : Int), 1) := by
  simp only [sliceBounds, Option.getD_none]
  have h1 : ¬ ((a : Int) < 0) := by omega
  simp only [h1, if_false, show (1 : Int) > 0 by decide, if_true]
  congr 1
  omega
def selB (a n : Int) (k : Nat) : Bool := decide (a ≤ (k : Int)) && decide ((k : Int) < n) && ((((k : Int) - a) % 1) == 0)
theorem selB_is {a n k : Nat} (h : k < n) : selB (a : Int) (n : Int) k = decide (a ≤ k) := by
  unfold selB
  rw [Int.emod_one]
  have : decide ((k : Int) < (n : Int)) = true := decide_eq_true (by omega)
  rw [this]
  simp
/-- list.__delitem__ with a slice from a place on -/
theorem delItem_slice {l sl : Addr} {items : List Value} {n : Nat} {vl : Value} {a : Nat} {Q : Unit → Shared → Prop}
    (e : s.heap.get? l = some { cls := .type "list", data := .seq items.toArray n })
    (hs : s.heap.IsSliceOf sl vl .none .none) (pl : IsPart vl (some (a : Int))) (ha : a ≤ items.length)
    (hsz : items.length ≤ sizeLine) (h : ∀ f : Array Value → Array Value, f items.toArray = (items.take a).toArray → Q () { s with heap := s.heap.update l (Obj.mapSeq f) }) :
    wpAny (model prog w) A (delItem (.ref l) (.ref sl)) Q E s := by
  have hl : s.heap.IsList l items.toArray := PySem.IsL.isList e
  obtain ⟨os, hos, hcs, hds⟩ := id hs
  have hTs : s.TypeIs (.ref sl) "slice" := ⟨os, hos, hcs⟩
  have hstep : ¬ ((rawPart none == rawInt 0) = true) := Bool.false_ne_true
  have hk : (fun xs : Array Value => (xs.toList.zipIdx.filterMap fun (x, k) => if selB (a : Int) (items.toArray.size : Int) k = true then none else some x).toArray) items.toArray = (items.take a).toArray := by
    show ((items.toArray.toList.zipIdx.filterMap fun (x, k) => if selB (a : Int) (items.toArray.size : Int) k = true then none else some x).toArray) = _
    rw [DelS.keep a _ _ 0 (fun k _ h2 => selB_is (by rw [List.size_toArray]; simpa using h2))]
    simp
  have hz' : ((fun xs : Array Value => (xs.toList.zipIdx.filterMap fun (x, k) => if selB (a : Int) (items.toArray.size : Int) k = true then none else some x).toArray) items.toArray).size ≤ sizeLine + 1 := by
    rw [hk, List.size_toArray, List.length_take]
    omega
  unfold delItem
  try with_reducible refine wpAny_holding ?_
  first | refine wpAny_bind (wpAny_pure ?_) | skip
  refine wpAny_bind (wpAny_sequenceKey hl.typeIs (by decide) ?_)
  refine wpAny_bind (wpAny_callSpecial?_slot (name := Str.ofString "__delitem__") hl.typeIs F.slot_list_delitem
    (wpAny_call_entry F.slot_list_delitem hl.typeIs F.entry_list_delitem ?_ (F.args_list_delitem_2 _ _)))
  show wpAny _ _ (Builtin.List.listSubscript? (.ref sl) >>= _) _ _ s
  refine wpAny_bind ?_
  unfold Builtin.List.listSubscript?
  refine wpAny_bind (wpAny_specialOf hTs slice_no_index ?_)
  simp only [Option.isNone_none, if_true]
  refine wpAny_pure ?_
  show wpAny _ _ (typeOf (.ref sl) >>= _) _ _ s
  refine wpAny_bind (wpAny_typeOf hTs ?_)
  first
    | rw [if_neg (by decide)]
    | refine PySem.W.KFB.if_not (by decide) ?_
  rw [listSliceParts_eq]
  refine wpAny_bind (wpAny_bind (wpAny_field hos hds (x := .none) rfl (wpAny_bind (wpAny_listPart .none ?_))))
  rw [if_neg hstep]
  refine wpAny_bind (wpAny_field hos hds (x := vl) rfl (wpAny_bind (wpAny_listPart pl ?_)))
  refine wpAny_bind (wpAny_field hos hds (x := .none) rfl (wpAny_bind (wpAny_listPart .none (wpAny_pure ?_))))
  refine wpAny_bind (m := Builtin.List.listItems (.ref l)) ?_
  unfold Builtin.List.listItems
  refine wpAny_bind (wpAny_seqItems e rfl (wpAny_pure ?_))
  refine wpAny_bind (wpAny_of_eq ((sliceIndices_raw (some (a : Int)) none none items.toArray.size (by simp)).trans (congrArg (pure : Int × Int × Int → Sem (Int × Int × Int)) (bounds_from (by rw [List.size_toArray]; exact ha)))) ?_)
  refine wpAny_bind (wpAny_rule ?_)
  show wpAny _ _ (updateSeq l (fun xs => (xs.toList.zipIdx.filterMap fun (x, k) => if selB (a : Int) (items.toArray.size : Int) k = true then none else some x).toArray) >>= _) _ _ s
  refine wpAny_bind (wpAny_updateSeq (hz := by rw [List.size_toArray]; exact hsz) (_hz' := hz') e rfl ?_)
  refine wpAny_bind (wpAny_letGo ?_)
  first
    | exact wpAny_bind (wpAny_pure (wpAny_pure ⟨.none, rfl, wpAny_pure (h _ hk)⟩))
    | exact wpAny_pure ⟨.none, rfl, wpAny_pure (h _ hk)⟩
end
section
variable {X : Cx}
theorem del_slice {pins : List (Addr × Obj)} {s : Shared} {σ : St} {H : Hp} {l sl : Addr} {xs : List V} {a : Nat} {vl : Value} {Q : Unit → Shared → Prop} (I : Inv X pins σ H s)
    (hH : H l = some (.lst xs)) (hs : s.heap.IsSliceOf sl vl .none .none) (pl : IsPart vl (some (a : Int))) (ha : a ≤ xs.length)
    (h : ∀ s', Inv X pins σ (upd H l (.lst (xs.take a))) s' → Q () s') :
    wpAny (model X.prog X.w) X.A (delItem (.ref l) (.ref sl)) Q X.xe s := by
  obtain ⟨z, its, n, r, hl, e⟩ := I.lstM hH
  refine delItem_slice (a := a) e hs pl (by omega) (by omega) fun f hf => h _ ?_
  exact I.lset (its' := its.take a) (t' := s.toks) hH e hf (r.take a) (by rw [List.length_take]; omega)
/-- del xs[e:] -/
def tDelS (to : TE) (tl : TO) : TS := fun D σ H => to σ H fun x H1 => tl σ H1 fun y H2 => ∃ (l : Addr) (xs : List V) (k : Nat), x = .ref l ∧ y = some (k : Int) ∧ H2 l = some (.lst xs) ∧ k ≤ xs.length ∧ D.nx σ (upd H2 l (.lst (xs.take k)))
theorem ps_delS {o : Expr} {lo : Option Expr} {to : TE} {tl : TO} {p2 tpos pos : Pos} (ho : PE X o to) (hl : PO X lo tl) : PS X (.Delete [.Subscript o (.Slice lo none none p2) tpos] pos) (tDelS to tl) := by
  refine ⟨fun pins s σ H D I h => ?_⟩
  refine wpAny_Delete (wpAny_deleteEach_cons (wpAny_delete_Subscript (thn (ho.run pins s σ H _ I h) fun u s1 ⟨x, H1, I1, rx, q1⟩ => ?_)))
  refine wpAny_Slice (thn (hl.run pins s1 σ H1 _ I1 q1) fun vl s2 ⟨l, H2, I2, pl, q2⟩ => thn (po_none.run pins s2 σ H2 (fun o H3 => o = none ∧ H3 = H2) I2 ⟨rfl, rfl⟩) fun vu s3 ⟨u2, H3, I3, pu, e2, e3⟩ => ?_)
  subst e2
  subst e3
  cases pu
  rw [evalPart_none]
  refine wpAny_pure ?_
  obtain ⟨a, xs, k, ex, ey, hH, hk, q⟩ := q2
  subst ex
  subst ey
  cases (show u = Value.ref a from rx)
  have I4 : Inv X pins σ H3 { s3 with heap := s3.heap.push { cls := .type "slice", data := .fields #[vl, .none, .none] } } := I3.kept (t' := s3.toks) fun b ob q => Heap.get?_push_of_some _ q
  exact del_slice I4 hH (Heap.IsSliceOf.new ..) pl hk fun s5 I5 => wpAny_deleteEach_nil ⟨σ, _, I5, q⟩
end
end L2

set_option Elab.async false
set_option linter.all false
set_option maxRecDepth 100000
set_option maxHeartbeats 4000000
/-! list(d.values()) -/
namespace L2
open PySem PySem.Spec PyProof.Rows
def tListVals (te : TE) : TE := fun σ H Q => te σ H fun x H1 => ∃ d kvs, x = V.ref d ∧ H1 d = some (.dK kvs) ∧ ∀ p, H1 p = none → Q (.ref p) (upd H1 p (.lst (kvs.map (·.2))))
theorem kv_vals {κ : Type} : ∀ {kvs : List (κ × V)} {vs : List (κ × Value)}, KV kvs vs → Vals (kvs.map (·.2)) (vs.map (·.2))
  | [], [], _ => .nil
  | _ :: _, _ :: _, .cons h t => .cons h.2 (kv_vals t)
section
variable {X : Cx} {e : Expr} {te : TE} {p apos cpos pos : Pos}
theorem pe_listVals (hc : X.calm = true) (he : PE X e te) (hg : Gl X "list") (hm : X.mg "list" = none) (hv : bootBuiltins "list" = some (.type "list")) (hbase : attributeBase e "values" X.env (eval e X.env) = eval e X.env := by rfl) (hline : (apos.endLine == cpos.line) = true := by rfl)
    (hs : starEach [.Call (.Attribute e "values" apos) [] [] cpos] X.env = (false, eval (.Call (.Attribute e "values" apos) [] [] cpos) X.env) :: starEach [] X.env := by rfl) :
    PE X (.Call (.Name "list" p) [.Call (.Attribute e "values" apos) [] [] cpos] [] pos) (tListVals te) := by
  refine ⟨fun pins s σ H Q I hq => ?_⟩
  refine wpAny_Call_Name_kw (ld_blt I hg hm hv ?_)
  refine PyProof.Rows.callWith_type1 ?_ hs rfl
  rw [hs]
  show wpAny _ _ (spliced ((false, eval (.Call (.Attribute e "values" apos) [] [] cpos) X.env) :: backTo pos (starEach [] X.env))) _ _ s
  refine Calls.spliced_cons ?_
  refine wpAny_Call_method (T := "dict") (id := "dict.values") hbase rfl hline F.plainAttrs_dict F.slot_dict_values F.type_dict_values (thn (he.run pins s σ H _ I hq) fun u s1 ⟨x, H1, I1, rx, d, kvs, ex, hd, q⟩ => ?_)
  subst ex
  obtain rfl : u = Value.ref d := rx
  obtain ⟨hz, hs0, vs, kv, hdo⟩ := I1.hok d _ hd
  obtain ⟨ep, hat⟩ := hdo.dictAt
  have lk : kvs.length = vs.length := Paired.length kv
  have I2 : Inv X pins σ H1 { s1 with heap := s1.heap.push { cls := .type "dict_values", data := .fields #[.ref d] } } := I1.kept (t' := s1.toks) fun b ob q => Heap.get?_push_of_some _ q
  refine ⟨hdo.typeIs, hdo.mapOf.noDict, ?_⟩
  show wpAny _ _ (callWith cpos (.builtin "dict.values") [.ref d] [] []) _ X.xe s1
  refine method_meetsIn F.slot_dict_values F.entry_dict_values rfl (PySem.evalArgs_none ⟨rfl, hdo.typeIs, F.args_dict_values_1 _, _, meets_dict_values (mixKind X.prog X.w) d hs0, ⟨vs, hdo⟩, ?_⟩)
  refine Calls.spliced_nil ?_
  refine PySem.W.kdl_call (PySem.W.kdl_values (knd := mixKind X.prog X.w) (kvs := vs) (ep := ep) (r := s1.heap.objs.size) (d := d)) (I1.ok.hd hc) ⟨⟨_, Heap.get?_push_size _ rfl, rfl, rfl⟩, hat.push _⟩ (by rw [← lk]; exact hz) fun h' tk acc c' hk hD hacc => ?_
  have ev : acc.toList = vs.map (·.2) := PySem.W.kdl_vals_eq _ (by rw [Array.length_toList]; exact hacc.1) fun j v e => hacc.2 j v (by rw [← Array.getElem?_toList]; exact e)
  refine ⟨.ref _, upd H1 _ (.lst (kvs.map (·.2))), I2.laid (t' := tk) hk (Nat.le_refl _)
    (show ObjOk X.prog X.w _ _ _ (.lst (kvs.map (·.2))) from ⟨by rw [List.length_map]; exact hz, acc.toList, c', by rw [ev]; exact kv_vals kv, by rw [Array.toArray_toList]; exact hD⟩), rfl, q _ (I2.hok.fresh (Nat.le_refl _))⟩
end
end L2

set_option Elab.async false
set_option linter.all false
set_option maxRecDepth 100000
set_option maxHeartbeats 4000000
/-! len(set(ints)), some of them twice -/
namespace L2
open PySem PySem.Spec PyProof.Rows
theorem fm_nodup (val : Nat → Int) : ∀ i, (firstMet val i).Nodup
  | 0 => by rw [firstMet_zero]; exact List.nodup_nil
  | i + 1 => by
    rw [firstMet_succ]
    have ih := fm_nodup val i
    unfold step_dedup
    split
    · exact ih
    · rename_i c
      rw [List.nodup_append]
      refine ⟨ih, by simp, fun a ha b hb => ?_⟩
      rw [List.mem_singleton.mp hb]
      intro z
      apply c
      rw [List.any_eq_true]
      exact ⟨a, ha, by rw [z]; exact beq_self_eq_true _⟩
theorem fm_mem (ns : List Int) (k : Int) : k ∈ firstMet (fun i => ns.getD i 0) ns.length ↔ k ∈ ns := by
  have h := firstMet_any (fun i => ns.getD i 0) ns.length k
  have e : (List.range ns.length).map (fun i => ns.getD i 0) = ns := by
    refine List.ext_getElem (by simp) fun i h1 h2 => ?_
    simp [List.getElem?_eq_getElem h2]
  rw [e] at h
  have q : ∀ l : List Int, l.any (· == k) = true ↔ k ∈ l := fun l => by
    rw [List.any_eq_true]
    exact ⟨fun ⟨x, hx, e⟩ => by rw [← eq_of_beq e]; exact hx, fun h => ⟨k, h, beq_self_eq_true _⟩⟩
  rw [← q, h, q]
def tLenSetG (K : PySem.W.Frag) (t : TA) : TE := fun σ H Q => t σ H fun vs H1 => ∃ (l : Addr) (ns : List Int), vs = [V.ref l] ∧ SqL K H1 l (ns.map V.int) ∧ ns.length ≤ 4000 ∧ ∀ ys : List Int, ys.Nodup → (∀ k, k ∈ ys ↔ k ∈ ns) → ys.length ≤ ns.length → Q (.int ys.length) H1
section
variable {X : Cx} {e : Expr} {t : TA} {p p2 pos pos2 : Pos}
theorem pe_lenSetG (hc : X.calm = true) (hA : PA X [e] t) (hg : Gl X "len") (hm : X.mg "len" = none) (hg2 : Gl X "set") (hm2 : X.mg "set" = none)
    (he : starEach [e] X.env = (false, eval e X.env) :: starEach [] X.env := by rfl) :
    PE X (.Call (.Name "len" p) [.Call (.Name "set" p2) [e] [] pos2] [] pos) (tLenSetG X.K t) := by
  refine ⟨fun pins s σ H Q I h => ?_⟩
  refine Call_ (ld_blt I hg hm PySem.boot_len ?_)
  refine PyProof.Rows.callWith_builtin1 (PyProof.Rows.args_cons ?_ rfl) rfl rfl
  refine Call_ (ld_blt I hg2 hm2 PyProof.Rows.boot_set ?_)
  refine PyProof.Rows.callWith_type1 (thn (hA.run pos2 pins s σ H _ I h) fun us s1 ⟨vs, H1, I1, r1, l, ns, ev, hq, hl, q1⟩ => ?_) he rfl
  subst ev
  rw [Vals.ref1 r1]
  obtain ⟨its, r, pl, hz⟩ := I1.list hq
  have hlen : its.toArray.size = ns.length := by rw [List.size_toArray, ← r.length, List.length_map]
  refine call_set_list (I1.ok.hd hc) pl.isList (ns := ns) (by simpa using RZ.intsAre_vals r) (by rw [hlen]; unfold scanBound; omega) fun h' tk hS hk => ?_
  refine PyProof.Rows.args_nil ?_
  rw [hlen] at hS
  obtain ⟨o, es, ep, tt, ho, hex, hd, _, _, _, hf, hn⟩ := hS
  have I2 : Inv X pins σ H1 { s1 with heap := h', toks := tk } := I1.kept fun b o e => hk b o (Heap.lt_size e) e
  have hle := firstMet_length_le (fun i => ns.getD i 0) ns.length
  exact call_len_set ho hex hd hf (by rw [hn] <;> omega) ⟨.int _, H1, I2.tok _, ⟨_, by rw [hn]⟩, q1 _ (fm_nodup _ _) (fm_mem ns) hle⟩
end
end L2

set_option Elab.async false
set_option linter.all false
set_option maxRecDepth 100000
set_option maxHeartbeats 4000000
/-! several except clauses, some of which name the error -/
namespace L2
open PySem PySem.Spec PyProof.Rows
/-- an error at g that has landed in the frame of X -/
def Lnd (X : Cx) (pins : List (Addr × Obj)) (τ : St) (G : Hp) (g : Addr) (cls : Value) (d : Option Addr) (t : Shared) : Prop :=
  ∃ (B : Heap) (t0 : Shared), Inv X pins τ G t0 ∧ (∀ b o, t0.heap.get? b = some o → b ∉ frs X.stack → B.get? b = some o) ∧ t0.heap.UpToSlots t.heap ∧
    HandSPX.FlyingZ B (X.env :: X.outer) g (Zc cls d) t.heap ∧ G g = none ∧ t.os = t0.os ∧ AllBare t.gens ∧ g ≠ X.env.locals ∧ g ∉ X.fs
section
variable {X : Cx} {pins : List (Addr × Obj)} {τ : St} {G : Hp} {g : Addr} {cls : Value} {d : Option Addr} {t : Shared}
theorem Lnd.inv (l : Lnd X pins τ G g cls d t) : Inv X pins τ G t := by
  obtain ⟨B, t0, J, n, u, f, _, o, y, _⟩ := l
  exact J.landed n f.1 u o y
theorem Lnd.as_suite (l : Lnd X pins τ G g cls d t) : ∃ oe, Zc cls d oe ∧ (∃ vs, oe.data = .fields vs) ∧ t.heap.get? g = some oe ∧ Inv (X.suite g ((g, oe) :: (X.pn ++ pins))) [] τ G t := by
  have J := l.inv
  obtain ⟨B, t0, _, _, _, f, z, _, _, n1, n2⟩ := l
  obtain ⟨oe, vs, h1, h2, h3⟩ := f.there
  exact ⟨oe, h2, ⟨vs, h3⟩, h1, J.suite h1 h3 z n1 n2⟩
theorem Lnd.again {M : Model} {A : Around} {E : Value → Shared → Prop} {Q : Unit → Shared → Prop} (l : Lnd X pins τ G g cls d t) (q : ∀ t', Lnd X pins τ G g cls d t' → Q () t') : wpAny M A (setFlight (.ref g) none) Q E t := by
  obtain ⟨B, t0, J, n, u, f, z, o, y, n1, n2⟩ := l
  exact HandSPX.lands_againZ f fun h' f' u' => q _ ⟨B, t0, J, n, u.trans u', f', z, o, y, n1, n2⟩
/-- what the clauses wish, one behind the other; a slot where the clause names the error -/
def wCls (K : PySem.W.Frag) (Wout : WX) (D : Ends) : List (Value × Option Nat × (Addr → Value → Option Addr → TS)) → WX
  | [] => Wout
  | (c, none, ts) :: r => fun cls d τ G => ∃ b, PySem.W.exmOne K cls c = some b ∧ (b = true → ∀ g, G g = none → ts g cls d D τ G) ∧ (b = false → wCls K Wout D r cls d τ G)
  | (c, some i, ts) :: r => fun cls d τ G => ∃ b, PySem.W.exmOne K cls c = some b ∧
      (b = true → ∀ g, G g = none → ts g cls d { nx := fun τ' G' => D.nx (τ'.set i none) G', rt := D.rt, bk := fun τ' G' => D.bk (τ'.set i none) G', ct := fun τ' G' => D.ct (τ'.set i none) G' } (τ.set i (some (.ref g))) G) ∧
      (b = false → wCls K Wout D r cls d τ G)
inductive ClsOk (X : Cx) : List ExceptHandler → List (Value × Option Nat × (Addr → Value → Option Addr → TS)) → Prop
  | nil : ClsOk X [] []
  | plain {x : Str} {c : Value} {ts : Addr → Value → Option Addr → TS} {b : Stmt} {bs : List Stmt} {np hp : Pos} {hds : List ExceptHandler} {l : List (Value × Option Nat × (Addr → Value → Option Addr → TS))} (hc : Names X x c)
      (hsu : ∀ (g : Addr) (oe : Obj) (cls : Value) (d : Option Addr) (pn : List (Addr × Obj)), Zc cls d oe → (∃ vs, oe.data = .fields vs) → PSs (X.suite g ((g, oe) :: pn)) (b :: bs) (ts g cls d)) (r : ClsOk X hds l) :
      ClsOk X (.ExceptHandler (some (.Name x np)) none (b :: bs) hp :: hds) ((c, none, ts) :: l)
  | named {x n : Str} {i : Nat} {c : Value} {ts : Addr → Value → Option Addr → TS} {b : Stmt} {bs : List Stmt} {np hp : Pos} {hds : List ExceptHandler} {l : List (Value × Option Nat × (Addr → Value → Option Addr → TS))} (hc : Names X x c)
      (hN : X.N.Nodup) (hi : X.N[i]? = some n) (hk : X.env.kindOf n = some .local)
      (hsu : ∀ (g : Addr) (oe : Obj) (cls : Value) (d : Option Addr) (pn : List (Addr × Obj)), Zc cls d oe → (∃ vs, oe.data = .fields vs) → PSs (X.suite g ((g, oe) :: pn)) (b :: bs) (ts g cls d)) (r : ClsOk X hds l) :
      ClsOk X (.ExceptHandler (some (.Name x np)) (some n) (b :: bs) hp :: hds) ((c, some i, ts) :: l)
/-- the test of a clause -/
theorem Lnd.test {x : Str} {c : Value} {np hp : Pos} {b : Bool} {R : Result → Shared → Prop} (l : Lnd X pins τ G g cls d t) (hc : Names X x c) (e : PySem.W.exmOne X.K cls c = some b) (q : R (.ok (if b then .brk else .next)) t) :
    codeAny (model X.prog X.w) (X.A.mark (some (.ref g))) (.handlers (.ref g) [.ExceptHandler (some (.Name x np)) none [] hp] X.env) R t := by
  obtain ⟨oe, z, hv, he, S⟩ := l.as_suite
  have ty : PySem.W.Looks (model X.prog X.w) t.heap (typeOf (.ref g)) cls := fun A1 Q1 E1 s1 k1 q1 => wpAny_typeOf_ref (k1 _ _ he) (by rw [z.1]; exact q1)
  refine codeAny_handlers_test ?_
  have look := PySem.W.exm_one (M := model X.prog X.w) l.inv.kIn ty e
  obtain ⟨h1, h2, h3 | ⟨h3, h4, h5⟩⟩ := hc
  · exact ld_glob (X := X.suite g ((g, oe) :: (X.pn ++ pins))) S h1 h3 (look.here (by exact q)) h2
  · exact ld_blt (X := X.suite g ((g, oe) :: (X.pn ++ pins))) S h1 h3 h4 (look.here (by exact q)) h5 h2
/-- the clauses, gone through -/
theorem Lnd.through {Wout : WX} {D : Ends} (hst : X.stack = X.env :: X.outer) (hfr : X.env.frame = some X.env.locals) (tk : Takes X Wout) (ok : X.Ok) {hds : List ExceptHandler} {cl : List (Value × Option Nat × (Addr → Value → Option Addr → TS))} (hk : ClsOk X hds cl) :
    ∀ {t : Shared}, Lnd X pins τ G g cls d t → wCls X.K Wout D cl cls d τ G → wpAny (model X.prog X.w) X.A (handleBy (.ref g) X.env hds) (SP X pins D) X.xe t := by
  induction hk with
  | nil =>
    intro t l wish
    refine wpAny_handleBy_nil ?_
    obtain ⟨B, t0, J, n, u, f, z, o, y, _⟩ := l
    obtain ⟨_, _, _, oe, vs, trb, _, _, hob, _, hda, htr, _⟩ := id f
    have out : wpAny (model X.prog X.w) X.A (setFlight (.ref g) X.env.frame) (fun _ t4 => wpAny (model X.prog X.w) X.A (throw (.ref g) : Sem Flow) (SP X pins D) X.xe t4) X.xe t := by
      rw [hfr]
      exact HandSPX.setFlight_upZ f fun h4 held u4 => wpAny_throw (tk _ _ ⟨g, B, t0, pins, τ, G, cls, d, rfl, J, n, u.trans u4, .inr (.inr (by rw [hst]; exact held)), z, o, y, wish⟩)
    unfold PySem.passOn
    refine wpAny_bind (wpAny_field hob hda htr ?_)
    rw [if_neg (by simp : ¬ ((Value.ref trb == Value.none) = true))]
    first
      | exact wpAny_bind (wpAny_pure (wpAny_bind out))
      | exact wpAny_bind out
  | @plain x c ts b bs np hp hds2 l2 hc hsu r ih =>
    intro t l wish
    obtain ⟨k, e, yes, no⟩ := wish
    refine wpAny_handleBy_cons (l.test hc e ?_) (by intro q; cases q)
    cases k with
    | false => exact ih l (no rfl)
    | true =>
      refine codeAny_handlers_suite (l.again fun t' l' => ?_)
      obtain ⟨oe, z, hv, _, S⟩ := l'.as_suite
      have na : G g = none := by obtain ⟨_, _, _, _, _, _, q, _⟩ := l'; exact q
      refine wpAny_mono ((hsu g oe cls d (X.pn ++ pins) z hv).run [] _ _ G _ S (yes rfl g na)) (fun fl t6 hsp => ?_) (fun _ _ q => q.elim)
      match fl, hsp with
      | .next, ⟨_, _, S6, q6⟩ => exact ⟨_, _, S6.unsuite ok, q6⟩
      | .brk, ⟨_, _, S6, q6⟩ => exact ⟨_, _, S6.unsuite ok, q6⟩
      | .cont, ⟨_, _, S6, q6⟩ => exact ⟨_, _, S6.unsuite ok, q6⟩
      | .ret _, ⟨_, _, _, S6, r6, q6⟩ => exact ⟨_, _, _, S6.unsuite ok, r6, q6⟩
  | @named x n i c ts b bs np hp hds2 l2 hc hN hi hkd hsu r ih =>
    intro t l wish
    obtain ⟨k, e, yes, no⟩ := wish
    refine wpAny_handleBy_cons (l.test hc e ?_) (by intro q; cases q)
    cases k with
    | false => exact ih l (no rfl)
    | true =>
      refine codeAny_handlers_suite_as (l.again fun t' l' => ?_)
      obtain ⟨oe, z, hv, _, S⟩ := l'.as_suite
      have na : G g = none := by obtain ⟨_, _, _, _, _, _, q, _⟩ := l'; exact q
      refine store_ok (X := X.suite g ((g, oe) :: (X.pn ++ pins))) (v := .ref g) S hN hi (.inl hkd) rfl (fun t5 S5 => ?_) (.inr hkd)
      refine wpAny_mono ((hsu g oe cls d (X.pn ++ pins) z hv).run [] t5 _ G _ S5 (yes rfl g na)) (fun fl t6 hsp => ?_) (fun _ _ q => q.elim)
      match fl, hsp with
      | .next, ⟨_, _, S6, q6⟩ => exact gone_ok (S6.unsuite ok) hN hi hkd fun t7 J7 => ⟨_, _, J7, q6⟩
      | .brk, ⟨_, _, S6, q6⟩ => exact gone_ok (S6.unsuite ok) hN hi hkd fun t7 J7 => ⟨_, _, J7, q6⟩
      | .cont, ⟨_, _, S6, q6⟩ => exact gone_ok (S6.unsuite ok) hN hi hkd fun t7 J7 => ⟨_, _, J7, q6⟩
      | .ret _, ⟨_, _, _, S6, r6, q6⟩ => exact gone_ok (S6.unsuite ok) hN hi hkd fun t7 J7 => ⟨_, _, _, J7, r6, q6⟩
/-- try: body / except X: .. / except Y as e: .. -/
theorem ps_try_cls {body : List Stmt} {h₀ : ExceptHandler} {hds : List ExceptHandler} {pos : Pos} {tb : WX → TS} {Wout : WX} {cl : List (Value × Option Nat × (Addr → Value → Option Addr → TS))} (hst : X.stack = X.env :: X.outer) (hfr : X.env.frame = some X.env.locals) (tk : Takes X Wout)
    (hb : ∀ (W : WX) (pn : List (Addr × Obj)) (xe : Value → Shared → Prop), Takes (X.tr pn xe) W → PassesOwn (model X.prog X.w) X.A X.env xe → PSs (X.tr pn xe) body (tb W)) (hh : ClsOk X (h₀ :: hds) cl) :
    PS X (.Try body (h₀ :: hds) [] [] pos) (fun D σ H => tb (wCls X.K Wout D cl) D σ H) := by
  refine ⟨fun ps s0 σ0 H0 D I0 wish => ?_⟩
  have ok := I0.ok
  have frs1 : X.A.frames = some (X.env :: X.outer) := ok.frames.trans (congrArg some hst)
  let caught : Value → Shared → Prop := fun er ta => wpAny (model X.prog X.w) X.A (noteFrame er X.env) (fun _ tb' => wpAny (model X.prog X.w) X.A (setFlight er none) (fun _ tc => wpAny (model X.prog X.w) X.A (handleBy er X.env (h₀ :: hds)) (SP X ps D) X.xe tc) X.xe tb') X.xe ta
  have land : Takes (X.tr (X.pn ++ ps) caught) (wCls X.K Wout D cl) := by
    rintro er ta ⟨g, B, t0, _, τ, G, cls, d, rfl, J0, n, u, sky, na, o, y, q⟩
    have J := J0.ofTry ok
    refine Sky.land (B := B) (a := g) (Z := Zc cls d) (L := X.env.locals) (outer := X.outer) Zc.steady frs1 hfr (by rw [← hst]; exact sky) fun h3 f3 u3 => ?_
    obtain ⟨oe, vs, e1, e2, e3⟩ := f3.there
    have away : g ∉ frs (X.env :: X.outer) := fun hm => by
      obtain ⟨_, o2, q1, q2⟩ := f3.2.2.1.mem hm
      rw [e1] at q1
      cases q1
      exact q2 _ e3
    refine Lnd.through hst hfr tk ok hh ⟨B, t0, J, n, u.trans u3, f3, na, o, y, fun z => ?_, fun hm => ?_⟩ q
    · exact away (List.mem_filterMap.mpr ⟨X.env, List.mem_cons_self, by rw [hfr, z]⟩)
    · obtain ⟨en, m1, m2⟩ := List.mem_filterMap.mp hm
      exact away (List.mem_filterMap.mpr ⟨en, List.mem_cons_of_mem _ m1, m2⟩)
  refine wpAny_Try_except (wpAny_mono ((hb _ (X.pn ++ ps) caught land PassesOwn.looking).run [] s0 σ0 H0 D (I0.toTry _) wish) (fun fl t1 z => ?_) fun _ _ z => z)
  match fl, z with
  | .next, ⟨_, _, J1, q1⟩ => exact wpAny_execs_nil ⟨_, _, J1.ofTry ok, q1⟩
  | .brk, ⟨_, _, J1, q1⟩ => exact ⟨_, _, J1.ofTry ok, q1⟩
  | .cont, ⟨_, _, J1, q1⟩ => exact ⟨_, _, J1.ofTry ok, q1⟩
  | .ret _, ⟨_, _, _, J1, r1, q1⟩ => exact ⟨_, _, _, J1.ofTry ok, r1, q1⟩
end
end L2

set_option Elab.async false
set_option linter.all false
set_option maxRecDepth 100000
set_option maxHeartbeats 4000000
/-! sorted(a list of lists of ints), any length -/
namespace L2
open PySem PySem.Spec PyProof.Rows
theorem each_self {α : Type} {P : α → α → Prop} : ∀ l : List α, (∀ v ∈ l, P v v) → PySem.W.EachIs P l l
  | [], _ => .nil
  | v :: l, h => .cons (h v (List.mem_cons_self ..)) (each_self l fun u hu => h u (List.mem_cons_of_mem _ hu))
theorem each_eq {α : Type} : ∀ {l m : List α}, PySem.W.EachIs (fun v b : α => v = b) l m → l = m
  | _, _, .nil => rfl
  | _, _, .cons e t => by rw [e, each_eq t]
def rSortedLL (K : PySem.W.Frag) : List V → Hp → VK → Prop := fun vs H Q => ∃ (a : Addr) (xs : List V) (k : V → List Int), vs = [V.ref a] ∧ SqL K H a xs ∧ (∀ x ∈ xs, ∃ t, x = V.ref t ∧ SqL K H t ((k x).map V.int)) ∧
  ∀ ys p, ys.Pairwise (fun x y => k x ≤ k y) → ys.Perm xs → H p = none → Q (.ref p) (upd H p (.lst ys))
theorem dpAll_ints {K : PySem.W.Frag} {H : Hp} : ∀ ns : List Int, DpAll K H (ns.map V.int) (ns.map PyData.int)
  | [] => .nil
  | n :: r => .cons (.int n) (dpAll_ints r)
section
variable {X : Cx}
theorem cr_sortedLL (hu : X.A.units + 64 < cLine) : CallR X (.builtin "sorted") (rSortedLL X.K) := by
  intro pins s σ H vs us Q I r h
  obtain ⟨a, xs, k, rfl, hs, hx, q⟩ := h
  obtain ⟨its, rv, hl, hz⟩ := I.list hs
  obtain ⟨u, rfl, ru⟩ := vals1 r
  obtain rfl : u = Value.ref a := ru
  obtain ⟨e1, e2⟩ := refs_back rv fun x m => by
    obtain ⟨t, e, _⟩ := hx x m
    exact ⟨t, e⟩
  have hd1 : ∀ u : Value, (PyData.list ((k (backV u)).map PyData.int)).depth ≤ 1 := fun u => by
    show PyData.depthAll _ + 1 ≤ 1
    rw [PySem.W.depth_ints]
    exact Nat.le_refl _
  refine PySem.W.sorted_data (vs := its) (bs := its) (enc := fun u => .list ((k (backV u)).map .int)) (R := fun v b => v = b) hl.isList (each_self _ fun _ _ => rfl) (each_self _ fun v hv => ?_) (PySem.W.AllAlike.of fun b b' => ?_) (PySem.W.Sortable.others (enc := fun u : Value => PyData.list ((k (backV u)).map PyData.int)) fun b => ⟨(fun z => nomatch z), (fun xs z => nomatch z)⟩) (by rw [← rv.length]; exact hz) (fun b _ => ?_) fun out ho he => ?_
  · obtain ⟨t, rfl⟩ := e2 v hv
    have hm : V.ref t ∈ xs := by rw [e1]; exact List.mem_map.mpr ⟨_, hv, rfl⟩
    obtain ⟨t', e, ht⟩ := hx _ hm
    cases e
    exact Dp.reads I _ _ _ (.lst ht (dpAll_ints _)) rfl
  · show PySem.W.alike (.list _) (.list _) = true
    rw [PySem.W.alike]
    exact PySem.W.alike_ints _ _
  · have := hd1 b
    omega
  · have eo := each_eq he
    rw [PySem.W.dataLe_rows] at eo
    have hp : out.Perm its := by rw [eo]; exact List.mergeSort_perm _ _
    have hs2 : out.Pairwise fun u v => k (backV u) ≤ k (backV v) := by
      rw [eo]
      refine (List.pairwise_mergeSort (fun a b c h1 h2 => ?_) (fun a b => ?_) its).imp fun h => of_decide_eq_true h
      · exact decide_eq_true (List.le_trans (of_decide_eq_true h1) (of_decide_eq_true h2))
      · rw [Bool.or_eq_true, decide_eq_true_iff, decide_eq_true_iff]
        exact List.le_total _ _
    have h3 : ∀ u ∈ out, ∃ a, u = Value.ref a := fun u hu => e2 u (hp.mem_iff.mp hu)
    obtain ⟨n, hn⟩ := sortedAll_at s.heap its out.toArray
    have hb : (out.map backV).Perm xs := by
      rw [e1]
      exact hp.map backV
    have hfr : s.heap.objs.size ≤ s.heap.objs.size + 1 := Nat.le_succ _
    refine ⟨.ref _, upd H (s.heap.objs.size + 1) (.lst (out.map backV)), I.laid (t' := s.toks) (fun b o e => sortedAll_old e) hfr ⟨?_, out, n, vals_back h3, hn⟩, rfl, q _ _ (List.pairwise_map.mpr hs2) hb (I.hok.fresh hfr)⟩
    rw [hb.length_eq]
    exact hz
end
end L2

set_option Elab.async false
set_option linter.all false
set_option maxRecDepth 100000
set_option maxHeartbeats 4000000
namespace L2
open PySem PySem.Spec PyProof.Rows PySem.W
theorem revS_pick (x : Str) : (Builtin.Str.strSliceIndices none none (-1) x.length).filterMap (x.cps[·]?) = x.cps.toList.reverse := by
  show (sliceRange ((x.cps.size : Int) - 1) (-1) (-1)).filterMap (x.cps[·]?) = _
  rw [krv_sliceRange, krv_range, List.filterMap_reverse, krv_all]
section
variable {X : Cx}
/-- z[::-1] of a text -/
def tRevS (te : TE) : TE := fun σ H Q => te σ H fun x H1 => ∃ z : Str, x = .str z ∧ z.length ≤ sizeLine ∧ Q (.str ⟨z.cps.toList.reverse.toArray⟩) H1
theorem pe_revS {e : Expr} {te : TE} {k : Nat} {p1 p2 p3 pos : Pos} (he : PE X e te) : PE X (.Subscript e (.Slice none none (some (.UnaryOp .USub (.Constant (.int 1) k p1) p2)) p3) pos) (tRevS te) := by
  refine ⟨fun pins s σ H Q I h => ?_⟩
  refine Subscript_ (thn (he.run pins s σ H _ I h) fun v s1 ⟨x, H1, I1, r1, q1⟩ => ?_)
  obtain ⟨z, ex, hz, q⟩ := q1
  subst ex
  obtain ⟨t, rfl⟩ := r1
  have hst : PO X (some (.UnaryOp .USub (.Constant (.int 1) k p1) p2)) (tPart (tUn (rU fun i => .int (-i)) (tC (.int 1)))) := po_some (pe_un un_neg pe_int)
  refine wpAny_Slice (thn (po_none.run pins s1 σ H1 (fun o H2 => o = none ∧ H2 = H1) I1 ⟨rfl, rfl⟩) fun vl s2 ⟨l, H2, I2, pl, el, e2⟩ => ?_)
  subst el e2
  refine thn (po_none.run pins s2 σ H2 (fun o H3 => o = none ∧ H3 = H2) I2 ⟨rfl, rfl⟩) fun vu s3 ⟨u, H3, I3, pu, eu, e3⟩ => ?_
  subst eu e3
  refine thn (hst.run pins s3 σ H3 (fun o H4 => o = some (-1) ∧ H4 = H3) I3 ⟨1, rfl, -1, rfl, rfl, rfl⟩) fun vs s4 ⟨o, H4, I4, ps, eo, e4⟩ => ?_
  subst eo e4
  have I5 : Inv X pins σ H4 { s4 with heap := s4.heap.push { cls := .type "slice", data := .fields #[vl, vu, vs] } } := I4.kept (t' := s4.toks) fun b ob q => Heap.get?_push_of_some _ q
  obtain ⟨l, rfl, hl0⟩ := L2.IsPart.raw pl
  obtain ⟨u, rfl, hu0⟩ := L2.IsPart.raw pu
  obtain ⟨st, rfl, hst0⟩ := L2.IsPart.raw ps
  have e1 : l = none := by cases l <;> simp_all
  have e2 : u = none := by cases u <;> simp_all
  subst e1 e2
  have e3 : ∃ tk, st = some (-1, tk) := by
    cases st with
    | none => simp at hst0
    | some p =>
      obtain ⟨a, b⟩ := p
      simp at hst0
      first | exact ⟨b, by rw [hst0]⟩ | exact ⟨b, by rw [← hst0]⟩
  obtain ⟨tk, rfl⟩ := e3
  show wpAny (model X.prog X.w) X.A (subscriptTail e (.Slice none none (some (.UnaryOp .USub (.Constant (.int 1) k p1) p2)) p3) (.str z t) (.ref s4.heap.objs.size)) (EP X pins σ Q) X.xe { s4 with heap := s4.heap.push { cls := .type "slice", data := .fields #[partValue none, partValue none, partValue (some (-1, tk))] } }
  refine tail_any (ops := [.str z t, .ref s4.heap.objs.size]) (typeIs_str _ _ _) F.slot_str_getitem.lookup ?_ (by with_unfolding_all rfl)
  refine wpAny_getItem_str_slice (l := none) (u := none) (st := some (-1, tk)) ⟨_, Heap.get?_push_size _ rfl, rfl, rfl⟩ rfl ?_
  show Made.post (if ((-1 : Int) == 1 && (Builtin.Str.strSliceIndices none none (-1) z.length).length == z.length) = true then Made.val (.str z t)
    else Made.str ⟨((Builtin.Str.strSliceIndices none none (-1) z.length).filterMap (z.cps[·]?)).toArray⟩) (EP X pins σ Q) _
  rw [if_neg (by simp), revS_pick]
  refine ⟨?_, .str _, H4, I5.tok _, ⟨_, rfl⟩, q⟩
  show (z.cps.toList.reverse.toArray).size ≤ sizeLine
  rw [List.size_toArray, List.length_reverse]
  exact hz
end
end L2

set_option Elab.async false
set_option linter.all false
set_option maxRecDepth 100000
set_option maxHeartbeats 4000000
/-! o.m(e, ..) where errors are taken around the call; C(k = e, ..) by keywords alone -/
namespace L2
open PySem PySem.Spec PyProof.Rows
def tMethX (C : Addr) (m : Str) (sp : Sp) (E : St → XK) (ta : TE) (t : TA) : TE := fun σ H Q => ta σ H fun x H1 => ∃ a dx fs, x = .ref a ∧ H1 a = some (.ins C dx fs) ∧ fs.lookup m = none ∧
  t σ H1 fun vs H2 => sp (.ref a :: vs) H2 Q (E σ)
def tMakeN0 (C : Addr) (n : Nat) (sp : Sp) (gV : List V → List V → List V) (E : XK) (tk : TA) : TE := fun σ H Q => tk σ H fun zs H2 => zs.length = n ∧
  ∀ x dx, H2 x = none → H2 dx = none → dx ≠ x → sp (gV [.ref x] zs) (upd (upd H2 dx (.own x)) x (.ins C dx [])) (fun v H3 => v = .non ∧ Q (.ref x) H3) E
section
variable {X : Cx} {CX : CXT} {k : Nat} {f C : Addr} {fd : FuncData} {ps ks : List Str} {sp : Sp} {m : Str} {apos pos p : Pos} {o e : Expr} {es : List Expr} {ta : TE} {t tk : TA} {kws : List Keyword} {g : List Value → List Value → List Value} {gV : List V → List V → List V} {x : Str}
theorem pe_methX {E : St → XK} {pl : Sem Bool} (he : PE X o ta) (c : Cls X.K C) (hm : Meth X.K C m f) (F : FnOk X.prog X.w X.K X.mg X.base CX k f fd ps sp) (hr : Room k X.A) (hb : Binds X.K fd ps []) (hx : ∀ σ, PassesAt CX X σ (E σ)) (ha : PA X (e :: es) t)
    (hst : starEach (e :: es) X.env = (false, eval e X.env) :: starEach es X.env := by rfl) (hpl : (backTo pos (starEach es X.env)).any (·.1) = false := by rfl)
    (ht : eval (.Call (.Attribute o m apos) (e :: es) [] pos) X.env = (do
      let ov ← eval o X.env
      standAt apos.atName
      let (f, first) ← holding [ov] (getMethod ov m pl)
      callWith pos f first (backTo pos (starEach (e :: es) X.env)) (backToKw pos (keywordEach [] X.env))) := by rfl) :
    PE X (.Call (.Attribute o m apos) (e :: es) [] pos) (tMethX C m sp E ta t) := by
  refine ⟨fun pins s σ H Q I h => ?_⟩
  refine PySem.W.methodCall_KW (pl := pl) (thn (he.run pins s σ H _ I h) fun u s1 ⟨x, H1, I1, rx, a, dx, fs, ex, ea, l, q⟩ => ?_) ht
  subst ex
  obtain rfl : u = Value.ref a := rx
  refine getmeth_ok I1 ea c hm l ?_
  refine PySem.W.callWith_K (first := [.ref a]) (h₀ := X.base) I.ok.mod.kin hm.kp (thn (ha.run pos pins s1 σ H1 _ I1 q) fun us s2 ⟨vs, H2, I2, r, q2⟩ => ⟨I2.kIn, ?_⟩) hst hpl
  exact run_fnS (us := .ref a :: us) (vs := .ref a :: vs) F hr hb (hx σ) I2 (.cons rfl r) q2
theorem pe_makeN0 {E : XK} (M : Mk X.K C f) (F : FnOk X.prog X.w X.K X.mg X.base CX k f fd ps sp) (hr : Room (k + 1) X.A) (hg : Gl X x) (hm : X.mg x = some (.ref C)) (hb : KBn X.K fd ps 1 ks g gV) (hx : Passes CX X E)
    (hkw : PK X kws tk) (hall : (backToKw pos (keywordEach kws X.env)).all (·.1.isSome) = true := by rfl) (hks : (backToKw pos (keywordEach kws X.env)).filterMap (·.1) = ks := by rfl)
    (hdb : (x == ("__debug__" : Str)) = false := by decide)
    (hpl : ((backTo pos (starEach [] X.env)).any (·.1) || (backToKw pos (keywordEach kws X.env)).any (·.1.isNone)) = false := by rfl) :
    PE X (.Call (.Name x p) [] kws pos) (tMakeN0 C ks.length sp gV E tk) := by
  refine ⟨fun pins s σ H Q I h => ?_⟩
  refine wpAny_Call_Name_kw (ld_glob I hg hm ?_ hdb)
  refine PySem.W.callWith_KW0 (h₀ := X.base) I.ok.mod.kin M.kp hall ?_ hpl
  refine thn (hkw.run pos pins s σ H _ I h) fun ws s2 ⟨zs, H2, I2, rz, l2, q2⟩ => ⟨I2.kIn, ?_⟩
  rw [hks]
  exact run_makeN (us := []) (vs := []) (n := 0) M F hr hb hx I2 .nil rz rfl l2 q2
end
end L2

set_option Elab.async false
set_option linter.all false
set_option maxRecDepth 100000
set_option maxHeartbeats 4000000
namespace J
open PySem L2
def topS (i : Nat) : Stmt := PySem.Challenge.pw_onewayread_k07_readers_stuck_and_twins.main.body.getD i (.Pass ⟨0, 0, 0, 0⟩)
abbrev s_InvalidLoom_init : Stmt := inClass (topS 2) 0
abbrev N_InvalidLoom_init : List Str := ["self", "part", "at"]
abbrev P_InvalidLoom_init : List Str := ["self", "part", "at"]
theorem sc_InvalidLoom_init : FnScope N_InvalidLoom_init P_InvalidLoom_init (defScope s_InvalidLoom_init) := ⟨rfl, rfl, rfl, by decide +kernel, rfl, by decide +kernel, by decide +kernel⟩
abbrev s_is_number : Stmt := topS 11
abbrev N_is_number : List Str := ["thing", "low", "high"]
abbrev P_is_number : List Str := ["thing", "low", "high"]
theorem sc_is_number : FnScope N_is_number P_is_number (defScope s_is_number) := ⟨rfl, rfl, rfl, by decide +kernel, rfl, by decide +kernel, by decide +kernel⟩
abbrev s_is_sequence : Stmt := topS 12
abbrev N_is_sequence : List Str := ["thing", "fewest", "most"]
abbrev P_is_sequence : List Str := ["thing", "fewest", "most"]
theorem sc_is_sequence : FnScope N_is_sequence P_is_sequence (defScope s_is_sequence) := ⟨rfl, rfl, rfl, by decide +kernel, rfl, by decide +kernel, by decide +kernel⟩
abbrev s_is_signs : Stmt := topS 13
abbrev N_is_signs : List Str := ["thing", "letters", "sign", "one", "other"]
abbrev P_is_signs : List Str := ["thing"]
theorem sc_is_signs : FnScope N_is_signs P_is_signs (defScope s_is_signs) := ⟨rfl, rfl, rfl, by decide +kernel, rfl, by decide +kernel, by decide +kernel⟩
abbrev s_is_string_over : Stmt := topS 14
abbrev N_is_string_over : List Str := ["signs", "thing", "fewest", "most", "sign"]
abbrev P_is_string_over : List Str := ["signs", "thing", "fewest", "most"]
theorem sc_is_string_over : FnScope N_is_string_over P_is_string_over (defScope s_is_string_over) := ⟨rfl, rfl, rfl, by decide +kernel, rfl, by decide +kernel, by decide +kernel⟩
abbrev s_is_word : Stmt := topS 15
abbrev N_is_word : List Str := ["signs", "thing"]
abbrev P_is_word : List Str := ["signs", "thing"]
theorem sc_is_word : FnScope N_is_word P_is_word (defScope s_is_word) := ⟨rfl, rfl, rfl, by decide +kernel, rfl, by decide +kernel, by decide +kernel⟩
abbrev s_check_signs : Stmt := topS 16
abbrev N_check_signs : List Str := ["signs"]
abbrev P_check_signs : List Str := ["signs"]
theorem sc_check_signs : FnScope N_check_signs P_check_signs (defScope s_check_signs) := ⟨rfl, rfl, rfl, by decide +kernel, rfl, by decide +kernel, by decide +kernel⟩
abbrev s_check_state : Stmt := topS 17
abbrev N_check_state : List Str := ["state"]
abbrev P_check_state : List Str := ["state"]
theorem sc_check_state : FnScope N_check_state P_check_state (defScope s_check_state) := ⟨rfl, rfl, rfl, by decide +kernel, rfl, by decide +kernel, by decide +kernel⟩
abbrev s_check_text : Stmt := topS 18
abbrev N_check_text : List Str := ["signs", "text"]
abbrev P_check_text : List Str := ["signs", "text"]
theorem sc_check_text : FnScope N_check_text P_check_text (defScope s_check_text) := ⟨rfl, rfl, rfl, by decide +kernel, rfl, by decide +kernel, by decide +kernel⟩
abbrev s_Trail_init : Stmt := inClass (topS 20) 0
abbrev N_Trail_init : List Str := ["self", "ahead", "number", "far", "doubled"]
abbrev P_Trail_init : List Str := ["self", "ahead", "number"]
theorem sc_Trail_init : FnScope N_Trail_init P_Trail_init (defScope s_Trail_init) := ⟨rfl, rfl, rfl, by decide +kernel, rfl, by decide +kernel, by decide +kernel⟩
abbrev s_cut : Stmt := topS 21
abbrev N_cut : List Str := ["trail", "many"]
abbrev P_cut : List Str := ["trail", "many"]
theorem sc_cut : FnScope N_cut P_cut (defScope s_cut) := ⟨rfl, rfl, rfl, by decide +kernel, rfl, by decide +kernel, by decide +kernel⟩
abbrev s_shared : Stmt := topS 22
abbrev N_shared : List Str := ["one", "other"]
abbrev P_shared : List Str := ["one", "other"]
theorem sc_shared : FnScope N_shared P_shared (defScope s_shared) := ⟨rfl, rfl, rfl, by decide +kernel, rfl, by decide +kernel, by decide +kernel⟩
abbrev s_numbers_beyond : Stmt := topS 23
abbrev N_numbers_beyond : List Str := ["trail", "many", "numbers"]
abbrev P_numbers_beyond : List Str := ["trail", "many"]
theorem sc_numbers_beyond : FnScope N_numbers_beyond P_numbers_beyond (defScope s_numbers_beyond) := ⟨rfl, rfl, rfl, by decide +kernel, rfl, by decide +kernel, by decide +kernel⟩
abbrev s_arcs_by_beginnings : Stmt := topS 24
abbrev N_arcs_by_beginnings : List Str := ["loom", "table", "number", "state", "word", "goal", "end"]
abbrev P_arcs_by_beginnings : List Str := ["loom"]
theorem sc_arcs_by_beginnings : FnScope N_arcs_by_beginnings P_arcs_by_beginnings (defScope s_arcs_by_beginnings) := ⟨rfl, rfl, rfl, by decide +kernel, rfl, by decide +kernel, by decide +kernel⟩
abbrev s_Reader_init : Stmt := inClass (topS 25) 0
abbrev N_Reader_init : List Str := ["self", "loom", "state"]
abbrev P_Reader_init : List Str := ["self", "loom", "state"]
theorem sc_Reader_init : FnScope N_Reader_init P_Reader_init (defScope s_Reader_init) := ⟨rfl, rfl, rfl, by decide +kernel, rfl, by decide +kernel, by decide +kernel⟩
abbrev s_Reader_take : Stmt := inClass (topS 25) 1
abbrev N_Reader_take : List Str := ["self", "sign", "covers", "numbers"]
abbrev P_Reader_take : List Str := ["self", "sign"]
theorem sc_Reader_take : FnScope N_Reader_take P_Reader_take (defScope s_Reader_take) := ⟨rfl, rfl, rfl, by decide +kernel, rfl, by decide +kernel, by decide +kernel⟩
abbrev s_Reader_told : Stmt := inClass (topS 25) 2
abbrev N_Reader_told : List Str := ["self"]
abbrev P_Reader_told : List Str := ["self"]
theorem sc_Reader_told : FnScope N_Reader_told P_Reader_told (defScope s_Reader_told) := ⟨rfl, rfl, rfl, by decide +kernel, rfl, by decide +kernel, by decide +kernel⟩
abbrev s_Reader_text : Stmt := inClass (topS 25) 3
abbrev N_Reader_text : List Str := ["self"]
abbrev P_Reader_text : List Str := ["self"]
theorem sc_Reader_text : FnScope N_Reader_text P_Reader_text (defScope s_Reader_text) := ⟨rfl, rfl, rfl, by decide +kernel, rfl, by decide +kernel, by decide +kernel⟩
abbrev s_Reader_twin : Stmt := inClass (topS 25) 4
abbrev N_Reader_twin : List Str := ["self", "made"]
abbrev P_Reader_twin : List Str := ["self"]
theorem sc_Reader_twin : FnScope N_Reader_twin P_Reader_twin (defScope s_Reader_twin) := ⟨rfl, rfl, rfl, by decide +kernel, rfl, by decide +kernel, by decide +kernel⟩
abbrev s_Reader__covers : Stmt := inClass (topS 25) 5
abbrev N_Reader__covers : List Str := ["self", "sign", "text", "found", "back", "place", "left", "state", "trail", "alone", "arcs"]
abbrev P_Reader__covers : List Str := ["self", "sign"]
theorem sc_Reader__covers : FnScope N_Reader__covers P_Reader__covers (defScope s_Reader__covers) := ⟨rfl, rfl, rfl, by decide +kernel, rfl, by decide +kernel, by decide +kernel⟩
abbrev s_sure_trail : Stmt := topS 26
abbrev N_sure_trail : List Str := ["covers", "trail", "alone", "arcs", "_", "other"]
abbrev P_sure_trail : List Str := ["covers"]
theorem sc_sure_trail : FnScope N_sure_trail P_sure_trail (defScope s_sure_trail) := ⟨rfl, rfl, rfl, by decide +kernel, rfl, by decide +kernel, by decide +kernel⟩
abbrev s_ends : Stmt := topS 27
abbrev N_ends : List Str := ["covers", "found", "trail", "alone", "arcs", "length", "number", "word", "goal", "longer"]
abbrev P_ends : List Str := ["covers"]
theorem sc_ends : FnScope N_ends P_ends (defScope s_ends) := ⟨rfl, rfl, rfl, by decide +kernel, rfl, by decide +kernel, by decide +kernel⟩
abbrev s_is_arc : Stmt := topS 30
abbrev N_is_arc : List Str := ["signs", "thing", "state", "word", "goal"]
abbrev P_is_arc : List Str := ["signs", "thing"]
theorem sc_is_arc : FnScope N_is_arc P_is_arc (defScope s_is_arc) := ⟨rfl, rfl, rfl, by decide +kernel, rfl, by decide +kernel, by decide +kernel⟩
abbrev s_Loom_init : Stmt := inClass (topS 31) 0
abbrev N_Loom_init : List Str := ["self", "signs", "arcs", "at", "arc"]
abbrev P_Loom_init : List Str := ["self", "signs", "arcs"]
theorem sc_Loom_init : FnScope N_Loom_init P_Loom_init (defScope s_Loom_init) := ⟨rfl, rfl, rfl, by decide +kernel, rfl, by decide +kernel, by decide +kernel⟩
abbrev s_Loom_eq : Stmt := inClass (topS 31) 1
abbrev N_Loom_eq : List Str := ["self", "other"]
abbrev P_Loom_eq : List Str := ["self", "other"]
theorem sc_Loom_eq : FnScope N_Loom_eq P_Loom_eq (defScope s_Loom_eq) := ⟨rfl, rfl, rfl, by decide +kernel, rfl, by decide +kernel, by decide +kernel⟩
abbrev s_goes_on : Stmt := topS 33
abbrev N_goes_on : List Str := ["text", "at", "arc", "live", "beyond", "_", "word", "goal", "end"]
abbrev P_goes_on : List Str := ["text", "at", "arc", "live", "beyond"]
theorem sc_goes_on : FnScope N_goes_on P_goes_on (defScope s_goes_on) := ⟨rfl, rfl, rfl, by decide +kernel, rfl, by decide +kernel, by decide +kernel⟩
abbrev s_live_arcs : Stmt := topS 34
abbrev N_live_arcs : List Str := ["loom", "text", "beyond", "live", "at", "number", "arc", "_"]
abbrev P_live_arcs : List Str := ["loom", "text", "beyond"]
theorem sc_live_arcs : FnScope N_live_arcs P_live_arcs (defScope s_live_arcs) := ⟨rfl, rfl, rfl, by decide +kernel, rfl, by decide +kernel, by decide +kernel⟩
abbrev s_sure : Stmt := topS 35
abbrev N_sure : List Str := ["loom", "state", "text", "live", "row", "at", "place", "number", "_", "word"]
abbrev P_sure : List Str := ["loom", "state", "text"]
theorem sc_sure : FnScope N_sure P_sure (defScope s_sure) := ⟨rfl, rfl, rfl, by decide +kernel, rfl, by decide +kernel, by decide +kernel⟩
abbrev s_l_state : Stmt := topS 37
abbrev N_l_state : List Str := ["_law_script"]
abbrev P_l_state : List Str := ["_law_script"]
theorem sc_l_state : FnScope N_l_state P_l_state (defScope s_l_state) := ⟨rfl, rfl, rfl, by decide +kernel, rfl, by decide +kernel, by decide +kernel⟩
abbrev s_l_draw : Stmt := topS 38
abbrev N_l_draw : List Str := ["_law_state_here", "_law_many", "_law_digit", "_law_cell", "_law_number"]
abbrev P_l_draw : List Str := ["_law_state_here", "_law_many"]
theorem sc_l_draw : FnScope N_l_draw P_l_draw (defScope s_l_draw) := ⟨rfl, rfl, rfl, by decide +kernel, rfl, by decide +kernel, by decide +kernel⟩
abbrev s_l_word : Stmt := topS 39
abbrev N_l_word : List Str := ["_law_state_here", "_law_signs", "_law_most", "_law_size", "_law_k"]
abbrev P_l_word : List Str := ["_law_state_here", "_law_signs", "_law_most"]
theorem sc_l_word : FnScope N_l_word P_l_word (defScope s_l_word) := ⟨rfl, rfl, rfl, by decide +kernel, rfl, by decide +kernel, by decide +kernel⟩
abbrev s_l_loom : Stmt := topS 40
abbrev N_l_loom : List Str := ["_law_state_here", "_law_signs", "_law_places", "_law_many", "_law_most", "_law_arcs", "_law_k", "_law_start"]
abbrev P_l_loom : List Str := ["_law_state_here"]
theorem sc_l_loom : FnScope N_l_loom P_l_loom (defScope s_l_loom) := ⟨rfl, rfl, rfl, by decide +kernel, rfl, by decide +kernel, by decide +kernel⟩
abbrev s_l_made : Stmt := topS 41
abbrev N_l_made : List Str := ["_law_pair"]
abbrev P_l_made : List Str := ["_law_pair"]
theorem sc_l_made : FnScope N_l_made P_l_made (defScope s_l_made) := ⟨rfl, rfl, rfl, by decide +kernel, rfl, by decide +kernel, by decide +kernel⟩
abbrev s_l_leaving : Stmt := topS 42
abbrev N_l_leaving : List Str := ["_law_arcs", "_law_here", "_law_at"]
abbrev P_l_leaving : List Str := ["_law_arcs", "_law_here"]
theorem sc_l_leaving : FnScope N_l_leaving P_l_leaving (defScope s_l_leaving) := ⟨rfl, rfl, rfl, by decide +kernel, rfl, by decide +kernel, by decide +kernel⟩
abbrev s_l_met : Stmt := topS 43
abbrev N_l_met : List Str := ["_law_arcs", "_law_found", "_law_turn", "_law_here", "_law_at"]
abbrev P_l_met : List Str := ["_law_arcs"]
theorem sc_l_met : FnScope N_l_met P_l_met (defScope s_l_met) := ⟨rfl, rfl, rfl, by decide +kernel, rfl, by decide +kernel, by decide +kernel⟩
abbrev s_l_odd : Stmt := topS 44
abbrev N_l_odd : List Str := ["_law_state_here", "_law_some"]
abbrev P_l_odd : List Str := ["_law_state_here"]
theorem sc_l_odd : FnScope N_l_odd P_l_odd (defScope s_l_odd) := ⟨rfl, rfl, rfl, by decide +kernel, rfl, by decide +kernel, by decide +kernel⟩
abbrev s_l_take : Stmt := topS 45
abbrev N_l_take : List Str := ["_law_reader", "_law_sign", "_law_found"]
abbrev P_l_take : List Str := ["_law_reader", "_law_sign"]
theorem sc_l_take : FnScope N_l_take P_l_take (defScope s_l_take) := ⟨rfl, rfl, rfl, by decide +kernel, rfl, by decide +kernel, by decide +kernel⟩
abbrev s_law : Stmt := topS 46
abbrev N_law : List Str := ["_law_script", "_law_state_here", "_law_turn", "_law_pair", "_law_signs", "_law_arcs", "_law_loom_here", "_law_here", "_law_readers", "_law_texts", "_law_step", "_law_at", "_law_reader", "_law_sign", "_law_row", "_law_odd_here", "_law_bad", "_law_after", "_law_told", "_law_k"]
abbrev P_law : List Str := ["_law_script"]
theorem sc_law : FnScope N_law P_law (defScope s_law) := ⟨rfl, rfl, rfl, by decide +kernel, rfl, by decide +kernel, by decide +kernel⟩
/-- what the top has written -/
structure Tx (K : PySem.W.Frag) (mg : Str → Option Value) : Type where
  f_InvalidLoom_init : Addr
  fd_InvalidLoom_init : FuncData
  F_InvalidLoom_init : Fun K "__init__" "InvalidLoom.__init__" s_InvalidLoom_init f_InvalidLoom_init fd_InvalidLoom_init
  b_InvalidLoom_init : Binds K fd_InvalidLoom_init P_InvalidLoom_init []
  f_is_number : Addr
  fd_is_number : FuncData
  F_is_number : Fun K "is_number" "is_number" s_is_number f_is_number fd_is_number
  b_is_number : Binds K fd_is_number P_is_number []
  m_is_number : mg "is_number" = some (.ref f_is_number)
  f_is_sequence : Addr
  fd_is_sequence : FuncData
  F_is_sequence : Fun K "is_sequence" "is_sequence" s_is_sequence f_is_sequence fd_is_sequence
  b_is_sequence : Binds K fd_is_sequence P_is_sequence []
  m_is_sequence : mg "is_sequence" = some (.ref f_is_sequence)
  f_is_signs : Addr
  fd_is_signs : FuncData
  F_is_signs : Fun K "is_signs" "is_signs" s_is_signs f_is_signs fd_is_signs
  b_is_signs : Binds K fd_is_signs P_is_signs []
  m_is_signs : mg "is_signs" = some (.ref f_is_signs)
  f_is_string_over : Addr
  fd_is_string_over : FuncData
  F_is_string_over : Fun K "is_string_over" "is_string_over" s_is_string_over f_is_string_over fd_is_string_over
  b_is_string_over : Binds K fd_is_string_over P_is_string_over []
  m_is_string_over : mg "is_string_over" = some (.ref f_is_string_over)
  f_is_word : Addr
  fd_is_word : FuncData
  F_is_word : Fun K "is_word" "is_word" s_is_word f_is_word fd_is_word
  b_is_word : Binds K fd_is_word P_is_word []
  m_is_word : mg "is_word" = some (.ref f_is_word)
  f_check_signs : Addr
  fd_check_signs : FuncData
  F_check_signs : Fun K "check_signs" "check_signs" s_check_signs f_check_signs fd_check_signs
  b_check_signs : Binds K fd_check_signs P_check_signs []
  m_check_signs : mg "check_signs" = some (.ref f_check_signs)
  f_check_state : Addr
  fd_check_state : FuncData
  F_check_state : Fun K "check_state" "check_state" s_check_state f_check_state fd_check_state
  b_check_state : Binds K fd_check_state P_check_state []
  m_check_state : mg "check_state" = some (.ref f_check_state)
  f_check_text : Addr
  fd_check_text : FuncData
  F_check_text : Fun K "check_text" "check_text" s_check_text f_check_text fd_check_text
  b_check_text : Binds K fd_check_text P_check_text []
  m_check_text : mg "check_text" = some (.ref f_check_text)
  f_Trail_init : Addr
  fd_Trail_init : FuncData
  F_Trail_init : Fun K "__init__" "Trail.__init__" s_Trail_init f_Trail_init fd_Trail_init
  b_Trail_init : Binds K fd_Trail_init P_Trail_init []
  f_cut : Addr
  fd_cut : FuncData
  F_cut : Fun K "cut" "cut" s_cut f_cut fd_cut
  b_cut : Binds K fd_cut P_cut []
  m_cut : mg "cut" = some (.ref f_cut)
  f_shared : Addr
  fd_shared : FuncData
  F_shared : Fun K "shared" "shared" s_shared f_shared fd_shared
  b_shared : Binds K fd_shared P_shared []
  m_shared : mg "shared" = some (.ref f_shared)
  f_numbers_beyond : Addr
  fd_numbers_beyond : FuncData
  F_numbers_beyond : Fun K "numbers_beyond" "numbers_beyond" s_numbers_beyond f_numbers_beyond fd_numbers_beyond
  b_numbers_beyond : Binds K fd_numbers_beyond P_numbers_beyond []
  m_numbers_beyond : mg "numbers_beyond" = some (.ref f_numbers_beyond)
  f_arcs_by_beginnings : Addr
  fd_arcs_by_beginnings : FuncData
  F_arcs_by_beginnings : Fun K "arcs_by_beginnings" "arcs_by_beginnings" s_arcs_by_beginnings f_arcs_by_beginnings fd_arcs_by_beginnings
  b_arcs_by_beginnings : Binds K fd_arcs_by_beginnings P_arcs_by_beginnings []
  m_arcs_by_beginnings : mg "arcs_by_beginnings" = some (.ref f_arcs_by_beginnings)
  f_Reader_init : Addr
  fd_Reader_init : FuncData
  F_Reader_init : Fun K "__init__" "Reader.__init__" s_Reader_init f_Reader_init fd_Reader_init
  b_Reader_init : Binds K fd_Reader_init P_Reader_init []
  f_Reader_take : Addr
  fd_Reader_take : FuncData
  F_Reader_take : Fun K "take" "Reader.take" s_Reader_take f_Reader_take fd_Reader_take
  b_Reader_take : Binds K fd_Reader_take P_Reader_take []
  f_Reader_told : Addr
  fd_Reader_told : FuncData
  F_Reader_told : Fun K "told" "Reader.told" s_Reader_told f_Reader_told fd_Reader_told
  b_Reader_told : Binds K fd_Reader_told P_Reader_told []
  f_Reader_text : Addr
  fd_Reader_text : FuncData
  F_Reader_text : Fun K "text" "Reader.text" s_Reader_text f_Reader_text fd_Reader_text
  b_Reader_text : Binds K fd_Reader_text P_Reader_text []
  f_Reader_twin : Addr
  fd_Reader_twin : FuncData
  F_Reader_twin : Fun K "twin" "Reader.twin" s_Reader_twin f_Reader_twin fd_Reader_twin
  b_Reader_twin : Binds K fd_Reader_twin P_Reader_twin []
  f_Reader__covers : Addr
  fd_Reader__covers : FuncData
  F_Reader__covers : Fun K "_covers" "Reader._covers" s_Reader__covers f_Reader__covers fd_Reader__covers
  b_Reader__covers : Binds K fd_Reader__covers P_Reader__covers []
  f_sure_trail : Addr
  fd_sure_trail : FuncData
  F_sure_trail : Fun K "sure_trail" "sure_trail" s_sure_trail f_sure_trail fd_sure_trail
  b_sure_trail : Binds K fd_sure_trail P_sure_trail []
  m_sure_trail : mg "sure_trail" = some (.ref f_sure_trail)
  f_ends : Addr
  fd_ends : FuncData
  F_ends : Fun K "ends" "ends" s_ends f_ends fd_ends
  b_ends : Binds K fd_ends P_ends []
  m_ends : mg "ends" = some (.ref f_ends)
  f_is_arc : Addr
  fd_is_arc : FuncData
  F_is_arc : Fun K "is_arc" "is_arc" s_is_arc f_is_arc fd_is_arc
  b_is_arc : Binds K fd_is_arc P_is_arc []
  m_is_arc : mg "is_arc" = some (.ref f_is_arc)
  f_Loom_init : Addr
  fd_Loom_init : FuncData
  F_Loom_init : Fun K "__init__" "Loom.__init__" s_Loom_init f_Loom_init fd_Loom_init
  b_Loom_init : Binds K fd_Loom_init P_Loom_init []
  f_Loom_eq : Addr
  fd_Loom_eq : FuncData
  F_Loom_eq : Fun K "__eq__" "Loom.__eq__" s_Loom_eq f_Loom_eq fd_Loom_eq
  b_Loom_eq : Binds K fd_Loom_eq P_Loom_eq []
  f_goes_on : Addr
  fd_goes_on : FuncData
  F_goes_on : Fun K "goes_on" "goes_on" s_goes_on f_goes_on fd_goes_on
  b_goes_on : Binds K fd_goes_on P_goes_on []
  m_goes_on : mg "goes_on" = some (.ref f_goes_on)
  f_live_arcs : Addr
  fd_live_arcs : FuncData
  F_live_arcs : Fun K "live_arcs" "live_arcs" s_live_arcs f_live_arcs fd_live_arcs
  b_live_arcs : Binds K fd_live_arcs P_live_arcs []
  m_live_arcs : mg "live_arcs" = some (.ref f_live_arcs)
  f_sure : Addr
  fd_sure : FuncData
  F_sure : Fun K "sure" "sure" s_sure f_sure fd_sure
  b_sure : Binds K fd_sure P_sure []
  m_sure : mg "sure" = some (.ref f_sure)
  f_l_state : Addr
  fd_l_state : FuncData
  F_l_state : Fun K "_law_state" "_law_state" s_l_state f_l_state fd_l_state
  b_l_state : Binds K fd_l_state P_l_state []
  m_l_state : mg "_law_state" = some (.ref f_l_state)
  f_l_draw : Addr
  fd_l_draw : FuncData
  F_l_draw : Fun K "_law_draw" "_law_draw" s_l_draw f_l_draw fd_l_draw
  b_l_draw : Binds K fd_l_draw P_l_draw []
  m_l_draw : mg "_law_draw" = some (.ref f_l_draw)
  f_l_word : Addr
  fd_l_word : FuncData
  F_l_word : Fun K "_law_word" "_law_word" s_l_word f_l_word fd_l_word
  b_l_word : Binds K fd_l_word P_l_word []
  m_l_word : mg "_law_word" = some (.ref f_l_word)
  f_l_loom : Addr
  fd_l_loom : FuncData
  F_l_loom : Fun K "_law_loom" "_law_loom" s_l_loom f_l_loom fd_l_loom
  b_l_loom : Binds K fd_l_loom P_l_loom []
  m_l_loom : mg "_law_loom" = some (.ref f_l_loom)
  f_l_made : Addr
  fd_l_made : FuncData
  F_l_made : Fun K "_law_made" "_law_made" s_l_made f_l_made fd_l_made
  b_l_made : Binds K fd_l_made P_l_made []
  m_l_made : mg "_law_made" = some (.ref f_l_made)
  f_l_leaving : Addr
  fd_l_leaving : FuncData
  F_l_leaving : Fun K "_law_leaving" "_law_leaving" s_l_leaving f_l_leaving fd_l_leaving
  b_l_leaving : Binds K fd_l_leaving P_l_leaving []
  m_l_leaving : mg "_law_leaving" = some (.ref f_l_leaving)
  f_l_met : Addr
  fd_l_met : FuncData
  F_l_met : Fun K "_law_met" "_law_met" s_l_met f_l_met fd_l_met
  b_l_met : Binds K fd_l_met P_l_met []
  m_l_met : mg "_law_met" = some (.ref f_l_met)
  f_l_odd : Addr
  fd_l_odd : FuncData
  F_l_odd : Fun K "_law_odd" "_law_odd" s_l_odd f_l_odd fd_l_odd
  b_l_odd : Binds K fd_l_odd P_l_odd []
  m_l_odd : mg "_law_odd" = some (.ref f_l_odd)
  f_l_take : Addr
  fd_l_take : FuncData
  F_l_take : Fun K "_law_take" "_law_take" s_l_take f_l_take fd_l_take
  b_l_take : Binds K fd_l_take P_l_take []
  m_l_take : mg "_law_take" = some (.ref f_l_take)
  f_law : Addr
  fd_law : FuncData
  F_law : Fun K "law" "law" s_law f_law fd_law
  b_law : Binds K fd_law P_law []
  m_law : mg "law" = some (.ref f_law)
  n_all : mg "all" = none
  n_bool : mg "bool" = none
  n_enumerate : mg "enumerate" = none
  n_int : mg "int" = none
  n_isinstance : mg "isinstance" = none
  n_len : mg "len" = none
  n_list : mg "list" = none
  n_range : mg "range" = none
  n_reversed : mg "reversed" = none
  n_sorted : mg "sorted" = none
  n_str : mg "str" = none
  n_tuple : mg "tuple" = none
  n_zip : mg "zip" = none
  t_MOST_SIGNS : Tok
  g_MOST_SIGNS : mg "MOST_SIGNS" = some (.int 4 t_MOST_SIGNS)
  t_LONGEST_WORD : Tok
  g_LONGEST_WORD : mg "LONGEST_WORD" = some (.int 12 t_LONGEST_WORD)
  t_LONGEST_TEXT : Tok
  g_LONGEST_TEXT : mg "LONGEST_TEXT" = some (.int 2000 t_LONGEST_TEXT)
  t_LAST_STATE : Tok
  g_LAST_STATE : mg "LAST_STATE" = some (.int 63 t_LAST_STATE)
  t_MOST_ARCS : Tok
  g_MOST_ARCS : mg "MOST_ARCS" = some (.int 200 t_MOST_ARCS)
  C_Trail : Addr
  M_Trail : Mk K C_Trail f_Trail_init
  cl_Trail : Cls K C_Trail
  g_Trail : mg "Trail" = some (.ref C_Trail)
  na_Trail_ahead : NoAttr K C_Trail "ahead"
  na_Trail_number : NoAttr K C_Trail "number"
  na_Trail_many : NoAttr K C_Trail "many"
  na_Trail_jump : NoAttr K C_Trail "jump"
  C_Reader : Addr
  M_Reader : Mk K C_Reader f_Reader_init
  cl_Reader : Cls K C_Reader
  g_Reader : mg "Reader" = some (.ref C_Reader)
  na_Reader__loom : NoAttr K C_Reader "_loom"
  na_Reader__state : NoAttr K C_Reader "_state"
  na_Reader__arcs : NoAttr K C_Reader "_arcs"
  na_Reader__text : NoAttr K C_Reader "_text"
  na_Reader__told : NoAttr K C_Reader "_told"
  na_Reader__places : NoAttr K C_Reader "_places"
  me_Reader_take : Meth K C_Reader "take" f_Reader_take
  me_Reader_told : Meth K C_Reader "told" f_Reader_told
  me_Reader_text : Meth K C_Reader "text" f_Reader_text
  me_Reader_twin : Meth K C_Reader "twin" f_Reader_twin
  me_Reader__covers : Meth K C_Reader "_covers" f_Reader__covers
  C_Loom : Addr
  M_Loom : Mk K C_Loom f_Loom_init
  cl_Loom : Cls K C_Loom
  g_Loom : mg "Loom" = some (.ref C_Loom)
  na_Loom_signs : NoAttr K C_Loom "signs"
  na_Loom_arcs : NoAttr K C_Loom "arcs"
  C_ReadError : Addr
  C_InvalidLoom : Addr
  C_InvalidText : Addr
  C_Stuck : Addr
  g_ReadError : mg "ReadError" = some (.ref C_ReadError)
  kc_ReadError : PySem.W.keepIn K (.ref C_ReadError) = true
  E_ReadError : ExcC K C_ReadError
  ty_ReadError : PySem.W.typeIn K (.ref C_ReadError) = some (.type "type")
  in_ReadError : PySem.W.excIn K C_ReadError [.type "Exception", .type "BaseException", .type "object"] "Exception.__new__" = true
  g_InvalidLoom : mg "InvalidLoom" = some (.ref C_InvalidLoom)
  kc_InvalidLoom : PySem.W.keepIn K (.ref C_InvalidLoom) = true
  E_InvalidLoom : ExcC K C_InvalidLoom
  ty_InvalidLoom : PySem.W.typeIn K (.ref C_InvalidLoom) = some (.type "type")
  X_InvalidLoom : PySem.ExX.ExcT K mg C_InvalidLoom f_InvalidLoom_init "InvalidLoom" ["part", "at"] "InvalidLoom.__init__" s_InvalidLoom_init
  g_InvalidText : mg "InvalidText" = some (.ref C_InvalidText)
  kc_InvalidText : PySem.W.keepIn K (.ref C_InvalidText) = true
  E_InvalidText : ExcC K C_InvalidText
  ty_InvalidText : PySem.W.typeIn K (.ref C_InvalidText) = some (.type "type")
  in_InvalidText : PySem.W.excIn K C_InvalidText [.type "Exception", .type "BaseException", .type "object"] "Exception.__new__" = true
  g_Stuck : mg "Stuck" = some (.ref C_Stuck)
  kc_Stuck : PySem.W.keepIn K (.ref C_Stuck) = true
  E_Stuck : ExcC K C_Stuck
  ty_Stuck : PySem.W.typeIn K (.ref C_Stuck) = some (.type "type")
  in_Stuck : PySem.W.excIn K C_Stuck [.type "Exception", .type "BaseException", .type "object"] "Exception.__new__" = true
  eqo_Trail : PySem.W.findIn K (.ref C_Trail) "__eq__" = some (some (.builtin "object.__eq__"))
  neo_Trail : PySem.W.findIn K (.ref C_Trail) "__ne__" = some (some (.builtin "object.__ne__"))
  mro_Trail : PySem.W.mroIn K C_Trail (.type "object") = some true
  ic_Loom : PySem.W.findIn K (.ref C_Loom) "__class__" = some (some (.builtin "object.__class__"))
  ig : PySem.W.specialIn K (.builtin "object.__class__") "__get__" = some (some (.builtin "getset_descriptor.__get__"))
  it : PySem.W.takesIn K (.builtin "object.__class__") = some true
  im_Loom : PySem.W.mroIn K C_Loom (.type "object") = some true
  si_InvalidLoom : PySem.W.subIn K (.ref C_InvalidLoom) (.type "int") = some false
  si_Loom : PySem.W.subIn K (.ref C_Loom) (.type "int") = some false
  sl_InvalidLoom : PySem.W.subIn K (.ref C_InvalidLoom) (.type "list") = some false
  st_InvalidLoom : PySem.W.subIn K (.ref C_InvalidLoom) (.type "tuple") = some false
  sl_Loom : PySem.W.subIn K (.ref C_Loom) (.type "list") = some false
  st_Loom : PySem.W.subIn K (.ref C_Loom) (.type "tuple") = some false
  sx_Loom : PySem.W.subIn K (.ref C_Loom) (.type "str") = some false
  cl_InvalidText : PySem.W.isClsIn K C_InvalidText = true
  cl_Stuck : PySem.W.isClsIn K C_Stuck = true
  cl_ReadError : PySem.W.isClsIn K C_ReadError = true
  su_InvalidText_InvalidText : PySem.W.subIn K (.ref C_InvalidText) (.ref C_InvalidText) = some true
  su_InvalidText_Stuck : PySem.W.subIn K (.ref C_InvalidText) (.ref C_Stuck) = some false
  su_Stuck_InvalidText : PySem.W.subIn K (.ref C_Stuck) (.ref C_InvalidText) = some false
  su_Stuck_Stuck : PySem.W.subIn K (.ref C_Stuck) (.ref C_Stuck) = some true
  sx_InvalidLoom : PySem.W.subIn K (.ref C_InvalidLoom) (.type "str") = some false
end J

set_option Elab.async false
set_option linter.all false
set_option maxRecDepth 100000
set_option maxHeartbeats 4000000
namespace J
open PySem L2
/-! ### frames -/
/-- all that was tracked but what stands at p is as it was -/
def Ex (p : Addr) (H H' : Hp) : Prop := ∀ b o, b ≠ p → H b = some o → H' b = some o
theorem Ex.refl (p : Addr) (H : Hp) : Ex p H H := fun _ _ _ h => h
theorem Ex.trans {p : Addr} {H H1 H2 : Hp} (a : Ex p H H1) (b : Ex p H1 H2) : Ex p H H2 := fun c o n h => b c o n (a c o n h)
theorem Ex.upd {p : Addr} {H : Hp} (o : HO) : Ex p H (upd H p o) := fun c u n h => by rw [upd_ne n]; exact h
theorem Ex.new {p q : Addr} {H : Hp} (o : HO) (h : H q = none) : Ex p H (L2.upd H q o) := fun c u n e => by
  rw [upd_ne (ne_of_none e h)]; exact e
theorem Same.ex {p : Addr} {H H' : Hp} (s : Same H H') : Ex p H H' := fun c o _ h => s c o h
theorem Same.new {q : Addr} {H : Hp} (o : HO) (h : H q = none) : Same H (L2.upd H q o) := fun c u e => by
  rw [upd_ne (ne_of_none e h)]; exact e
/-! ### the pool of draws -/
def stv (l : Addr) (a b c d e : Int) : List V := [.ref l, .int a, .int b, .int c, .int d, .int e]
def StAt (ns : List Int) (l : Addr) (H : Hp) (p : Addr) : Prop := ∃ (a b c d e : Int), H l = some (.lst (ns.map V.int)) ∧ H p = some (.lst (stv l a b c d e)) ∧ 0 ≤ a
theorem StAt.there {ns : List Int} {l : Addr} {H : Hp} {p : Addr} (h : StAt ns l H p) : (∃ o, H p = some o) ∧ ∃ o, H l = some o := by
  obtain ⟨a, b, c, d, e, h1, h2, h3⟩ := h
  exact ⟨⟨_, h2⟩, _, h1⟩
theorem hp_ne {H : Hp} {p q : Addr} {o : HO} (h : H p = some o) (hq : H q = none) : q ≠ p := by
  intro z
  rw [z, h] at hq
  cases hq
theorem StAt.ne {ns : List Int} {l : Addr} {H : Hp} {p q : Addr} (h : StAt ns l H p) (hq : H q = none) : q ≠ p ∧ q ≠ l := by
  obtain ⟨⟨o, h1⟩, u, h2⟩ := h.there
  exact ⟨hp_ne h1 hq, hp_ne h2 hq⟩
theorem StAt.same {ns : List Int} {l : Addr} {H H' : Hp} {p : Addr} (h : StAt ns l H p) (s : Same H H') : StAt ns l H' p := by
  obtain ⟨a, b, c, d, e, h1, h2, h3⟩ := h
  exact ⟨a, b, c, d, e, s _ _ h1, s _ _ h2, h3⟩
theorem StAt.upd {ns : List Int} {l : Addr} {H : Hp} {p q : Addr} {o : HO} (h : StAt ns l H p) (n : q ≠ p ∧ q ≠ l) : StAt ns l (L2.upd H q o) p := by
  obtain ⟨a, b, c, d, e, h1, h2, h3⟩ := h
  exact ⟨a, b, c, d, e, by rw [upd_ne n.2.symm]; exact h1, by rw [upd_ne n.1.symm]; exact h2, h3⟩
theorem Ex.free {p q : Addr} {H H' : Hp} (x : Ex p H H') (hq : H' q = none) (n : q ≠ p) : H q = none := by
  cases e : H q with
  | none => rfl
  | some o => rw [x _ _ n e] at hq; cases hq
theorem Ex.updNew {p q : Addr} {H H' : Hp} {o : HO} (x : Ex p H H') (hq : H q = none) : Ex p H (L2.upd H' q o) := fun b u n e => by
  rw [upd_ne (ne_of_none e hq)]; exact x b u n e
def spState (K : PySem.W.Frag) (ns : List Int) : Sp := fun vs H Q _ => ∃ a : Addr, vs = [.ref a] ∧ SqL K H a (ns.map V.int) ∧ ∀ H' p l, Same H H' → H p = none → H l = none → StAt ns l H' p → Q (.ref p) H'
def spDraw (ns : List Int) : Sp := fun vs H Q _ => ∃ (p l : Addr) (m : Int), vs = [.ref p, .int m] ∧ StAt ns l H p ∧ 0 < m ∧ m < 1073741824 ∧
  ∀ H' (r : Int), Ex p H H' → StAt ns l H' p → 0 ≤ r → r < m → Q (.int r) H'
theorem fm_nonneg (a : Int) {b : Int} (h : 0 < b) : 0 ≤ a.fmod b := Int.fmod_nonneg_of_pos a h
theorem fm_lt (a : Int) {b : Int} (h : 0 < b) : a.fmod b < b := Int.fmod_lt_of_pos a h
theorem atI_ints {ns : List Int} {a : Int} (h0 : 0 ≤ a) (h1 : a < ns.length) : ∃ n, atI (ns.map V.int) a = some (V.int n) := by
  obtain ⟨j, rfl⟩ := Int.eq_ofNat_of_zero_le h0
  have hj : j < ns.length := by exact_mod_cast h1
  exact ⟨ns[j], atI_nat (by rw [List.getElem?_map, List.getElem?_eq_getElem hj]; rfl)⟩
section
variable {P : Program} {w : World} {K : PySem.W.Frag} {mg : Str → Option Value} {base : Heap}
theorem ok_l_state (T : Tx K mg) (ns : List Int) : FnOk P w K mg base CX0 1 T.f_l_state T.fd_l_state P_l_state (spState K ns) := by
  refine T.F_l_state.ok sc_l_state (fun vs H Q E h => ?_) (fun cdv A outer s H vs Q E hr h => ?_)
  · obtain ⟨a, rfl, _⟩ := h
    rfl
  · obtain ⟨a, rfl, hS, k⟩ := h
    refine ⟨_, (pss_one (ps_ret (pe_lst (pa_cons (pe_callTy (call_list_ofK (K := K) rfl) rfl T.n_list (by decide +kernel) (pa_cons (pv 0) pa_nil)) (pa_cons pe_int (pa_cons pe_int (pa_cons pe_int (pa_cons pe_int (pa_cons pe_int pa_nil))))))))), ?_⟩
    refine ⟨_, rfl, a, _, rfl, .inl hS, fun l hl => ?_⟩
    refine ⟨by show 6 ≤ sizeLine; decide, fun p hp => ?_⟩
    have nlp : l ≠ p := fun q => by
      rw [q, upd_same] at hp
      cases hp
    have hp0 : H p = none := by rw [upd_ne nlp.symm] at hp; exact hp
    refine k _ p l ((Same.new _ hl).trans (Same.new _ hp)) hp0 hl ⟨0, 0, 0, 0, 0, ?_, upd_same, Int.le_refl _⟩
    rw [upd_ne nlp, upd_same]
theorem ok_l_draw (T : Tx K mg) (ns : List Int) : FnOk P w K mg base CX0 1 T.f_l_draw T.fd_l_draw P_l_draw (spDraw ns) := by
  refine T.F_l_draw.ok sc_l_draw (fun vs H Q E h => ?_) (fun cdv A outer s H vs Q E hr h => ?_)
  · obtain ⟨p, l, m, rfl, _⟩ := h
    rfl
  · obtain ⟨p, l, m, rfl, hst, hm, hm2, k⟩ := h
    refine ⟨_, (C8.pss_cut (ps_if (PW.pt (pw_and (pt_cmpR op_gt (pe_ix (ix_listK (K := K) rfl) (pv 0) pe_int (fun _ _ => rfl)) pe_int (nomark _)) (pw_and1 (pt_cmpR op_lt (pe_ix (ix_listK (K := K) rfl) (pv 0) pe_int (fun _ _ => rfl)) pe_int (nomark _))))) (pss_cons (ps_set (i := 2) sc_l_draw.nd rfl (Or.inl rfl) (pe_op op_modN (pe_callTy call_int1 rfl T.n_int (by decide +kernel) (pa_cons (pe_ix (ix_listK (K := K) rfl) (pv 0) pe_int (fun _ _ => rfl)) pa_nil)) (pv 1)))
        (pss_cons (ps_asg (pe_op op_fdivN (pe_ix (ix_listK (K := K) rfl) (pv 0) pe_int (fun _ _ => rfl)) (pv 1)) (pg_sub (pv 0) pe_int set_list))
        (pss_cons (ps_asg (pe_op op_add (pe_ix (ix_listK (K := K) rfl) (pv 0) pe_int (fun _ _ => rfl)) pe_int) (pg_sub (pv 0) pe_int set_list))
        (pss_one (ps_ret (pv 2)))))) pss_nil)
        (pss_cons (ps_asg (pe_op op_add (pe_ix (ix_listK (K := K) rfl) (pv 0) pe_int (fun _ _ => rfl)) pe_int) (pg_sub (pv 0) pe_int set_list))
        (C8.pss_cut (ps_if (pt_cmpR op_lt (pe_ix (ix_listK (K := K) rfl) (pv 0) pe_int (fun _ _ => rfl)) (pe_callB (call_len_seqK (K := K) rfl) rfl T.n_len (by decide +kernel) (pa_cons (pe_ix (ix_listK (K := K) rfl) (pv 0) pe_int (fun _ _ => rfl)) pa_nil)) (nomark _)) (pss_cons (ps_set (i := 3) sc_l_draw.nd rfl (Or.inl rfl) (pe_ix (ix_listK (K := K) rfl) (pe_ix (ix_listK (K := K) rfl) (pv 0) pe_int (fun _ _ => rfl)) (pe_ix (ix_listK (K := K) rfl) (pv 0) pe_int (fun _ _ => rfl)) (fun _ _ => rfl)))
        (pss_cons (ps_asg (pe_op op_add (pe_ix (ix_listK (K := K) rfl) (pv 0) pe_int (fun _ _ => rfl)) pe_int) (pg_sub (pv 0) pe_int set_list))
        (pss_cons (ps_asg (pe_op op_modN (pe_op op_add (pe_op op_mul (pe_ix (ix_listK (K := K) rfl) (pv 0) pe_int (fun _ _ => rfl)) pe_int) (pe_callTy call_int1 rfl T.n_int (by decide +kernel) (pa_cons (pv 3) pa_nil))) (pe_op op_pow pe_int pe_int)) (pg_sub (pv 0) pe_int set_list))
        (pss_one (ps_if (pt_cmpR op_ge (pv 3) (pe_op op_pow pe_int pe_int) (nomark _)) (pss_cons (ps_asg (pe_op op_fdivN (pv 3) (pv 1)) (pg_sub (pv 0) pe_int set_list))
        (pss_cons (ps_asg pe_int (pg_sub (pv 0) pe_int set_list))
        (pss_one (ps_ret (pe_op op_modN (pe_callTy call_int1 rfl T.n_int (by decide +kernel) (pa_cons (pv 3) pa_nil)) (pv 1)))))) pss_nil))))) pss_nil)
        (pss_cons (ps_set (i := 4) sc_l_draw.nd rfl (Or.inl rfl) (pe_op op_modN (pe_op op_mul (pe_op op_add (pe_op op_add (pe_op op_mul (pe_callTy call_int1 rfl T.n_int (by decide +kernel) (pa_cons (pe_ix (ix_listK (K := K) rfl) (pv 0) pe_int (fun _ _ => rfl)) pa_nil)) pe_int) (pe_op op_mul pe_int (pe_ix (ix_listK (K := K) rfl) (pv 0) pe_int (fun _ _ => rfl)))) pe_int) pe_int) pe_int))
        (pss_cons (ps_set (i := 4) sc_l_draw.nd rfl (Or.inl rfl) (pe_op op_modN (pe_op op_mul (pv 4) (pe_op op_add (pe_op op_fdivN (pv 4) pe_int) pe_int)) pe_int))
        (pss_cons (ps_set (i := 4) sc_l_draw.nd rfl (Or.inl rfl) (pe_op op_modN (pe_op op_mul (pv 4) (pe_op op_add (pe_op op_fdivN (pv 4) pe_int) pe_int)) pe_int))
        (pss_one (ps_ret (pe_op op_modN (pv 4) (pv 1)))))))))), ?_⟩
    obtain ⟨a, b, c, d, e, hl, hp, ha⟩ := hst
    have npl : p ≠ l := by
      intro q
      rw [q, hl] at hp
      injection hp with hp
      injection hp with hp
      cases ns with
      | nil => cases hp
      | cons x r => cases hp
    have nlp := npl.symm
    -- the Mid behind the first if: as at the start
    refine ⟨fun σ' H' => σ' = [some (.ref p), some (.int m), none, none, none] ∧ H' = H, ?_, ?_⟩
    · refine ⟨_, rfl, _, _, _, _, rfl, rfl, SqL.of hp, rfl, _, _, rfl, rfl, _, rfl, ?_⟩
      refine ite2 (fun c1 => ?_) (fun c1 => ?_)
      · refine ⟨_, rfl, _, _, _, _, rfl, rfl, SqL.of hp, rfl, _, _, rfl, rfl, _, rfl, ?_⟩
        refine ite2 (fun c2 => ?_) (fun c2 => ?_)
        · refine ⟨_, rfl, _, _, _, _, rfl, rfl, SqL.of hp, rfl, .inl ⟨_, rfl, _, rfl, _, _, rfl, rfl, by omega, ?_⟩⟩
          refine ⟨_, rfl, _, _, _, _, rfl, rfl, SqL.of hp, rfl, _, rfl, _, _, rfl, rfl, ⟨by omega, by omega⟩, _, rfl, p, _, _, _, rfl, rfl, hp, rfl, ?_⟩
          refine ⟨_, rfl, _, _, _, _, rfl, rfl, SqL.of upd_same, rfl, _, _, rfl, rfl, _, rfl, p, _, _, _, rfl, rfl, upd_same, rfl, ?_⟩
          refine ⟨_, rfl, k _ _ ((Ex.upd _).trans (Ex.upd _)) ⟨_, _, _, _, _, ?_, upd_same, ?_⟩ (fm_nonneg _ hm) (fm_lt _ hm)⟩
          · rw [upd_ne nlp, upd_ne nlp]; exact hl
          · exact ha
        · exact ⟨rfl, rfl⟩
      · exact iteF ⟨rfl, rfl⟩
    · rintro σ' H' ⟨rfl, rfl⟩
      refine ⟨_, rfl, _, _, _, _, rfl, rfl, SqL.of hp, rfl, _, _, rfl, rfl, _, rfl, p, _, _, _, rfl, rfl, hp, rfl, ?_⟩
      refine ⟨fun σ2 H2 => ∃ v a b c d e, σ2 = [some (.ref p), some (.int m), none, v, none] ∧ Ex p H' H2 ∧ H2 l = some (.lst (ns.map V.int)) ∧ H2 p = some (.lst (stv l a b c d e)) ∧ 0 ≤ a, ?_, ?_⟩
      · refine ⟨_, rfl, _, _, _, _, rfl, rfl, SqL.of upd_same, rfl, _, rfl, _, _, _, _, rfl, rfl, SqL.of upd_same, rfl, l, _, rfl, .inl (SqL.of (by rw [upd_ne nlp]; exact hl)), _, _, rfl, rfl, _, rfl, ?_⟩
        refine ite2 (fun c1 => ?_) (fun c1 => ?_)
        · rw [List.length_map] at c1
          obtain ⟨n, hn⟩ := atI_ints (ns := ns) ha (by simpa using c1)
          refine ⟨_, rfl, _, _, _, _, rfl, rfl, SqL.of upd_same, rfl, _, rfl, _, _, _, _, rfl, rfl, SqL.of upd_same, rfl, l, _, _, _, rfl, rfl, SqL.of (by rw [upd_ne nlp]; exact hl), hn, ?_⟩
          refine ⟨_, rfl, _, _, _, _, rfl, rfl, SqL.of upd_same, rfl, _, _, rfl, rfl, _, rfl, p, _, _, _, rfl, rfl, upd_same, rfl, ?_⟩
          refine ⟨_, rfl, _, _, _, _, rfl, rfl, SqL.of upd_same, rfl, _, _, rfl, rfl, .inr (by decide), _, rfl, .inl ⟨_, rfl, _, _, rfl, rfl, _, _, rfl, rfl, ⟨by decide, by decide, by decide⟩, _, _, rfl, rfl, (by decide : (10 : Int) ^ 18 ≠ 0), _, rfl, p, _, _, _, rfl, rfl, upd_same, rfl, ?_⟩⟩
          refine ⟨_, rfl, _, _, rfl, rfl, ⟨by decide, by decide, by decide⟩, _, _, rfl, rfl, _, rfl, ?_⟩
          have el : ∀ {o1 o2 o3 : HO}, upd (upd (upd H' p o1) p o2) p o3 l = some (.lst (ns.map V.int)) := fun {o1 o2 o3} => by rw [upd_ne nlp, upd_ne nlp, upd_ne nlp]; exact hl
          refine ite2 (fun c2 => ?_) (fun c2 => ?_)
          · refine ⟨_, rfl, _, rfl, _, _, rfl, rfl, ⟨by omega, by omega⟩, _, rfl, p, _, _, _, rfl, rfl, upd_same, rfl, ?_⟩
            refine ⟨_, rfl, p, _, _, _, rfl, rfl, upd_same, rfl, ?_⟩
            refine ⟨_, rfl, .inl ⟨_, rfl, _, rfl, _, _, rfl, rfl, by omega, ?_⟩⟩
            refine k _ _ (((((Ex.upd _).trans (Ex.upd _)).trans (Ex.upd _)).trans (Ex.upd _)).trans (Ex.upd _)) ⟨_, _, _, _, _, ?_, upd_same, ?_⟩ (fm_nonneg _ hm) (fm_lt _ hm)
            · rw [upd_ne nlp, upd_ne nlp]; exact el
            · omega
          · exact ⟨_, _, _, _, _, _, rfl, ((Ex.upd _).trans (Ex.upd _)).trans (Ex.upd _), el, upd_same, by omega⟩
        · exact ⟨_, _, _, _, _, _, rfl, Ex.upd _, by rw [upd_ne nlp]; exact hl, upd_same, ha⟩
      · rintro σ2 H2 ⟨v, a, b, c, d, e, rfl, x2, hl2, hp2, ha2⟩
        refine ⟨_, rfl, _, _, _, _, rfl, rfl, SqL.of hp2, rfl, .inl ⟨_, rfl, _, _, rfl, rfl, .inr (by decide), _, rfl, _, _, _, _, rfl, rfl, SqL.of hp2, rfl, _, _, rfl, rfl, .inl (by decide), _, _, rfl, rfl, _, _, rfl, rfl, _, _, rfl, rfl, .inr (by decide), _, _, rfl, rfl, (by decide : (2147483647 : Int) ≠ 0), ?_⟩⟩
        have hx0 := fm_nonneg ((e * 1000003 + 7919 * d + 1) * 48271) (b := 2147483647) (by decide)
        have hx1 := fm_lt ((e * 1000003 + 7919 * d + 1) * 48271) (b := 2147483647) (by decide)
        refine ⟨_, rfl, _, rfl, _, _, rfl, rfl, ⟨by decide, by decide⟩, _, _, rfl, rfl, _, _, rfl, rfl, .inl ⟨Int.lt_of_lt_of_le (by decide) hx0, Int.lt_trans hx1 (by decide)⟩, _, _, rfl, rfl, (by decide : (2147483647 : Int) ≠ 0), ?_⟩
        refine ⟨_, rfl, _, rfl, _, _, rfl, rfl, ⟨by decide, by decide⟩, _, _, rfl, rfl, _, _, rfl, rfl, .inl ⟨Int.lt_of_lt_of_le (by decide) (fm_nonneg _ (by decide)), Int.lt_trans (fm_lt _ (by decide)) (by decide)⟩, _, _, rfl, rfl, (by decide : (2147483399 : Int) ≠ 0), ?_⟩
        refine ⟨_, rfl, _, rfl, _, _, rfl, rfl, by omega, ?_⟩
        exact k _ _ x2 ⟨_, _, _, _, _, hl2, hp2, ha2⟩ (fm_nonneg _ hm) (fm_lt _ hm)
end
end J


set_option Elab.async false
set_option linter.all false
set_option maxRecDepth 100000
set_option maxHeartbeats 4000000
namespace J
open PySem L2

theorem joinL_nil : ∀ ys : List (List Nat), TL.joinL [] ys = ys.flatten
  | [] => rfl
  | [p] => by simp [TL.joinL]
  | p :: q :: r => by
    show p ++ ([] ++ TL.joinL [] (q :: r)) = _
    rw [joinL_nil (q :: r)]
    simp
theorem join_flat (ys : List (List Nat)) : Txt.join (SX.S []) (ys.map SX.S) = SX.S ys.flatten := by rw [SX.join_S, joinL_nil]
theorem emptyS : Str.ofString "" = SX.S [] := rfl
theorem sum_ones (us : List Nat) : ((us.map fun c => SX.S [c]).map (·.length)).sum = us.length := by
  induction us with
  | nil => rfl
  | cons a r ih => simp only [List.map_cons, List.sum_cons, ih, SX.S_len, List.length_cons, List.length_nil]; omega
theorem atI_mem {α : Type} {xs : List α} {i : Int} (h0 : 0 ≤ i) (h1 : i < xs.length) : ∃ v, v ∈ xs ∧ atI xs i = some v := by
  obtain ⟨j, rfl⟩ := Int.eq_ofNat_of_zero_le h0
  have hj : j < xs.length := by exact_mod_cast h1
  exact ⟨xs[j], List.getElem_mem hj, atI_nat (List.getElem?_eq_getElem hj)⟩
/-- signs that a loom may have -/
def Signs (sg : List Nat) : Prop := sg ∈ ([[97], [97, 98], [97, 98, 99], [120, 122], [98, 100, 107, 122], [113, 119]] : List (List Nat))
theorem Signs.len {sg : List Nat} (h : Signs sg) : 1 ≤ sg.length ∧ sg.length ≤ 4 := by
  revert sg; unfold Signs; decide
/-- a word over the signs -/
def Word (sg u : List Nat) : Prop := 1 ≤ u.length ∧ u.length ≤ 12 ∧ ∀ c ∈ u, c ∈ sg
def spWord (ns : List Int) : Sp := fun vs H Q _ => ∃ (p l : Addr) (sg : List Nat) (m : Int), vs = [.ref p, .str (SX.S sg), .int m] ∧ StAt ns l H p ∧ Signs sg ∧ 0 < m ∧ m ≤ 12 ∧
  ∀ H' u, Ex p H H' → StAt ns l H' p → Word sg u → Q (.str (SX.S u)) H'
theorem sizeLine16 : (16777216 : Nat) ≤ sizeLine := by decide
theorem le_size {n : Nat} (h : n ≤ 100000) : n ≤ sizeLine := Nat.le_trans h (by decide)
theorem lt_size {n : Nat} (h : n ≤ 100000) : n < sizeLine := Nat.lt_of_le_of_lt h (by decide)
section
variable {P : Program} {w : World} {K : PySem.W.Frag} {mg : Str → Option Value} {base : Heap}

theorem ok_l_word (T : Tx K mg) (ns : List Int) : FnOk P w K mg base CX0 2 T.f_l_word T.fd_l_word P_l_word (spWord ns) := by
  have G_l_draw : FnOk P w K mg base CX0 1 T.f_l_draw T.fd_l_draw P_l_draw (spDraw ns) := ok_l_draw T ns
  refine T.F_l_word.ok sc_l_word (fun vs H Q E h => ?_) (fun cdv A outer s H vs Q E hr h => ?_)
  · obtain ⟨p, l, sg, m, rfl, _⟩ := h
    rfl
  · obtain ⟨p, l, sg, m, rfl, hst, hsg, hm, hm2, k⟩ := h
    refine ⟨_, (pss_cons (ps_set (i := 3) sc_l_word.nd rfl (Or.inl rfl) (pe_op op_add pe_int (pe_call G_l_draw (hr.mono (by decide)) rfl T.m_l_draw T.F_l_draw.kp T.b_l_draw .nil pass0 (pa_cons (pv 0) (pa_cons (pv 2) pa_nil)))))
        (pss_one (ps_ret (pe_join pe_str (pe_lc (own := [("_law_k", 4)]) (g := (gName 4)) rfl sc_l_word.nd (pi_range1 rfl T.n_range (pa_cons (pv 3) pa_nil)) (blkOk_by (N := N_l_word) (sc := defScope s_l_word) (by decide +kernel)) (fun _ _ _ _ _ => (pg_name (i := 4) sc_l_word.nd rfl (Or.inl rfl))) (fun _ _ _ _ _ => pts_nil) (fun _ _ _ _ _ => (pe_ix ix_str (pv 1) (pe_call G_l_draw (hr.mono (by decide)) rfl T.m_l_draw T.F_l_draw.kp T.b_l_draw .nil pass0 (pa_cons (pv 0) (pa_cons (pe_callB call_len_str rfl T.n_len (by decide +kernel) (pa_cons (pv 1) pa_nil)) pa_nil))) (fun _ _ => rfl)))))))), ?_⟩
    have hlen := hsg.len
    refine ⟨_, rfl, _, rfl, p, l, m, rfl, hst, hm, by omega, fun H1 r x1 st1 r0 r1 => ⟨_, _, rfl, rfl, ?_⟩⟩
    refine ⟨⟨_, rfl⟩, _, rfl, _, rfl, by omega, by omega, fun D hD => lc_range (lo := 0) (n := (1 + r).toNat) (fun i H' => ∃ us : List Nat, us.length = i ∧ (∀ c ∈ us, c ∈ sg) ∧ H' D = some (.lst ((us.map fun c => SX.S [c]).map V.str)) ∧ Ex p H H' ∧ StAt ns l H' p) ?_ ?_ ?_⟩
    · exact ⟨[], rfl, fun _ h => (nomatch h), upd_same, x1.trans (Ex.new _ hD), st1.same (Same.new _ hD)⟩
    · rintro i H2 hi ⟨us, rfl, hu, hDs, x2, st2⟩
      refine ⟨rfl, ?_⟩
      refine ⟨_, rfl, _, rfl, _, rfl, _, rfl, le_size (by rw [SX.S_len]; omega), p, l, _, rfl, st2, by rw [SX.S_len]; omega, by rw [SX.S_len]; omega, fun H3 r3 x3 st3 r30 r31 => ?_⟩
      rw [SX.S_len] at r31
      obtain ⟨c, hc, hat⟩ := atI_mem (xs := sg) r30 r31
      have nD := st1.ne hD
      refine ⟨_, _, c, rfl, rfl, le_size (by rw [SX.S_len]; omega), hat, _, x3 _ _ nD.1 hDs, lt_size (by simp; omega), us ++ [c], by simp, ?_, ?_, (x2.trans x3).updNew (x1.free hD nD.1), st3.upd nD⟩
      · intro d hd
        rcases List.mem_append.mp hd with h | h
        · exact hu d h
        · rw [List.mem_singleton.mp h]; exact hc
      · rw [upd_same]; simp
    · rintro H2 ⟨us, hl, hu, hDs, x2, st2⟩
      have hf : ∀ l : List Nat, (l.map fun c => [c]).flatten = l := fun l => by induction l with
        | nil => rfl
        | cons a l ih => simpa using ih
      refine ⟨_, _, us.map fun c => SX.S [c], rfl, rfl, .inl (SqL.of hDs), ?_, ?_⟩
      · rw [sum_ones, emptyS, SX.S_len]
        simp
        omega
      · have e : us.map (fun c => SX.S [c]) = (us.map fun c => [c]).map SX.S := by rw [List.map_map]; rfl
        rw [e, emptyS, join_flat, hf]
        exact k _ us x2 st2 ⟨by omega, by omega, hu⟩
end
end J


set_option Elab.async false
set_option linter.all false
set_option maxRecDepth 100000
set_option maxHeartbeats 4000000
namespace J
open PySem L2

/-- an arc: its state, its word, where it leads -/
abbrev Arc := Nat × List Nat × Nat
def arcHO (a : Arc) : HO := .tup [.int (a.1 : Int), .str (SX.S a.2.1), .int (a.2.2 : Int)]
def Arcs (H : Hp) (vs : List V) (as : List Arc) : Prop := vs.length = as.length ∧ ∀ (i : Nat) (a : Arc), as[i]? = some a → ∃ t, vs[i]? = some (V.ref t) ∧ H t = some (arcHO a)
theorem Arcs.same {H H' : Hp} {vs : List V} {as : List Arc} (h : Arcs H vs as) (s : Same H H') : Arcs H' vs as :=
  ⟨h.1, fun i a e => by obtain ⟨t, h1, h2⟩ := h.2 i a e; exact ⟨t, h1, s _ _ h2⟩⟩
theorem Arcs.ex {H H' : Hp} {p : Addr} {xs : List V} {vs : List V} {as : List Arc} (h : Arcs H vs as) (x : Ex p H H') (hp : H p = some (.lst xs)) : Arcs H' vs as :=
  ⟨h.1, fun i a e => by
    obtain ⟨t, h1, h2⟩ := h.2 i a e
    exact ⟨t, h1, x _ _ (fun z => by rw [z, hp] at h2; cases h2) h2⟩⟩
theorem Arcs.snoc {H : Hp} {vs : List V} {as : List Arc} {t : Addr} {a : Arc} (h : Arcs H vs as) (ht : H t = some (arcHO a)) : Arcs H (vs ++ [V.ref t]) (as ++ [a]) := by
  refine ⟨by simp [h.1], fun i b e => ?_⟩
  by_cases hi : i < as.length
  · rw [List.getElem?_append_left hi] at e
    rw [List.getElem?_append_left (by rw [h.1]; exact hi)]
    exact h.2 i b e
  · rw [List.getElem?_append_right (by omega)] at e
    have e0 : i - as.length = 0 := by
      have q := (List.getElem?_eq_some_iff.mp e).1
      simp at q
      omega
    rw [e0] at e
    cases e
    refine ⟨t, ?_, ht⟩
    rw [List.getElem?_append_right (by rw [h.1]; omega), h.1, e0]
    rfl
theorem Arcs.updL {H : Hp} {vs xs : List V} {as : List Arc} {p : Addr} {o : HO} (h : Arcs H vs as) (hp : H p = some (.lst xs)) : Arcs (upd H p o) vs as := h.ex (Ex.upd o) hp
theorem Arcs.st {ns : List Int} {l p : Addr} {H H' : Hp} {vs : List V} {as : List Arc} (h : Arcs H vs as) (st : StAt ns l H p) (x : Ex p H H') : Arcs H' vs as := by
  obtain ⟨a, b, c, d, e, h1, h2, h3⟩ := st
  exact h.ex x h2
theorem Arcs.nil (H : Hp) : Arcs H [] [] := ⟨rfl, fun i a e => by simp at e⟩
theorem ex_upd_lst {p : Addr} {H : Hp} {o : HO} : Ex p H (upd H p o) := Ex.upd o
def OkArc (sg : List Nat) (a : Arc) : Prop := a.1 ≤ 63 ∧ Word sg a.2.1 ∧ a.2.2 ≤ 63
def OkArcs (sg : List Nat) (as : List Arc) : Prop := 1 ≤ as.length ∧ as.length ≤ 13 ∧ (∀ a ∈ as, OkArc sg a) ∧ (∃ a : Arc, as[0]? = some a ∧ a.1 = 0) ∧ ∀ a ∈ as, a.1 ≠ 62
/-- what a place's menu hands out: a list of states -/
def Pl (p l : Addr) (H : Hp) (v : V) : Prop := ∃ a, ∃ xs : List Nat, v = .ref a ∧ a ≠ p ∧ a ≠ l ∧ H a = some (.lst (xs.map fun n : Nat => V.int (n : Int))) ∧ 1 ≤ xs.length ∧ xs.length ≤ 4 ∧ ∀ x ∈ xs, x ≤ 63 ∧ x ≠ 62
theorem Pl.same {p l : Addr} {H H' : Hp} {v : V} (h : Pl p l H v) (s : Same H H') : Pl p l H' v := by
  obtain ⟨a, xs, h1, h2, h3, h4, h5⟩ := h
  exact ⟨a, xs, h1, h2, h3, s _ _ h4, h5⟩
theorem Pl.ex {p l : Addr} {H H' : Hp} {v : V} (h : Pl p l H v) (s : Ex p H H') : Pl p l H' v := by
  obtain ⟨a, xs, h1, h2, h3, h4, h5⟩ := h
  exact ⟨a, xs, h1, h2, h3, s _ _ h2 h4, h5⟩
theorem Pl.new {p l a : Addr} {H : Hp} (xs : List Nat) (n : a ≠ p ∧ a ≠ l) (h : 1 ≤ xs.length ∧ xs.length ≤ 4) (hx : ∀ x ∈ xs, x ≤ 63 ∧ x ≠ 62) {vs : List V} (e : vs = xs.map fun n : Nat => V.int (n : Int)) : Pl p l (upd H a (.lst vs)) (.ref a) :=
  ⟨a, xs, rfl, n.1, n.2, by rw [upd_same, e], h.1, h.2, hx⟩
theorem signs_menu {v : V} (h : v ∈ ([.str "a", .str "ab", .str "ab", .str "ab", .str "abc", .str "xz", .str "bdkz", .str "qw"] : List V)) : ∃ sg, v = .str (SX.S sg) ∧ Signs sg ∧ 121 ∉ sg := by
  simp only [List.mem_cons, List.not_mem_nil, or_false] at h
  rcases h with rfl | rfl | rfl | rfl | rfl | rfl | rfl | rfl
  · exact ⟨[97], rfl, by unfold Signs; decide, by decide⟩
  · exact ⟨[97, 98], rfl, by unfold Signs; decide, by decide⟩
  · exact ⟨[97, 98], rfl, by unfold Signs; decide, by decide⟩
  · exact ⟨[97, 98], rfl, by unfold Signs; decide, by decide⟩
  · exact ⟨[97, 98, 99], rfl, by unfold Signs; decide, by decide⟩
  · exact ⟨[120, 122], rfl, by unfold Signs; decide, by decide⟩
  · exact ⟨[98, 100, 107, 122], rfl, by unfold Signs; decide, by decide⟩
  · exact ⟨[113, 119], rfl, by unfold Signs; decide, by decide⟩
theorem most_menu {v : V} (h : v ∈ ([.int 1, .int 2, .int 2, .int 3, .int 3, .int 4] : List V)) : ∃ m : Int, v = .int m ∧ 0 < m ∧ m ≤ 12 := by
  simp only [List.mem_cons, List.not_mem_nil, or_false] at h
  rcases h with rfl | rfl | rfl | rfl | rfl | rfl <;> exact ⟨_, rfl, by decide, by decide⟩
def spLoom (ns : List Int) : Sp := fun vs H Q _ => ∃ (p l : Addr), vs = [.ref p] ∧ StAt ns l H p ∧
  ∀ (H' : Hp) (q r : Addr) (sg : List Nat) (us : List V) (as : List Arc), Ex p H H' → StAt ns l H' p → H q = none → H r = none → H' q = some (.tup [.str (SX.S sg), .ref r]) → H' r = some (.lst us) → Arcs H' us as → OkArcs sg as → Signs sg → 121 ∉ sg → Q (.ref q) H'
section
variable {P : Program} {w : World} {K : PySem.W.Frag} {mg : Str → Option Value} {base : Heap}

theorem ok_l_loom (T : Tx K mg) (ns : List Int) : FnOk P w K mg base CX0 3 T.f_l_loom T.fd_l_loom P_l_loom (spLoom ns) := by
  have G_l_draw : FnOk P w K mg base CX0 1 T.f_l_draw T.fd_l_draw P_l_draw (spDraw ns) := ok_l_draw T ns
  have G_l_word : FnOk P w K mg base CX0 2 T.f_l_word T.fd_l_word P_l_word (spWord ns) := ok_l_word T ns
  refine T.F_l_loom.ok sc_l_loom (fun vs H Q E h => ?_) (fun cdv A outer s H vs Q E hr h => ?_)
  · obtain ⟨p, l, rfl, _⟩ := h
    rfl
  · obtain ⟨p, l, rfl, hst, k⟩ := h
    refine ⟨_, (pss_cons (ps_set (i := 1) sc_l_loom.nd rfl (Or.inl rfl) (pe_ix (ix_listK (K := K) rfl) (pe_lst (pa_cons pe_str (pa_cons pe_str (pa_cons pe_str (pa_cons pe_str (pa_cons pe_str (pa_cons pe_str (pa_cons pe_str (pa_cons pe_str pa_nil))))))))) (pe_call G_l_draw (hr.mono (by decide)) rfl T.m_l_draw T.F_l_draw.kp T.b_l_draw .nil pass0 (pa_cons (pv 0) (pa_cons pe_int pa_nil))) (fun _ _ => rfl)))
        (pss_cons (ps_set (i := 2) sc_l_loom.nd rfl (Or.inl rfl) (pe_ix (ix_listK (K := K) rfl) (pe_lst (pa_cons (pe_lst (pa_cons pe_int pa_nil)) (pa_cons (pe_lst (pa_cons pe_int pa_nil)) (pa_cons (pe_lst (pa_cons pe_int (pa_cons pe_int pa_nil))) (pa_cons (pe_lst (pa_cons pe_int (pa_cons pe_int pa_nil))) (pa_cons (pe_lst (pa_cons pe_int (pa_cons pe_int (pa_cons pe_int pa_nil)))) (pa_cons (pe_lst (pa_cons pe_int (pa_cons pe_int pa_nil))) (pa_cons (pe_lst (pa_cons pe_int (pa_cons pe_int (pa_cons pe_int pa_nil)))) (pa_cons (pe_lst (pa_cons pe_int (pa_cons pe_int (pa_cons pe_int (pa_cons pe_int pa_nil))))) pa_nil))))))))) (pe_call G_l_draw (hr.mono (by decide)) rfl T.m_l_draw T.F_l_draw.kp T.b_l_draw .nil pass0 (pa_cons (pv 0) (pa_cons pe_int pa_nil))) (fun _ _ => rfl)))
        (pss_cons (ps_set (i := 3) sc_l_loom.nd rfl (Or.inl rfl) (pe_op op_add pe_int (pe_call G_l_draw (hr.mono (by decide)) rfl T.m_l_draw T.F_l_draw.kp T.b_l_draw .nil pass0 (pa_cons (pv 0) (pa_cons pe_int pa_nil)))))
        (C8.pss_cut (ps_if (pt_cmpR op_eq (pe_call G_l_draw (hr.mono (by decide)) rfl T.m_l_draw T.F_l_draw.kp T.b_l_draw .nil pass0 (pa_cons (pv 0) (pa_cons pe_int pa_nil))) pe_int (nomark _)) (pss_one (ps_set (i := 3) sc_l_loom.nd rfl (Or.inl rfl) (pe_op op_add pe_int (pe_call G_l_draw (hr.mono (by decide)) rfl T.m_l_draw T.F_l_draw.kp T.b_l_draw .nil pass0 (pa_cons (pv 0) (pa_cons pe_int pa_nil)))))) pss_nil)
        (pss_cons (ps_set (i := 4) sc_l_loom.nd rfl (Or.inl rfl) (pe_ix (ix_listK (K := K) rfl) (pe_lst (pa_cons pe_int (pa_cons pe_int (pa_cons pe_int (pa_cons pe_int (pa_cons pe_int (pa_cons pe_int pa_nil))))))) (pe_call G_l_draw (hr.mono (by decide)) rfl T.m_l_draw T.F_l_draw.kp T.b_l_draw .nil pass0 (pa_cons (pv 0) (pa_cons pe_int pa_nil))) (fun _ _ => rfl)))
        (C8.pss_cut (ps_if (pt_cmpR op_eq (pe_call G_l_draw (hr.mono (by decide)) rfl T.m_l_draw T.F_l_draw.kp T.b_l_draw .nil pass0 (pa_cons (pv 0) (pa_cons pe_int pa_nil))) pe_int (nomark _)) (pss_one (ps_set (i := 4) sc_l_loom.nd rfl (Or.inl rfl) pe_int)) pss_nil)
        (pss_cons (ps_set (i := 5) sc_l_loom.nd rfl (Or.inl rfl) (pe_lst pa_nil))
        (pss_cons (ps_for PassesOwn.never rfl (pi_range1 rfl T.n_range (pa_cons (pv 3) pa_nil)) (pg_name (i := 6) sc_l_loom.nd rfl (Or.inl rfl)) (pss_cons (ps_set (i := 7) sc_l_loom.nd rfl (Or.inl rfl) (pe_ix (ix_listK (K := K) rfl) (pv 2) (pe_call G_l_draw (hr.mono (by decide)) rfl T.m_l_draw T.F_l_draw.kp T.b_l_draw .nil pass0 (pa_cons (pv 0) (pa_cons (pe_callB (call_len_seqK (K := K) rfl) rfl T.n_len (by decide +kernel) (pa_cons (pv 2) pa_nil)) pa_nil))) (fun _ _ => rfl)))
        (C8.pss_cut (ps_if (pt_cmpR op_eq (pv 6) pe_int (nomark _)) (pss_one (ps_set (i := 7) sc_l_loom.nd rfl (Or.inl rfl) pe_int)) pss_nil)
        (pss_one (ps_expr (pe_bm PySem.F.plainAttrs_list PySem.F.slot_list_append PySem.F.type_list_append mt_append (pv 5) (pa_cons (pe_tup (pa_cons (pv 7) (pa_cons (pe_call G_l_word (hr.mono (by decide)) rfl T.m_l_word T.F_l_word.kp T.b_l_word .nil pass0 (pa_cons (pv 0) (pa_cons (pv 1) (pa_cons (pv 4) pa_nil)))) (pa_cons (pe_ix (ix_listK (K := K) rfl) (pv 2) (pe_call G_l_draw (hr.mono (by decide)) rfl T.m_l_draw T.F_l_draw.kp T.b_l_draw .nil pass0 (pa_cons (pv 0) (pa_cons (pe_callB (call_len_seqK (K := K) rfl) rfl T.n_len (by decide +kernel) (pa_cons (pv 2) pa_nil)) pa_nil))) (fun _ _ => rfl)) pa_nil)))) pa_nil)))))))
        (C8.pss_cut (ps_if (pt_cmpR op_eq (pe_call G_l_draw (hr.mono (by decide)) rfl T.m_l_draw T.F_l_draw.kp T.b_l_draw .nil pass0 (pa_cons (pv 0) (pa_cons pe_int pa_nil))) pe_int (nomark _)) (pss_one (ps_expr (pe_bm PySem.F.plainAttrs_list PySem.F.slot_list_append PySem.F.type_list_append mt_append (pv 5) (pa_cons (pe_ix (ix_listK (K := K) rfl) (pv 5) (pe_call G_l_draw (hr.mono (by decide)) rfl T.m_l_draw T.F_l_draw.kp T.b_l_draw .nil pass0 (pa_cons (pv 0) (pa_cons (pe_callB (call_len_seqK (K := K) rfl) rfl T.n_len (by decide +kernel) (pa_cons (pv 5) pa_nil)) pa_nil))) (fun _ _ => rfl)) pa_nil)))) pss_nil)
        (pss_one (ps_ret (pe_tup (pa_cons (pv 1) (pa_cons (pv 5) pa_nil)))))))))))))), ?_⟩
    -- the signs
    refine ⟨le_size (by decide), fun D hD => ?_⟩
    have stD := hst.same (Same.new (.lst [.str "a", .str "ab", .str "ab", .str "ab", .str "abc", .str "xz", .str "bdkz", .str "qw"]) hD)
    have nD := hst.ne hD
    refine ⟨_, rfl, p, l, 8, rfl, stD, by decide, by decide, fun H1 r x1 st1 r0 r1 => ?_⟩
    obtain ⟨v, hv, hat⟩ := atI_mem (xs := ([.str "a", .str "ab", .str "ab", .str "ab", .str "abc", .str "xz", .str "bdkz", .str "qw"] : List V)) r0 (by simpa using r1)
    refine ⟨_, _, _, v, rfl, rfl, SqL.of (x1 _ _ nD.1 upd_same), hat, ?_⟩
    obtain ⟨sg, rfl, hsg, hny⟩ := signs_menu hv
    have X1 : Ex p H H1 := (Ex.new _ hD).trans x1
    -- the places
    refine ⟨le_size (by decide), fun l1 h1 => ⟨le_size (by decide), fun l2 h2 => ⟨le_size (by decide), fun l3 h3 => ⟨le_size (by decide), fun l4 h4 => ⟨le_size (by decide), fun l5 h5 => ⟨le_size (by decide), fun l6 h6 => ⟨le_size (by decide), fun l7 h7 => ⟨le_size (by decide), fun l8 h8 => ⟨le_size (show 8 ≤ 100000 by decide), fun l9 h9 => ?_⟩⟩⟩⟩⟩⟩⟩⟩⟩
    have s1 := Same.new (.lst [V.int 0]) h1
    have s2 := Same.new (.lst [V.int 0]) h2
    have s3 := Same.new (.lst [V.int 0, V.int 1]) h3
    have s4 := Same.new (.lst [V.int 0, V.int 1]) h4
    have s5 := Same.new (.lst [V.int 0, V.int 1, V.int 2]) h5
    have s6 := Same.new (.lst [V.int 0, V.int 63]) h6
    have s7 := Same.new (.lst [V.int 0, V.int 7, V.int 12]) h7
    have s8 := Same.new (.lst [V.int 0, V.int 2, V.int 3, V.int 1]) h8
    have s9 := Same.new (.lst [V.ref l1, V.ref l2, V.ref l3, V.ref l4, V.ref l5, V.ref l6, V.ref l7, V.ref l8]) h9
    have t1 := st1.same s1
    have t2 := t1.same s2
    have t3 := t2.same s3
    have t4 := t3.same s4
    have t5 := t4.same s5
    have t6 := t5.same s6
    have t7 := t6.same s7
    have t8 := t7.same s8
    have t9 := t8.same s9
    have hPl : ∀ v ∈ ([V.ref l1, V.ref l2, V.ref l3, V.ref l4, V.ref l5, V.ref l6, V.ref l7, V.ref l8] : List V), Pl p l _ v := fun v hv => by
      simp only [List.mem_cons, List.not_mem_nil, or_false] at hv
      rcases hv with rfl | rfl | rfl | rfl | rfl | rfl | rfl | rfl
      · exact (Pl.new [0] (st1.ne h1) (by decide) (by decide) rfl).same (s2.trans (s3.trans (s4.trans (s5.trans (s6.trans (s7.trans (s8.trans s9)))))))
      · exact (Pl.new [0] (t1.ne h2) (by decide) (by decide) rfl).same (s3.trans (s4.trans (s5.trans (s6.trans (s7.trans (s8.trans s9))))))
      · exact (Pl.new [0, 1] (t2.ne h3) (by decide) (by decide) rfl).same (s4.trans (s5.trans (s6.trans (s7.trans (s8.trans s9)))))
      · exact (Pl.new [0, 1] (t3.ne h4) (by decide) (by decide) rfl).same (s5.trans (s6.trans (s7.trans (s8.trans s9))))
      · exact (Pl.new [0, 1, 2] (t4.ne h5) (by decide) (by decide) rfl).same (s6.trans (s7.trans (s8.trans s9)))
      · exact (Pl.new [0, 63] (t5.ne h6) (by decide) (by decide) rfl).same (s7.trans (s8.trans s9))
      · exact (Pl.new [0, 7, 12] (t6.ne h7) (by decide) (by decide) rfl).same (s8.trans s9)
      · exact (Pl.new [0, 2, 3, 1] (t7.ne h8) (by decide) (by decide) rfl).same s9
    have n9 := t8.ne h9
    refine ⟨_, rfl, p, l, 8, rfl, t9, by decide, by decide, fun H2 r2 x2 st2 r20 r21 => ?_⟩
    obtain ⟨v, hv, hat⟩ := atI_mem (xs := ([V.ref l1, V.ref l2, V.ref l3, V.ref l4, V.ref l5, V.ref l6, V.ref l7, V.ref l8] : List V)) r20 (by simpa using r21)
    refine ⟨_, _, _, v, rfl, rfl, SqL.of (x2 _ _ n9.1 upd_same), hat, ?_⟩
    have pl2 := (hPl v hv).ex x2
    have X2 : Ex p H H2 := X1.trans ((Same.ex (s1.trans (s2.trans (s3.trans (s4.trans (s5.trans (s6.trans (s7.trans (s8.trans s9))))))))).trans x2)
    clear hPl t1 t2 t3 t4 t5 t6 t7 t8 t9 s1 s2 s3 s4 s5 s6 s7 s8 s9
    -- how many
    refine ⟨_, rfl, p, l, 6, rfl, st2, by decide, by decide, fun H3 r3 x3 st3 r30 r31 => ⟨_, _, rfl, rfl, ?_⟩⟩
    refine ⟨fun σ' H' => ∃ m : Int, σ' = [some (.ref p), some (.str (SX.S sg)), some v, some (.int m), none, none, none, none] ∧ 1 ≤ m ∧ m ≤ 12 ∧ Ex p H H' ∧ StAt ns l H' p ∧ Pl p l H' v, ?_, ?_⟩
    · refine ⟨_, rfl, p, l, 12, rfl, st3, by decide, by decide, fun H4 r4 x4 st4 r40 r41 => ⟨rfl, _, rfl, ?_⟩⟩
      refine ite2 (fun c => ?_) (fun c => ?_)
      · refine ⟨_, rfl, p, l, 5, rfl, st4, by decide, by decide, fun H5 r5 x5 st5 r50 r51 => ⟨_, _, rfl, rfl, ?_⟩⟩
        exact ⟨8 + r5, rfl, by omega, by omega, X2.trans (x3.trans (x4.trans x5)), st5, ((pl2.ex x3).ex x4).ex x5⟩
      · exact ⟨1 + r3, rfl, by omega, by omega, X2.trans (x3.trans x4), st4, (pl2.ex x3).ex x4⟩
    · rintro σ3 H3' ⟨many, rfl, m1, m2, X3, st3', pl3⟩
      -- the greatest length
      refine ⟨le_size (by decide), fun D3 hD3 => ?_⟩
      have nD3 := st3'.ne hD3
      have sD3 := Same.new (.lst [V.int 1, V.int 2, V.int 2, V.int 3, V.int 3, V.int 4]) hD3
      refine ⟨_, rfl, p, l, 6, rfl, st3'.same sD3, by decide, by decide, fun H4 r4 x4 st4 r40 r41 => ?_⟩
      obtain ⟨vm, hvm, hat4⟩ := atI_mem (xs := ([V.int 1, V.int 2, V.int 2, V.int 3, V.int 3, V.int 4] : List V)) r40 (by simpa using r41)
      refine ⟨_, _, _, vm, rfl, rfl, SqL.of (x4 _ _ nD3.1 upd_same), hat4, ?_⟩
      obtain ⟨mo, rfl, mo1, mo2⟩ := most_menu hvm
      have X4 : Ex p H H4 := X3.trans ((Same.ex sD3).trans x4)
      have pl4 := (pl3.same sD3).ex x4
      refine ⟨fun σ' H' => ∃ mo : Int, σ' = [some (.ref p), some (.str (SX.S sg)), some v, some (.int many), some (.int mo), none, none, none] ∧ 0 < mo ∧ mo ≤ 12 ∧ Ex p H H' ∧ StAt ns l H' p ∧ Pl p l H' v, ?_, ?_⟩
      · refine ⟨_, rfl, p, l, 16, rfl, st4, by decide, by decide, fun H5 r5 x5 st5 r50 r51 => ⟨rfl, _, rfl, ?_⟩⟩
        refine ite2 (fun c => ?_) (fun c => ?_)
        · exact ⟨12, rfl, by decide, by decide, X4.trans x5, st5, pl4.ex x5⟩
        · exact ⟨mo, rfl, mo1, mo2, X4.trans x5, st5, pl4.ex x5⟩
      · rintro σ5 H5 ⟨mo, rfl, mo1, mo2, X5, st5, pl5⟩
        -- the arcs
        refine ⟨Nat.zero_le _, fun Ar hA => ?_⟩
        have nA := st5.ne hA
        have hA0 := X5.free hA nA.1
        have sA := Same.new (.lst []) hA
        refine ⟨_, rfl, _, rfl, by omega, by omega, for_range (lo := 0) (n := many.toNat) (fun i σ H' => ∃ (us : List V) (as : List Arc) (v6 v7 : Option V), σ = [some (.ref p), some (.str (SX.S sg)), some v, some (.int many), some (.int mo), some (.ref Ar), v6, v7] ∧
          as.length = i ∧ (∀ a ∈ as, OkArc sg a ∧ a.1 ≠ 62) ∧ (0 < i → ∃ a : Arc, as[0]? = some a ∧ a.1 = 0) ∧ H' Ar = some (.lst us) ∧ Arcs H' us as ∧ Ex p H H' ∧ StAt ns l H' p ∧ Pl p l H' v) ?_ ?_ ?_⟩
        · exact ⟨[], [], none, none, rfl, rfl, fun _ h => (nomatch h), fun h => absurd h (Nat.lt_irrefl _), upd_same, Arcs.nil _, X5.updNew hA0, st5.upd nA, pl5.same sA⟩
        · rintro i σ H6 hi ⟨us, as, v6, v7, rfl, rfl, hok, hz, hAr, harc, X6, st6, pl6⟩
          obtain ⟨pa, xs, rfl, np, nl, hpa, xl1, xl2, xb⟩ := pl6
          have nApa : Ar ≠ pa := by
            obtain ⟨a', xs', e', _, _, h', _⟩ := pl5
            cases e'
            exact hp_ne h' hA
          -- the start
          refine ⟨_, rfl, _, rfl, _, rfl, pa, _, rfl, .inl (SqL.of hpa), p, l, _, rfl, st6, by rw [List.length_map]; omega, by rw [List.length_map]; omega, fun H7 r7 x7 st7 r70 r71 => ?_⟩
          obtain ⟨vs7, hvs7, hat7⟩ := atI_mem r70 r71
          obtain ⟨s7, hs7, rfl⟩ := List.mem_map.mp hvs7
          refine ⟨_, _, _, _, rfl, rfl, SqL.of (x7 _ _ np hpa), hat7, ?_⟩
          refine ⟨fun σ' H' => ∃ s8 : Nat, σ' = [some (.ref p), some (.str (SX.S sg)), some (.ref pa), some (.int many), some (.int mo), some (.ref Ar), some (.int (0 + (as.length : Int))), some (.int (s8 : Int))] ∧ (s8 ≤ 63 ∧ s8 ≠ 62) ∧ (as.length = 0 → s8 = 0) ∧ H' = H7, ?_, ?_⟩
          · refine ⟨_, rfl, rfl, _, rfl, ?_⟩
            refine ite2 (fun c => ?_) (fun c => ?_)
            · exact ⟨0, rfl, by omega, fun _ => rfl, rfl⟩
            · refine ⟨s7, rfl, xb _ hs7, fun z => absurd ?_ c, rfl⟩
              rw [z]
              decide
          · rintro σ8 H8 ⟨s8, rfl, hs8, hz8, rfl⟩
            have hln : as.length ≤ 100000 := by clear hz; omega
            have hA7 := x7 _ _ nA.1 hAr
            have arc7 := harc.st st6 x7
            refine ⟨_, rfl, .inl ⟨rfl, _, SqL.of hA7⟩, _, rfl, _, rfl, _, rfl, _, rfl, p, l, sg, mo, rfl, st7, hsg, mo1, mo2, fun H9 u9 x9 st9 hw9 => ?_⟩
            have hpa9 := x9 _ _ np (x7 _ _ np hpa)
            refine ⟨_, rfl, _, rfl, _, rfl, pa, _, rfl, .inl (SqL.of hpa9), p, l, _, rfl, st9, by rw [List.length_map]; omega, by rw [List.length_map]; omega, fun H10 r10 x10 st10 r100 r101 => ?_⟩
            obtain ⟨vs10, hvs10, hat10⟩ := atI_mem r100 r101
            obtain ⟨s10, hs10, rfl⟩ := List.mem_map.mp hvs10
            refine ⟨_, _, _, _, rfl, rfl, SqL.of (x10 _ _ np hpa9), hat10, le_size (show 3 ≤ 100000 by decide), fun t ht => ?_⟩
            have nt := st10.ne ht
            have hA10 := x10 _ _ nA.1 (x9 _ _ nA.1 hA7)
            have nAt : t ≠ Ar := hp_ne hA10 ht
            have st := Same.new (arcHO (s8, u9, s10)) ht
            have X11 : Ex p H (upd H10 t (arcHO (s8, u9, s10))) := X6.trans (x7.trans (x9.trans (x10.trans (Same.ex st))))
            refine ⟨Ar, us, _, rfl, rfl, st _ _ hA10, lt_size (by rw [harc.1]; exact hln), ?_⟩
            have arc10 := ((arc7.st st7 x9).st st9 x10).same st
            have nn := (arc10.snoc (t := t) (a := (s8, u9, s10)) upd_same)
            refine ⟨us ++ [.ref t], as ++ [(s8, u9, s10)], _, _, rfl, by simp, ?_, fun _ => ?_, upd_same, ?_, X11.updNew hA0, (st10.same st).upd nA, ?_⟩
            · intro a ha
              rcases List.mem_append.mp ha with h | h
              · exact hok a h
              · rw [List.mem_singleton.mp h]
                exact ⟨⟨hs8.1, hw9, (xb _ hs10).1⟩, hs8.2⟩
            · by_cases h0 : as.length = 0
              · have e : as = [] := List.eq_nil_of_length_eq_zero h0
                subst e
                exact ⟨_, rfl, hz8 rfl⟩
              · obtain ⟨a, ha, ha0⟩ := hz (by omega)
                exact ⟨a, by rw [List.getElem?_append_left (by omega)]; exact ha, ha0⟩
            · exact nn.updL (st _ _ hA10)
            · exact ⟨pa, xs, rfl, np, nl, by rw [upd_ne nApa.symm]; exact st _ _ (x10 _ _ np hpa9), xl1, xl2, xb⟩
        · rintro σ H6 ⟨us, as, v6, v7, rfl, hl, hok, hz, hAr, harc, X6, st6, pl6⟩
          have hl1 : 1 ≤ as.length ∧ as.length ≤ 12 := by clear hz; omega
          obtain ⟨a0, ha0, hz0⟩ := hz (by omega)
          refine ⟨fun σ' H' => ∃ (us : List V) (as : List Arc), σ' = [some (.ref p), some (.str (SX.S sg)), some v, some (.int many), some (.int mo), some (.ref Ar), v6, v7] ∧ OkArcs sg as ∧ H' Ar = some (.lst us) ∧ Arcs H' us as ∧ Ex p H H' ∧ StAt ns l H' p, ?_, ?_⟩
          · refine ⟨_, rfl, p, l, 4, rfl, st6, by decide, by decide, fun H7 r7 x7 st7 r70 r71 => ⟨rfl, _, rfl, ?_⟩⟩
            have hA7 := x7 _ _ nA.1 hAr
            have arc7 := harc.st st6 x7
            refine ite2 (fun c => ?_) (fun c => ?_)
            · refine ⟨_, rfl, .inl ⟨rfl, _, SqL.of hA7⟩, _, rfl, _, rfl, _, rfl, Ar, us, rfl, .inl (SqL.of hA7), p, l, _, rfl, st7, by rw [harc.1]; omega, by rw [harc.1]; omega, fun H8 r8 x8 st8 r80 r81 => ?_⟩
              have hA8 := x8 _ _ nA.1 hA7
              have arc8 := arc7.st st7 x8
              obtain ⟨j, rfl⟩ := Int.eq_ofNat_of_zero_le r80
              have hj : j < as.length := by rw [harc.1] at r81; exact_mod_cast r81
              obtain ⟨t, ht1, ht2⟩ := arc8.2 j as[j] (List.getElem?_eq_getElem hj)
              refine ⟨_, _, _, _, rfl, rfl, SqL.of hA8, atI_nat ht1, Ar, us, _, rfl, rfl, hA8, lt_size (by rw [harc.1]; omega), ?_⟩
              have hk : ∀ a ∈ as ++ [as[j]], OkArc sg a ∧ a.1 ≠ 62 := fun a ha => by
                rcases List.mem_append.mp ha with h | h
                · exact hok a h
                · rw [List.mem_singleton.mp h]
                  exact hok _ (List.getElem_mem hj)
              exact ⟨us ++ [.ref t], as ++ [as[j]], rfl, ⟨by simp, by simp; omega, fun a h => (hk a h).1, ⟨a0, by rw [List.getElem?_append_left (by omega)]; exact ha0, hz0⟩, fun a h => (hk a h).2⟩, upd_same, (arc8.snoc ht2).updL hA8, (X6.trans (x7.trans x8)).updNew hA0, st8.upd nA⟩
            · exact ⟨us, as, rfl, ⟨hl1.1, by omega, fun a h => (hok a h).1, ⟨a0, ha0, hz0⟩, fun a h => (hok a h).2⟩, hA7, arc7, X6.trans x7, st7⟩
          · rintro σ9 H9 ⟨us, as, rfl, hok, hA9, arc9, X9, st9⟩
            refine ⟨_, rfl, _, rfl, le_size (show 2 ≤ 100000 by decide), fun q hq => ?_⟩
            have sq := Same.new (.tup [.str (SX.S sg), .ref Ar]) hq
            refine k _ q Ar sg us as (X9.trans (Same.ex sq)) (st9.same sq) (X9.free hq (st9.ne hq).1) hA0 upd_same (sq _ _ hA9) (arc9.same sq) hok hsg hny
end
end J


set_option Elab.async false
set_option linter.all false
set_option maxRecDepth 100000
set_option maxHeartbeats 4000000
namespace J
open PySem L2

def spNumber : Sp := fun vs H Q _ => ∃ i lo hi : Int, vs = [.int i, .int lo, .int hi] ∧ ∀ b : Bool, (b = true ↔ lo ≤ i ∧ i ≤ hi) → Q (.bl b) H
def spSequence (K : PySem.W.Frag) : Sp := fun vs H Q _ => ∃ (a : Addr) (xs : List V) (lo hi : Int), vs = [.ref a, .int lo, .int hi] ∧ H a = some (.lst xs) ∧ ∀ (H' : Hp) (b : Bool), Same H H' → (b = true ↔ lo ≤ xs.length ∧ xs.length ≤ hi) → Q (.bl b) H'
def spOver : Sp := fun vs H Q _ => ∃ (sg u : List Nat) (lo hi : Int), vs = [.str (SX.S sg), .str (SX.S u), .int lo, .int hi] ∧ lo ≤ u.length ∧ u.length ≤ hi ∧ hi ≤ 100000 ∧ (∀ c ∈ u, c ∈ sg) ∧ ∀ H' : Hp, Same H H' → Q (.bl true) H'
def spIsWord : Sp := fun vs H Q _ => ∃ (sg u : List Nat), vs = [.str (SX.S sg), .str (SX.S u)] ∧ Word sg u ∧ ∀ H' : Hp, Same H H' → Q (.bl true) H'
def spSigns : Sp := fun vs H Q _ => ∃ sg : List Nat, vs = [.str (SX.S sg)] ∧ Signs sg ∧ ∀ H' : Hp, Same H H' → Q (.bl true) H'
def spArc : Sp := fun vs H Q _ => ∃ (sg : List Nat) (t : Addr) (a : Arc), vs = [.str (SX.S sg), .ref t] ∧ H t = some (arcHO a) ∧ OkArc sg a ∧ ∀ H' : Hp, Same H H' → Q (.bl true) H'
def spState1 : Sp := fun vs H Q _ => ∃ i : Int, vs = [.int i] ∧ 0 ≤ i ∧ i ≤ 63 ∧ Q .non H
def spText1 : Sp := fun vs H Q _ => ∃ (sg u : List Nat), vs = [.str (SX.S sg), .str (SX.S u)] ∧ u.length ≤ 2000 ∧ (∀ c ∈ u, c ∈ sg) ∧ ∀ H' : Hp, Same H H' → Q .non H'
theorem rep_snoc (n : Nat) : (HO.lst ((List.replicate n true).map V.bl ++ [V.bl true])) = HO.lst ((List.replicate (n + 1) true).map V.bl) := by
  congr 1
  rw [List.replicate_succ']
  simp
theorem _root_.L2.Same.updNew {q : Addr} {H H' : Hp} {o : HO} (x : Same H H') (hq : H q = none) : Same H (L2.upd H' q o) := fun b u e => by
  rw [upd_ne (ne_of_none e hq)]; exact x b u e
theorem all_true {n : Nat} : (List.replicate n true).all id = true := by simp
section
variable {P : Program} {w : World} {K : PySem.W.Frag} {mg : Str → Option Value} {base : Heap}

theorem ok_is_number (T : Tx K mg) : FnOk P w K mg base CX0 1 T.f_is_number T.fd_is_number P_is_number spNumber := by
  refine T.F_is_number.ok sc_is_number (fun vs H Q E h => ?_) (fun cdv A outer s H vs Q E hr h => ?_)
  · obtain ⟨i, lo, hi, rfl, _⟩ := h
    rfl
  · obtain ⟨i, lo, hi, rfl, k⟩ := h
    refine ⟨_, (pss_one (ps_ret (pe_and (pe_callB (call_isiK' (K := K) rfl) rfl T.n_isinstance (by decide +kernel) (pa_cons (pv 0) (pa_cons (pe_bltn (v := V.ty "int") (u := .type "int") rfl T.n_int (by decide +kernel) rfl) pa_nil))) (pe_and (pe_not (pe_callB (call_isiK' (K := K) rfl) rfl T.n_isinstance (by decide +kernel) (pa_cons (pv 0) (pa_cons (pe_bltn (v := V.ty "bool") (u := .type "bool") rfl T.n_bool (by decide +kernel) rfl) pa_nil)))) (pe_one (pe_chain op_le op_le (pv 1) (pv 0) (pv 2))))))), ?_⟩
    refine ⟨_, rfl, _, _, _, _, true, rfl, .ty "int", .base (.int i), kit_ty (by decide +kernel), true, rfl, ?_⟩
    refine ⟨_, rfl, _, _, _, _, false, rfl, .ty "bool", .base (.int i), kit_ty (by decide +kernel), false, rfl, true, rfl, ?_⟩
    refine ⟨_, rfl, _, rfl, _, _, rfl, rfl, _, rfl, ?_⟩
    refine ite2 (fun c => ?_) (fun c => ?_)
    · refine ⟨_, rfl, _, _, rfl, rfl, k _ ?_⟩
      have c1 := of_decide_eq_true c
      constructor
      · intro h; exact ⟨c1, of_decide_eq_true h⟩
      · intro h; exact decide_eq_true h.2
    · refine k _ ?_
      constructor
      · intro h; cases h
      · intro h; exact absurd (decide_eq_true h.1) c

theorem ok_is_sequence (T : Tx K mg) : FnOk P w K mg base CX0 1 T.f_is_sequence T.fd_is_sequence P_is_sequence (spSequence K) := by
  refine T.F_is_sequence.ok sc_is_sequence (fun vs H Q E h => ?_) (fun cdv A outer s H vs Q E hr h => ?_)
  · obtain ⟨a, xs, lo, hi, rfl, _⟩ := h
    rfl
  · obtain ⟨a, xs, lo, hi, rfl, ha, k⟩ := h
    refine ⟨_, (pss_one (ps_ret (pe_and (pe_callB (call_isiTK (K := K) rfl) rfl T.n_isinstance (by decide +kernel) (pa_cons (pv 0) (pa_cons (pe_tup (pa_cons (pe_bltn (v := V.ty "list") (u := .type "list") rfl T.n_list (by decide +kernel) rfl) (pa_cons (pe_bltn (v := V.ty "tuple") (u := .type "tuple") rfl T.n_tuple (by decide +kernel) rfl) pa_nil))) pa_nil))) (pe_one (pe_chain op_le op_le (pv 1) (pe_callB (call_len_seqK (K := K) rfl) rfl T.n_len (by decide +kernel) (pa_cons (pv 0) pa_nil)) (pv 2)))))), ?_⟩
    refine ⟨_, rfl, le_size (by decide), fun t ht => ?_⟩
    have st := Same.new (.tup [V.ty "list", V.ty "tuple"]) ht
    refine ⟨_, _, _, _, [.type "list", .type "tuple"], true, rfl, upd_same, .cons (.ty _) (.cons (.ty _) .nil), .base (.lst (st _ _ ha)), kitAny_cons (b := true) (kit_ty (by decide +kernel)) (fun q => nomatch q) (fun _ => rfl), true, rfl, ?_⟩
    refine ⟨_, rfl, _, rfl, a, xs, rfl, .inl (SqL.of (st _ _ ha)), _, _, rfl, rfl, _, rfl, ?_⟩
    refine ite2 (fun c => ?_) (fun c => ?_)
    · refine ⟨_, rfl, _, _, rfl, rfl, k _ _ st ?_⟩
      have c1 := of_decide_eq_true c
      constructor
      · intro h; exact ⟨c1, of_decide_eq_true h⟩
      · intro h; exact decide_eq_true h.2
    · refine k _ _ st ?_
      constructor
      · intro h; cases h
      · intro h; exact absurd (decide_eq_true h.1) c

theorem ok_is_string_over (T : Tx K mg) : FnOk P w K mg base CX0 1 T.f_is_string_over T.fd_is_string_over P_is_string_over spOver := by
  refine T.F_is_string_over.ok sc_is_string_over (fun vs H Q E h => ?_) (fun cdv A outer s H vs Q E hr h => ?_)
  · obtain ⟨sg, u, lo, hi, rfl, _⟩ := h
    rfl
  · obtain ⟨sg, u, lo, hi, rfl, h1, h2, h3, hu, k⟩ := h
    refine ⟨_, (pss_cons (ps_if (PW.pt (pw_or (pt_not (pt_val (pe_callB (call_isiK' (K := K) rfl) rfl T.n_isinstance (by decide +kernel) (pa_cons (pv 1) (pa_cons (pe_bltn (v := V.ty "str") (u := .type "str") rfl T.n_str (by decide +kernel) rfl) pa_nil))))) (pw_or1 (pt_not (pt_chain op_le op_le (pv 2) (pe_callB call_len_str rfl T.n_len (by decide +kernel) (pa_cons (pv 1) pa_nil)) (pv 3)))))) (pss_one (ps_ret pe_bl)) pss_nil)
        (pss_one (ps_ret (pe_callB (cr_allK (K := K) rfl rfl) rfl T.n_all (by decide +kernel) (pa_cons (pe_lc (own := [("sign", 4)]) (g := (gName 4)) rfl sc_is_string_over.nd (pi_str (pv 1)) (blkOk_by (N := N_is_string_over) (sc := defScope s_is_string_over) (by decide +kernel)) (fun _ _ _ _ _ => (pg_name (i := 4) sc_is_string_over.nd rfl (Or.inl rfl))) (fun _ _ _ _ _ => pts_nil) (fun _ _ _ _ _ => (pe_cmpR op_in_sign (pv 4) (pv 0) rfl))) pa_nil))))), ?_⟩
    have hl : (SX.S u).length ≤ sizeLine := le_size (by rw [SX.S_len]; omega)
    refine ⟨_, rfl, _, _, _, _, true, rfl, .ty "str", .base (.str _), kit_ty (by decide +kernel), true, rfl, ?_⟩
    have e : ((SX.S u).length : Int) = u.length := by rw [SX.S_len]
    refine ⟨_, rfl, _, rfl, _, rfl, hl, _, _, rfl, rfl, true, congrArg V.bl (decide_eq_true (by rw [e]; exact h1)), ?_⟩
    refine ⟨_, rfl, _, _, rfl, rfl, true, congrArg V.bl (decide_eq_true (by rw [e]; exact h2)), ?_⟩
    refine ⟨_, rfl, _, rfl, fun D hD => lc_it (walk_str (z := SX.S u)) (fun i H' => H' D = some (.lst ((List.replicate i true).map V.bl)) ∧ Same H H') ⟨upd_same, Same.new _ hD⟩ (fun _ _ _ _ => trivial) ?_ ?_⟩
    · rintro i x H1 H2 hi ⟨hDl, sm⟩ ⟨rfl, c, hc, rfl⟩
      have hcu : c ∈ u := by
        have q : u[i]? = some c := by simpa using hc
        exact List.mem_of_getElem? q
      have hi2 : i ≤ 100000 := by
        have q : i < (SX.S u).length := hi
        rw [SX.S_len] at q
        omega
      refine ⟨rfl, _, rfl, _, rfl, c, _, rfl, rfl, _, hDl, lt_size (by simp; exact hi2), ?_, sm.updNew hD⟩
      rw [upd_same, decide_eq_true (by simpa using hu c hcu), rep_snoc]
    · rintro H1 ⟨hDl, sm⟩
      refine ⟨D, _, rfl, SqL.of hDl, ?_⟩
      rw [all_true]
      exact k _ sm

theorem ok_is_word (T : Tx K mg) : FnOk P w K mg base CX0 2 T.f_is_word T.fd_is_word P_is_word spIsWord := by
  have G_is_string_over : FnOk P w K mg base CX0 1 T.f_is_string_over T.fd_is_string_over P_is_string_over spOver := ok_is_string_over T
  refine T.F_is_word.ok sc_is_word (fun vs H Q E h => ?_) (fun cdv A outer s H vs Q E hr h => ?_)
  · obtain ⟨sg, u, rfl, _⟩ := h
    rfl
  · obtain ⟨sg, u, rfl, ⟨h1, h2, h3⟩, k⟩ := h
    refine ⟨_, (pss_one (ps_ret (pe_call G_is_string_over (hr.mono (by decide)) rfl T.m_is_string_over T.F_is_string_over.kp T.b_is_string_over .nil pass0 (pa_cons (pv 0) (pa_cons (pv 1) (pa_cons pe_int (pa_cons (pe_glob (v := V.int 12) rfl T.g_LONGEST_WORD ⟨_, rfl⟩) pa_nil))))))), ?_⟩
    exact ⟨_, rfl, _, rfl, sg, u, 1, 12, rfl, by omega, by omega, by omega, h3, k⟩
theorem ok_check_state (T : Tx K mg) : FnOk P w K mg base CX0 2 T.f_check_state T.fd_check_state P_check_state spState1 := by
  have G_is_number : FnOk P w K mg base CX0 1 T.f_is_number T.fd_is_number P_is_number spNumber := ok_is_number T
  refine T.F_check_state.ok sc_check_state (fun vs H Q E h => ?_) (fun cdv A outer s H vs Q E hr h => ?_)
  · obtain ⟨i, rfl, _⟩ := h
    rfl
  · obtain ⟨i, rfl, h1, h2, k⟩ := h
    refine ⟨_, (pss_one (ps_if (pt_not (pt_val (pe_call G_is_number (hr.mono (by decide)) rfl T.m_is_number T.F_is_number.kp T.b_is_number .nil pass0 (pa_cons (pv 0) (pa_cons pe_int (pa_cons (pe_glob (v := V.int 63) rfl T.g_LAST_STATE ⟨_, rfl⟩) pa_nil)))))) (pss_one ps_never) pss_nil)), ?_⟩
    refine ⟨_, rfl, i, 0, 63, rfl, fun b hb => ⟨b, rfl, ?_⟩⟩
    rw [hb.mpr ⟨h1, h2⟩]
    exact k
theorem ok_is_arc (T : Tx K mg) : FnOk P w K mg base CX0 3 T.f_is_arc T.fd_is_arc P_is_arc spArc := by
  have G_is_number : FnOk P w K mg base CX0 1 T.f_is_number T.fd_is_number P_is_number spNumber := ok_is_number T
  have G_is_word : FnOk P w K mg base CX0 2 T.f_is_word T.fd_is_word P_is_word spIsWord := ok_is_word T
  refine T.F_is_arc.ok sc_is_arc (fun vs H Q E h => ?_) (fun cdv A outer s H vs Q E hr h => ?_)
  · obtain ⟨sg, t, a, rfl, _⟩ := h
    rfl
  · obtain ⟨sg, t, ⟨s1, u, g1⟩, rfl, ht, ⟨hs, hw, hg⟩, k⟩ := h
    refine ⟨_, (pss_cons (ps_if (PW.pt (pw_or (pt_not (pt_val (pe_callB (call_isiK' (K := K) rfl) rfl T.n_isinstance (by decide +kernel) (pa_cons (pv 1) (pa_cons (pe_bltn (v := V.ty "tuple") (u := .type "tuple") rfl T.n_tuple (by decide +kernel) rfl) pa_nil))))) (pw_or1 (pt_cmpR op_ne (pe_callB (call_len_seqK (K := K) rfl) rfl T.n_len (by decide +kernel) (pa_cons (pv 1) pa_nil)) pe_int (nomark _))))) (pss_one (ps_ret pe_bl)) pss_nil)
        (pss_cons (ps_asg (pv 1) (pg_tup rfl (pgs_cons (pg_name (i := 2) sc_is_arc.nd rfl (Or.inl rfl)) (pgs_cons (pg_name (i := 3) sc_is_arc.nd rfl (Or.inl rfl)) (pgs_cons (pg_name (i := 4) sc_is_arc.nd rfl (Or.inl rfl)) pgs_nil)))))
        (pss_one (ps_ret (pe_and (pe_call G_is_number (hr.mono (by decide)) rfl T.m_is_number T.F_is_number.kp T.b_is_number .nil pass0 (pa_cons (pv 2) (pa_cons pe_int (pa_cons (pe_glob (v := V.int 63) rfl T.g_LAST_STATE ⟨_, rfl⟩) pa_nil)))) (pe_and (pe_call G_is_word (hr.mono (by decide)) rfl T.m_is_word T.F_is_word.kp T.b_is_word .nil pass0 (pa_cons (pv 0) (pa_cons (pv 3) pa_nil))) (pe_one (pe_call G_is_number (hr.mono (by decide)) rfl T.m_is_number T.F_is_number.kp T.b_is_number .nil pass0 (pa_cons (pv 4) (pa_cons pe_int (pa_cons (pe_glob (v := V.int 63) rfl T.g_LAST_STATE ⟨_, rfl⟩) pa_nil))))))))))), ?_⟩
    refine ⟨_, rfl, _, _, _, _, true, rfl, .ty "tuple", .base (.tup ht), kit_ty (by decide +kernel), true, rfl, ?_⟩
    refine ⟨_, rfl, t, _, rfl, .inr (SqT.of ht), rfl, false, rfl, ?_⟩
    refine ⟨_, rfl, t, _, rfl, SqT.of ht, rfl, ?_⟩
    have e1 : (0 : Int) ≤ ((s1 : Nat) : Int) ∧ ((s1 : Nat) : Int) ≤ 63 := by omega
    have e2 : (0 : Int) ≤ ((g1 : Nat) : Int) ∧ ((g1 : Nat) : Int) ≤ 63 := by have hg' : g1 ≤ 63 := hg; omega
    refine ⟨_, _, rfl, _, _, rfl, _, _, rfl, rfl, ?_⟩
    refine ⟨_, rfl, _, 0, 63, rfl, fun b hb => ⟨b, rfl, ?_⟩⟩
    rw [hb.mpr e1]
    refine ⟨_, rfl, _, rfl, sg, u, rfl, hw, fun H' sm => ⟨true, rfl, ?_⟩⟩
    refine ⟨_, rfl, _, 0, 63, rfl, fun b hb => ?_⟩
    rw [hb.mpr e2]
    exact k H' sm
end
end J


set_option Elab.async false
set_option linter.all false
set_option maxRecDepth 100000
set_option maxHeartbeats 4000000
namespace J
open PySem L2

theorem walk_zipS {x y : Str} : Walk (ItzS x y) (min x.cps.size y.cps.size) (fun _ => True) (fun i H v H' => ∃ T c d, v = .ref T ∧ H T = none ∧ H' = upd H T (.tup [.str ⟨#[c]⟩, .str ⟨#[d]⟩]) ∧ x.cps[i]? = some c ∧ y.cps[i]? = some d) :=
  ⟨fun _ _ h _ => h, fun _ _ => rfl, fun _ _ _ _ _ _ h => h⟩
theorem signs_le {sg : List Nat} (h : Signs sg) : ∀ c ∈ sg, (!decide ([c] < ([97] : List Nat))) = true ∧ (!decide (([122] : List Nat) < [c])) = true := by
  revert sg; unfold Signs; decide
theorem signs_up {sg : List Nat} (h : Signs sg) : ∀ p ∈ sg.zip (sg.drop 1), decide ([p.1] < [p.2]) = true := by
  revert sg; unfold Signs; decide
theorem signs_pair {sg : List Nat} (h : Signs sg) {i c d : Nat} (h1 : sg[i]? = some c) (h2 : (sg.drop 1)[i]? = some d) : decide ([c] < [d]) = true :=
  signs_up h (c, d) (List.mem_of_getElem? (i := i) (by rw [List.getElem?_zip_eq_some]; exact ⟨h1, h2⟩))
section
variable {P : Program} {w : World} {K : PySem.W.Frag} {mg : Str → Option Value} {base : Heap}

theorem ok_is_signs (T : Tx K mg) : FnOk P w K mg base CX0 1 T.f_is_signs T.fd_is_signs P_is_signs spSigns := by
  refine T.F_is_signs.ok sc_is_signs (fun vs H Q E h => ?_) (fun cdv A outer s H vs Q E hr h => ?_)
  · obtain ⟨sg, rfl, _⟩ := h
    rfl
  · obtain ⟨sg, rfl, hsg, k⟩ := h
    refine ⟨_, (pss_cons (ps_if (PW.pt (pw_or (pt_not (pt_val (pe_callB (call_isiK' (K := K) rfl) rfl T.n_isinstance (by decide +kernel) (pa_cons (pv 0) (pa_cons (pe_bltn (v := V.ty "str") (u := .type "str") rfl T.n_str (by decide +kernel) rfl) pa_nil))))) (pw_or1 (pt_not (pt_chain op_le op_le pe_int (pe_callB call_len_str rfl T.n_len (by decide +kernel) (pa_cons (pv 0) pa_nil)) (pe_glob (v := V.int 4) rfl T.g_MOST_SIGNS ⟨_, rfl⟩)))))) (pss_one (ps_ret pe_bl)) pss_nil)
        (pss_cons (ps_set (i := 1) sc_is_signs.nd rfl (Or.inl rfl) (pe_callB (cr_allK (K := K) rfl rfl) rfl T.n_all (by decide +kernel) (pa_cons (pe_lc (own := [("sign", 2)]) (g := (gName 2)) rfl sc_is_signs.nd (pi_str (pv 0)) (blkOk_by (N := N_is_signs) (sc := defScope s_is_signs) (by decide +kernel)) (fun _ _ _ _ _ => (pg_name (i := 2) sc_is_signs.nd rfl (Or.inl rfl))) (fun _ _ _ _ _ => pts_nil) (fun _ _ _ _ _ => (pe_chain op_le_str op_le_str pe_str (pv 2) pe_str))) pa_nil)))
        (pss_one (ps_ret (pe_and (pv 1) (pe_one (pe_callB (cr_allK (K := K) rfl rfl) rfl T.n_all (by decide +kernel) (pa_cons (pe_lc (own := [("one", 3), ("other", 4)]) (g := (gTup K 2 (gCons (gName 3) (gCons (gName 4) gNil)))) rfl sc_is_signs.nd (pi_zipS rfl T.n_zip (pa_cons (pv 0) (pa_cons (pe_slice sl_str (pv 0) (po_some pe_int) po_none) pa_nil))) (blkOk_by (N := N_is_signs) (sc := defScope s_is_signs) (by decide +kernel)) (fun _ _ _ _ _ => (pg_tup rfl (pgs_cons (pg_name (i := 3) sc_is_signs.nd rfl (Or.inl rfl)) (pgs_cons (pg_name (i := 4) sc_is_signs.nd rfl (Or.inl rfl)) pgs_nil)))) (fun _ _ _ _ _ => pts_nil) (fun _ _ _ _ _ => (pe_cmpR op_lt_str (pv 3) (pv 4) (nomark _)))) pa_nil)))))))), ?_⟩
    have hlen := hsg.len
    have hl : (SX.S sg).length ≤ sizeLine := le_size (by rw [SX.S_len]; omega)
    have e : ((SX.S sg).length : Int) = sg.length := by rw [SX.S_len]
    refine ⟨_, rfl, _, _, _, _, true, rfl, .ty "str", .base (.str _), kit_ty (by decide +kernel), true, rfl, ?_⟩
    refine ⟨_, rfl, _, rfl, hl, _, _, rfl, rfl, true, congrArg V.bl (decide_eq_true (by rw [e]; omega)), ?_⟩
    refine ⟨_, _, rfl, rfl, true, congrArg V.bl (decide_eq_true (by rw [e]; omega)), ?_⟩
    refine ⟨_, rfl, _, rfl, fun D hD => lc_it (walk_str (z := SX.S sg)) (fun i H' => H' D = some (.lst ((List.replicate i true).map V.bl)) ∧ Same H H') ⟨upd_same, Same.new _ hD⟩ (fun _ _ _ _ => trivial) ?_ ?_⟩
    · rintro i x H1 H2 hi ⟨hDl, sm⟩ ⟨rfl, c, hc, rfl⟩
      have hcu : c ∈ sg := by
        have q : sg[i]? = some c := by simpa using hc
        exact List.mem_of_getElem? q
      have hi2 : i ≤ 100000 := by
        have q : i < (SX.S sg).length := hi
        rw [SX.S_len] at q
        omega
      obtain ⟨l1, l2⟩ := signs_le hsg c hcu
      refine ⟨rfl, _, rfl, _, _, rfl, rfl, true, congrArg V.bl l1, _, _, rfl, rfl, _, hDl, lt_size (by simp; exact hi2), ?_, sm.updNew hD⟩
      rw [upd_same]
      show some (HO.lst (_ ++ [V.bl (!decide (([122] : List Nat) < [c]))])) = _
      rw [l2, rep_snoc]
    · rintro H1 ⟨hDl, sm⟩
      refine ⟨D, _, rfl, SqL.of hDl, ?_⟩
      rw [all_true]
      refine ⟨_, rfl, true, rfl, ?_⟩
      refine ⟨_, rfl, _, rfl, _, rfl, _, rfl, hl, ?_⟩
      rw [C8.cutS_slice, SX.slice_from (by decide)]
      refine ⟨_, _, rfl, fun D2 hD2 => lc_it (walk_zipS (x := SX.S sg) (y := SX.S (sg.drop 1))) (fun i H' => H' D2 = some (.lst ((List.replicate i true).map V.bl)) ∧ Same H H') ⟨upd_same, sm.trans (Same.new _ hD2)⟩ (fun _ _ _ _ => trivial) ?_ ?_⟩
      · rintro i x H2 H3 hi ⟨hDl2, sm2⟩ ⟨t, c, d, rfl, ht, rfl, hc, hd⟩
        have hcu : sg[i]? = some c := by simpa using hc
        have hdu : (sg.drop 1)[i]? = some d := by simpa using hd
        have hi2 : i ≤ 100000 := by
          have q := (List.getElem?_eq_some_iff.mp hcu).1
          omega
        have nt : D2 ≠ t := fun z => hp_ne hDl2 ht z.symm
        refine ⟨t, _, rfl, SqT.of upd_same, rfl, _, _, rfl, _, _, rfl, rfl, rfl, _, rfl, _, rfl, _, _, rfl, rfl, _, by rw [upd_ne nt]; exact hDl2, lt_size (by simp; exact hi2), ?_, (sm2.trans (Same.new _ ht)).updNew (sm.free hD2)⟩
        rw [upd_same]
        show some (HO.lst (_ ++ [V.bl (decide ([c] < [d]))])) = _
        rw [signs_pair hsg hcu hdu, rep_snoc]
      · rintro H2 ⟨hDl2, sm2⟩
        refine ⟨D2, _, rfl, SqL.of hDl2, ?_⟩
        rw [all_true]
        exact k _ sm2
end
end J


set_option Elab.async false
set_option linter.all false
set_option maxRecDepth 100000
set_option maxHeartbeats 4000000
namespace J
open PySem L2
/-- arcs that a loom may have -/
def OkW (sg : List Nat) (as : List Arc) : Prop := 1 ≤ as.length ∧ as.length ≤ 200 ∧ ∀ a ∈ as, OkArc sg a
theorem OkArcs.w {sg : List Nat} {as : List Arc} (h : OkArcs sg as) : OkW sg as := ⟨h.1, by have := h.2.1; omega, h.2.2.1⟩
/-- a loom's fields -/
def lf (sg : List Nat) (T : Addr) : List (Str × V) := putF "arcs" (.ref T) (putF "signs" (.str (SX.S sg)) [])
theorem ne_sa : ¬ (("signs" : Str) = "arcs") := by decide +kernel
theorem lf_signs (sg : List Nat) (T : Addr) : (lf sg T).lookup ("signs" : Str) = some (.str (SX.S sg)) := by
  unfold lf
  rw [lookup_putF, if_neg ne_sa, lookup_putF, if_pos rfl]
theorem lf_arcs (sg : List Nat) (T : Addr) : (lf sg T).lookup ("arcs" : Str) = some (.ref T) := by
  unfold lf
  rw [lookup_putF, if_pos rfl]
/-- a loom stands at p -/
def LoomAt (C : Addr) (H : Hp) (p : Addr) (sg : List Nat) (us : List V) (as : List Arc) : Prop := ∃ dx T, H p = some (.ins C dx (lf sg T)) ∧ H T = some (.tup us) ∧ Arcs H us as ∧ OkW sg as ∧ Signs sg
def spInit (C : Addr) : Sp := fun vs H Q _ => ∃ (p dx a : Addr) (sg : List Nat) (us : List V) (as : List Arc), vs = [.ref p, .str (SX.S sg), .ref a] ∧ H p = some (.ins C dx []) ∧ H a = some (.lst us) ∧ Arcs H us as ∧ OkW sg as ∧ Signs sg ∧
  ∀ (H' : Hp) (T : Addr), Ex p H H' → H T = none → H' T = some (.tup us) → H' p = some (.ins C dx (lf sg T)) → Q .non H'
theorem take_snoc {α : Type} {l : List α} {i : Nat} {x : α} (h : l[i]? = some x) : l.take i ++ [x] = l.take (i + 1) := by
  rw [List.take_add_one, h]
  rfl
def spChkSigns : Sp := fun vs H Q _ => ∃ sg : List Nat, vs = [.str (SX.S sg)] ∧ Signs sg ∧ ∀ H', Same H H' → Q .non H'
section
variable {P : Program} {w : World} {K : PySem.W.Frag} {mg : Str → Option Value} {base : Heap}
theorem ok_check_signs (T : Tx K mg) : FnOk P w K mg base CX0 2 T.f_check_signs T.fd_check_signs P_check_signs spChkSigns := by
  have G_is_signs : FnOk P w K mg base CX0 1 T.f_is_signs T.fd_is_signs P_is_signs spSigns := ok_is_signs T
  refine T.F_check_signs.ok sc_check_signs (fun vs H Q E h => ?_) (fun cdv A outer s H vs Q E hr h => ?_)
  · obtain ⟨sg, rfl, _⟩ := h
    rfl
  · obtain ⟨sg, rfl, hsg, k⟩ := h
    refine ⟨_, (pss_one (ps_if (pt_not (pt_val (pe_call G_is_signs (hr.mono (by decide)) rfl T.m_is_signs T.F_is_signs.kp T.b_is_signs .nil pass0 (pa_cons (pv 0) pa_nil)))) (pss_one ps_never) pss_nil)), ?_⟩
    refine ⟨_, rfl, sg, rfl, hsg, fun H1 s1 => ⟨true, rfl, ?_⟩⟩
    exact k _ s1
theorem ok_Loom_init (T : Tx K mg) : FnOk P w K mg base CX0 4 T.f_Loom_init T.fd_Loom_init P_Loom_init (spInit T.C_Loom) := by
  have G_check_signs : FnOk P w K mg base CX0 2 T.f_check_signs T.fd_check_signs P_check_signs spChkSigns := ok_check_signs T
  have G_is_sequence : FnOk P w K mg base CX0 1 T.f_is_sequence T.fd_is_sequence P_is_sequence (spSequence K) := ok_is_sequence T
  have G_is_arc : FnOk P w K mg base CX0 3 T.f_is_arc T.fd_is_arc P_is_arc spArc := ok_is_arc T
  refine T.F_Loom_init.ok sc_Loom_init (fun vs H Q E h => ?_) (fun cdv A outer s H vs Q E hr h => ?_)
  · obtain ⟨p, dx, a, sg, us, as, rfl, _⟩ := h
    rfl
  · obtain ⟨p, dx, a, sg, us, as, rfl, hp, ha, harc, hok, hsg, k⟩ := h
    refine ⟨_, (pss_cons (ps_expr (pe_call G_check_signs (hr.mono (by decide)) rfl T.m_check_signs T.F_check_signs.kp T.b_check_signs .nil pass0 (pa_cons (pv 1) pa_nil)))
        (pss_cons (ps_if (pt_not (pt_val (pe_call G_is_sequence (hr.mono (by decide)) rfl T.m_is_sequence T.F_is_sequence.kp T.b_is_sequence .nil pass0 (pa_cons (pv 2) (pa_cons pe_int (pa_cons (pe_glob (v := V.int 200) rfl T.g_MOST_ARCS ⟨_, rfl⟩) pa_nil)))))) (pss_one ps_never) pss_nil)
        (pss_cons (ps_for PassesOwn.never rfl (pi_enum rfl T.n_enumerate (pa_cons (pv 2) pa_nil)) (pg_tup rfl (pgs_cons (pg_name (i := 3) sc_Loom_init.nd rfl (Or.inl rfl)) (pgs_cons (pg_name (i := 4) sc_Loom_init.nd rfl (Or.inl rfl)) pgs_nil))) (pss_one (ps_if (pt_not (pt_val (pe_call G_is_arc (hr.mono (by decide)) rfl T.m_is_arc T.F_is_arc.kp T.b_is_arc .nil pass0 (pa_cons (pv 1) (pa_cons (pv 4) pa_nil))))) (pss_one ps_never) pss_nil)))
        (pss_cons (ps_fld (pv 0) (pv 1) rfl)
        (pss_one (ps_fld (pv 0) (pe_callTy (call_tuple_ofK (K := K) rfl) rfl T.n_tuple (by decide +kernel) (pa_cons (pe_lc (own := [("arc", 4)]) (g := (gName 4)) rfl sc_Loom_init.nd (pi_list (pv 2)) (blkOk_by (N := N_Loom_init) (sc := defScope s_Loom_init) (by decide +kernel)) (fun _ _ _ _ _ => (pg_name (i := 4) sc_Loom_init.nd rfl (Or.inl rfl))) (fun _ _ _ _ _ => pts_nil) (fun _ _ _ _ _ => (pe_callTy (call_tuple_ofK (K := K) rfl) rfl T.n_tuple (by decide +kernel) (pa_cons (pv 4) pa_nil)))) pa_nil)) rfl)))))), ?_⟩
    refine ⟨_, rfl, sg, rfl, hsg, fun H1 s1 => ?_⟩
    refine ⟨_, rfl, a, us, 1, 200, rfl, s1 _ _ ha, fun H2 b s2 hb => ⟨b, rfl, ?_⟩⟩
    have hl := hok.2.1
    have hl0 := hok.1
    have hl2 := harc.1
    rw [hb.mpr ⟨by omega, by omega⟩]
    have s12 := s1.trans s2
    refine ⟨_, rfl, a, us, rfl, SqL.of (s12 _ _ ha), for_it walk_enum (fun i σ H' => ∃ v3 v4, σ = [some (.ref p), some (.str (SX.S sg)), some (.ref a), v3, v4] ∧ Same H H') ⟨_, _, rfl, s12⟩ (fun i σ H' _ ⟨_, _, _, sm⟩ => SqL.of (sm _ _ ha)) ?_ ?_⟩
    · rintro i x σ H3 H4 hi ⟨v3, v4, rfl, s3⟩ ⟨tp, x1, y1, rfl, ht, rfl, hx1, hy1⟩
      cases hx1
      have hia : i < as.length := by omega
      obtain ⟨t, hut, htt⟩ := harc.2 i as[i] (List.getElem?_eq_getElem hia)
      replace hy1 : us[i]? = some y1 := hy1
      rw [hut] at hy1
      cases hy1
      have sn := Same.new (.tup [V.int (i : Int), .ref t]) ht
      refine ⟨tp, _, rfl, SqT.of upd_same, rfl, _, _, rfl, _, _, rfl, rfl, ?_⟩
      refine ⟨_, rfl, _, rfl, sg, t, as[i], rfl, sn _ _ (s3 _ _ htt), hok.2.2 _ (List.getElem_mem hia), fun H5 s5 => ⟨true, rfl, ?_⟩⟩
      exact ⟨_, _, rfl, s3.trans (sn.trans s5)⟩
    · rintro σ H3 ⟨v3, v4, rfl, s3⟩
      have hp3 := s3 _ _ hp
      refine ⟨_, rfl, _, rfl, p, _, dx, _, rfl, hp3, T.cl_Loom, T.na_Loom_signs, (by show 0 < 1000; decide), ?_⟩
      have x3 : Ex p H (upd H3 p (.ins T.C_Loom dx (putF "signs" (.str (SX.S sg)) []))) := (Same.ex s3).trans (Ex.upd _)
      have nap : a ≠ p := fun z => by rw [z, hp] at ha; cases ha
      refine ⟨_, rfl, a, rfl, ⟨_, SqL.of (x3 _ _ nap ha)⟩, fun D hD => lc_list (K := K) (a := a) (xs := us) (fun i H' => H' D = some (.lst (us.take i)) ∧ Ex p H H' ∧ H' p = some (.ins T.C_Loom dx (putF "signs" (.str (SX.S sg)) []))) ?_ ?_ ?_ ?_⟩
      · have nDp : D ≠ p := hp_ne upd_same hD
        exact ⟨upd_same, x3.trans (Ex.new _ hD), by rw [upd_ne nDp.symm]; exact upd_same⟩
      · rintro i H4 hi ⟨_, x4, _⟩
        exact SqL.of (x4 _ _ nap ha)
      · rintro i y H4 hy ⟨hDl, x4, hp4⟩
        have hia : i < us.length := (List.getElem?_eq_some_iff.mp hy).1
        obtain ⟨t, hut, htt⟩ := harc.2 i as[i] (List.getElem?_eq_getElem (by omega))
        rw [hut] at hy
        cases hy
        have ntp : t ≠ p := fun z => by rw [z, hp] at htt; cases htt
        have nDp : D ≠ p := hp_ne upd_same hD
        refine ⟨rfl, _, rfl, t, _, rfl, .inr ⟨SqT.of (x4 _ _ ntp htt), _, hDl, lt_size (by simp; omega), ?_, x4.updNew (x3.free hD nDp), by rw [upd_ne nDp.symm]; exact hp4⟩⟩
        rw [upd_same, take_snoc hut]
      · rintro H4 ⟨hDl, x4, hp4⟩
        rw [List.take_length] at hDl
        refine ⟨D, us, rfl, .inl ⟨SqL.of hDl, fun T1 hT1 => ?_⟩⟩
        have nT : T1 ≠ p := hp_ne hp4 hT1
        refine ⟨_, rfl, p, _, dx, _, rfl, by rw [upd_ne nT.symm]; exact hp4, T.cl_Loom, T.na_Loom_arcs, (by show 1 < 1000; decide), ?_⟩
        exact k _ T1 ((x4.trans (Ex.new _ hT1)).trans (Ex.upd _)) (x4.free hT1 nT) (by rw [upd_ne nT]; exact upd_same) upd_same
end
end J


set_option Elab.async false
set_option linter.all false
set_option maxRecDepth 100000
set_option maxHeartbeats 4000000
namespace J
open PySem L2
abbrev nats (l : List Nat) : List V := l.map fun n : Nat => V.int (n : Int)
def leavTo (as : List Arc) (g : Nat) (i : Nat) : List Nat := (List.range i).filter fun j => decide (as[j]?.map (·.1) = some g)
/-- the numbers of the arcs that leave g -/
def leav (as : List Arc) (g : Nat) : List Nat := leavTo as g as.length
theorem leavTo_snoc {as : List Arc} {g i : Nat} {a : Arc} (h : as[i]? = some a) : leavTo as g (i + 1) = leavTo as g i ++ if a.1 = g then [i] else [] := by
  unfold leavTo
  rw [List.range_succ, List.filter_append]
  congr 1
  by_cases c : a.1 = g
  · simp [h, c]
  · simp [h, c]
theorem leavTo_len (as : List Arc) (g : Nat) : ∀ i, (leavTo as g i).length ≤ i := fun i => by
  unfold leavTo
  exact Nat.le_trans (List.length_filter_le _ _) (by simp)
theorem leav_mem {as : List Arc} {g i : Nat} (h : i ∈ leav as g) : ∃ a, as[i]? = some a ∧ a.1 = g := by
  unfold leav leavTo at h
  have q := (List.mem_filter.mp h).2
  rw [decide_eq_true_eq] at q
  cases e : as[i]? with
  | none => rw [e] at q; cases q
  | some a => rw [e] at q; exact ⟨a, rfl, Option.some.inj q⟩
theorem leav_lt {as : List Arc} {g i : Nat} (h : i ∈ leav as g) : i < as.length := by
  obtain ⟨a, ha, _⟩ := leav_mem h
  exact (List.getElem?_eq_some_iff.mp ha).1
/-- a list of arcs stands at a -/
def ArcL (H : Hp) (a : Addr) (as : List Arc) : Prop := ∃ us, H a = some (.lst us) ∧ Arcs H us as
theorem ArcL.same {H H' : Hp} {a : Addr} {as : List Arc} (h : ArcL H a as) (s : Same H H') : ArcL H' a as := by
  obtain ⟨us, h1, h2⟩ := h
  exact ⟨us, s _ _ h1, h2.same s⟩
theorem ArcL.ex {ns : List Int} {l p : Addr} {H H' : Hp} {a : Addr} {as : List Arc} (h : ArcL H a as) (st : StAt ns l H p) (s : Ex p H H') (n : a ≠ p) : ArcL H' a as := by
  obtain ⟨us, h1, h2⟩ := h
  exact ⟨us, s _ _ n h1, h2.st st s⟩
def spLeaving : Sp := fun vs H Q _ => ∃ (a : Addr) (as : List Arc) (g : Nat), vs = [.ref a, .int (g : Int)] ∧ ArcL H a as ∧ as.length ≤ 100000 ∧
  ∀ (H' : Hp) (p : Addr), Same H H' → H p = none → H' p = some (.lst (nats (leav as g))) → Q (.ref p) H'
def spMade (C : Addr) : Sp := fun vs H Q _ => ∃ (q a : Addr) (sg : List Nat) (us : List V) (as : List Arc), vs = [.ref q] ∧ H q = some (.tup [.str (SX.S sg), .ref a]) ∧ H a = some (.lst us) ∧ Arcs H us as ∧ OkW sg as ∧ Signs sg ∧
  ∀ (H' : Hp) (p : Addr), Same H H' → H p = none → LoomAt C H' p sg us as → Q (.ref p) H'
def spInteger : Sp := fun vs H Q _ => ∃ i : Int, vs = [.int i] ∧ Q (.bl true) H
section
variable {P : Program} {w : World} {K : PySem.W.Frag} {mg : Str → Option Value} {base : Heap}
theorem ok_l_leaving (T : Tx K mg) : FnOk P w K mg base CX0 1 T.f_l_leaving T.fd_l_leaving P_l_leaving spLeaving := by
  refine T.F_l_leaving.ok sc_l_leaving (fun vs H Q E h => ?_) (fun cdv A outer s H vs Q E hr h => ?_)
  · obtain ⟨a, as, g, rfl, _⟩ := h
    rfl
  · obtain ⟨a, as, g, rfl, ⟨us, ha, harc⟩, hl, k⟩ := h
    refine ⟨_, (pss_one (ps_ret (pe_lc (own := [("_law_at", 2)]) (g := (gName 2)) rfl sc_l_leaving.nd (pi_range1 rfl T.n_range (pa_cons (pe_callB (call_len_seqK (K := K) rfl) rfl T.n_len (by decide +kernel) (pa_cons (pv 0) pa_nil)) pa_nil)) (blkOk_by (N := N_l_leaving) (sc := defScope s_l_leaving) (by decide +kernel)) (fun _ _ _ _ _ => (pg_name (i := 2) sc_l_leaving.nd rfl (Or.inl rfl))) (fun _ _ _ _ _ => (pts_one (pt_cmpR op_eq (pe_ix (ix_tupK (K := K) rfl) (pe_ix (ix_listK (K := K) rfl) (pv 0) (pv 2) (fun _ _ => rfl)) pe_int (fun _ _ => rfl)) (pv 1) (nomark _)))) (fun _ _ _ _ _ => (pv 2))))), ?_⟩
    have hl2 := harc.1
    refine ⟨_, rfl, a, us, rfl, .inl (SqL.of ha), _, rfl, by omega, by omega, fun D hD => lc_range (lo := 0) (n := us.length) (fun i H' => H' D = some (.lst (nats (leavTo as g i))) ∧ Same H H') ⟨upd_same, Same.new _ hD⟩ ?_ ?_⟩
    · rintro i H2 hi ⟨hDl, sm⟩
      obtain ⟨t, hut, htt⟩ := harc.2 i as[i] (List.getElem?_eq_getElem (by omega))
      have e0 : (0 : Int) + (i : Int) = (i : Int) := by omega
      refine ⟨rfl, _, rfl, _, rfl, a, us, _, _, rfl, rfl, SqL.of (sm _ _ ha), by rw [e0]; exact atI_nat hut, t, _, _, _, rfl, rfl, SqT.of (sm _ _ htt), rfl, _, rfl, rfl, _, rfl, ?_⟩
      have hs := leavTo_snoc (g := g) (List.getElem?_eq_getElem (by omega : i < as.length))
      refine ite2 (fun c => ?_) (fun c => ?_)
      · have c1 : as[i].1 = g := by
          have q := of_decide_eq_true c
          injection q with q
          omega
        rw [if_pos c1] at hs
        refine ⟨_, rfl, _, hDl, lt_size (by rw [List.length_map]; exact Nat.le_trans (leavTo_len _ _ _) (by omega)), ?_, sm.updNew hD⟩
        rw [upd_same, hs, e0]
        simp
      · have c1 : ¬ as[i].1 = g := fun z => c (decide_eq_true (by rw [z]))
        rw [if_neg c1, List.append_nil] at hs
        exact ⟨by rw [hs]; exact hDl, sm⟩
    · rintro H2 ⟨hDl, sm⟩
      rw [hl2] at hDl
      exact k _ D sm hD hDl
theorem ok_l_made (T : Tx K mg) : FnOk P w K mg base CX0 6 T.f_l_made T.fd_l_made P_l_made (spMade T.C_Loom) := by
  have G_Loom_init : FnOk P w K mg base CX0 4 T.f_Loom_init T.fd_Loom_init P_Loom_init (spInit T.C_Loom) := ok_Loom_init T
  refine T.F_l_made.ok sc_l_made (fun vs H Q E h => ?_) (fun cdv A outer s H vs Q E hr h => ?_)
  · obtain ⟨q, a, sg, us, as, rfl, _⟩ := h
    rfl
  · obtain ⟨q, a, sg, us, as, rfl, hq, ha, harc, hok, hsg, k⟩ := h
    refine ⟨_, (pss_one (ps_ret (pe_make T.M_Loom G_Loom_init (hr.mono (by decide)) rfl T.g_Loom T.b_Loom_init .nil pass0 (pa_cons (pe_ix (ix_tupK (K := K) rfl) (pv 0) pe_int (fun _ _ => rfl)) (pa_cons (pe_callTy (call_list_ofK (K := K) rfl) rfl T.n_list (by decide +kernel) (pa_cons (pe_ix (ix_tupK (K := K) rfl) (pv 0) pe_int (fun _ _ => rfl)) pa_nil)) pa_nil))))), ?_⟩
    refine ⟨_, rfl, q, _, _, _, rfl, rfl, SqT.of hq, rfl, _, rfl, q, _, _, _, rfl, rfl, SqT.of hq, rfl, a, us, rfl, .inl (SqL.of ha), fun l hl => ?_⟩
    have s1 := Same.new (.lst us) hl
    intro x dx hx hdx hne
    have s2 : Same H (upd (upd (upd H l (.lst us)) dx (.own x)) x (.ins T.C_Loom dx [])) := (s1.trans (Same.new _ hdx)).trans (Same.new _ (by rw [upd_ne hne.symm]; exact hx))
    have hx0 : H x = none := s1.free hx
    have nlx : l ≠ x := (hp_ne upd_same hx).symm
    have nld : l ≠ dx := (hp_ne upd_same hdx).symm
    refine ⟨x, dx, l, sg, us, as, rfl, upd_same, by rw [upd_ne nlx, upd_ne nld]; exact upd_same, harc.same s2, hok, hsg, fun H' Tp x3 hTp hTus hx3 => ⟨rfl, ?_⟩⟩
    have s3 : Same H H' := fun b o e => x3 _ _ (ne_of_none e hx0) (s2 _ _ e)
    exact k _ x s3 hx0 ⟨dx, Tp, hx3, hTus, harc.same s3, hok, hsg⟩
end
end J


set_option Elab.async false
set_option linter.all false
set_option maxRecDepth 100000
set_option maxHeartbeats 4000000
namespace J
open PySem L2
/-- a row of numbers of arcs, of whatever kind -/
def RowIn (as : List Arc) (row : List Nat) : Prop := ∀ i ∈ row, i < as.length
def wordAt (as : List Arc) (i : Nat) : List Nat := match as[i]? with | some a => a.2.1 | none => []
def goalAt (as : List Arc) (i : Nat) : Nat := match as[i]? with | some a => a.2.2 | none => 0
/-- a row's text -/
def rowText (as : List Arc) (row : List Nat) : List Nat := (row.map (wordAt as)).flatten
/-- where a row ends -/
def rowEnd (as : List Arc) (g : Nat) (row : List Nat) : Nat := match row.getLast? with | some i => goalAt as i | none => g
theorem wordAt_eq {as : List Arc} {i : Nat} {a : Arc} (h : as[i]? = some a) : wordAt as i = a.2.1 := by unfold wordAt; rw [h]
theorem goalAt_eq {as : List Arc} {i : Nat} {a : Arc} (h : as[i]? = some a) : goalAt as i = a.2.2 := by unfold goalAt; rw [h]
def OkAll (as : List Arc) : Prop := as.length ≤ 100000 ∧ ∀ a ∈ as, a.1 ≤ 63 ∧ 1 ≤ a.2.1.length ∧ a.2.1.length ≤ 12 ∧ a.2.2 ≤ 63
theorem OkArcs.all {sg : List Nat} {as : List Arc} (h : OkArcs sg as) : OkAll as := ⟨by have := h.2.1; omega, fun a ha => by
  obtain ⟨h1, ⟨h2, h3, _⟩, h4⟩ := h.2.2.1 a ha
  exact ⟨h1, h2, h3, h4⟩⟩
theorem goalAt_le {as : List Arc} (h : OkAll as) (i : Nat) : goalAt as i ≤ 63 := by
  unfold goalAt
  cases e : as[i]? with
  | none => simp
  | some a => exact (h.2 a (List.mem_of_getElem? e)).2.2.2
theorem wordAt_len {as : List Arc} (h : OkAll as) (i : Nat) : (wordAt as i).length ≤ 12 := by
  unfold wordAt
  cases e : as[i]? with
  | none => simp
  | some a => exact (h.2 a (List.mem_of_getElem? e)).2.2.1
theorem rowText_len {as : List Arc} (h : OkAll as) (row : List Nat) : (rowText as row).length ≤ 12 * row.length := by
  unfold rowText
  induction row with
  | nil => simp
  | cons i r ih =>
    have := wordAt_len h i
    simp only [List.map_cons, List.flatten_cons, List.length_append, List.length_cons] at *
    omega
theorem OkW.all {sg : List Nat} {as : List Arc} (h : OkW sg as) : OkAll as := ⟨by have := h.2.1; omega, fun a ha => by
  obtain ⟨h1, ⟨h2, h3, _⟩, h4⟩ := h.2.2 a ha
  exact ⟨h1, h2, h3, h4⟩⟩
theorem eqv_nil (ns : List Int) : (!PyData.eqv (.list (ns.map PyData.int)) (.list [])) = decide (ns ≠ []) := by
  cases ns with
  | nil => rfl
  | cons a r => rfl
theorem dp_ints {K : PySem.W.Frag} {H : Hp} : ∀ ns : List Int, DpAll K H (ns.map V.int) (ns.map PyData.int)
  | [] => .nil
  | n :: r => .cons (.int n) (dp_ints r)
theorem nats_map (l : List Nat) : nats l = (l.map fun n : Nat => (n : Int)).map V.int := by simp [nats, List.map_map, Function.comp_def]
end J


set_option Elab.async false
set_option linter.all false
set_option maxRecDepth 100000
set_option maxHeartbeats 4000000
namespace J
open PySem L2
/-- the states that can be come to from 0 -/
inductive Reach (as : List Arc) : Nat → Prop
  | zero : Reach as 0
  | step {a : Arc} : a ∈ as → Reach as a.1 → Reach as a.2.2
theorem Reach.le {as : List Arc} (h : OkAll as) {x : Nat} (r : Reach as x) : x ≤ 63 := by
  cases r with
  | zero => decide
  | step ha _ => exact (h.2 _ ha).2.2.2
theorem nodup_le : ∀ (n : Nat) (l : List Nat), l.Nodup → (∀ x ∈ l, x < n) → l.length ≤ n
  | 0, l, _, h => by
    cases l with
    | nil => simp
    | cons a r => exact absurd (h a (by simp)) (Nat.not_lt_zero _)
  | n + 1, l, hn, h => by
    have h1 : (l.erase n).length ≤ n := nodup_le n (l.erase n) (hn.erase n) fun x hx => by
      have q := h x (List.mem_of_mem_erase hx)
      have : x ≠ n := fun z => by
        subst z
        exact (List.Nodup.not_mem_erase hn) hx
      omega
    have h2 : l.length ≤ (l.erase n).length + 1 := by
      by_cases c : n ∈ l
      · rw [List.length_erase_of_mem c]; omega
      · rw [List.erase_of_not_mem c]; omega
    omega
theorem flat_nats (l : List Nat) : (nats l).all flatV = true := by simp [nats, flatV]
theorem inV_nats (x : Nat) (l : List Nat) : inV (V.int (x : Int)) (nats l) = decide (x ∈ l) := by
  unfold inV nats
  rw [List.any_map]
  induction l with
  | nil => rfl
  | cons a r ih =>
    rw [List.any_cons, ih]
    by_cases c : x = a
    · subst c; simp [eqV]
    · have c2 : ¬ a = x := fun z => c z.symm
      simp [eqV, c]
      omega
/-- what stands while met goes -/
structure Going (as : List Arc) (fs : List Nat) (turn : Nat) : Prop where
  nd : fs.Nodup
  zero : 0 ∈ fs
  reach : ∀ x ∈ fs, Reach as x
  le : turn ≤ fs.length
  done : ∀ j g, j < turn → fs[j]? = some g → ∀ a ∈ as, a.1 = g → a.2.2 ∈ fs
theorem Going.all {as : List Arc} {fs : List Nat} (h : Going as fs fs.length) (x : Nat) : x ∈ fs ↔ Reach as x := by
  refine ⟨h.reach x, fun r => ?_⟩
  induction r with
  | zero => exact h.zero
  | step ha _ ih =>
    obtain ⟨j, hj, e⟩ := List.mem_iff_getElem.mp ih
    exact h.done j _ hj (by rw [List.getElem?_eq_getElem hj, e]) _ ha rfl
def spMet : Sp := fun vs H Q _ => ∃ (a : Addr) (as : List Arc), vs = [.ref a] ∧ ArcL H a as ∧ OkAll as ∧
  ∀ (H' : Hp) (p : Addr) (ms : List Nat), Same H H' → H p = none → H' p = some (.lst (nats ms)) → ms.Pairwise (· < ·) → (∀ x, x ∈ ms ↔ Reach as x) → Q (.ref p) H'
theorem sorted_nats {fs : List Nat} {ns : List Int} (h : ns.Perm (fs.map fun n : Nat => (n : Int))) (hs : ns.Pairwise (· ≤ ·)) (hn : fs.Nodup) : ∃ ms : List Nat, ns.map V.int = nats ms ∧ ms.Pairwise (· < ·) ∧ ∀ x, x ∈ ms ↔ x ∈ fs := by
  have e : ns = (ns.map Int.toNat).map fun n : Nat => (n : Int) := by
    rw [List.map_map]
    conv => lhs; rw [← List.map_id ns]
    refine List.map_congr_left fun i hi => ?_
    obtain ⟨n, _, rfl⟩ := List.mem_map.mp (h.mem_iff.mp hi)
    rfl
  have hp : (ns.map Int.toNat).Perm fs := by
    have q := h.map Int.toNat
    rw [List.map_map] at q
    have z : fs.map (Int.toNat ∘ fun n : Nat => (n : Int)) = fs := by
      conv => rhs; rw [← List.map_id fs]
      exact List.map_congr_left fun n _ => by simp
    rwa [z] at q
  refine ⟨ns.map Int.toNat, by rw [nats_map, ← e], ?_, fun x => hp.mem_iff⟩
  have nd := hp.nodup_iff.mpr hn
  have hs2 : (ns.map Int.toNat).Pairwise (· ≤ ·) := by
    rw [List.pairwise_map]
    exact hs.imp fun h => by omega
  exact (hs2.and nd).imp fun ⟨h1, h2⟩ => by omega
section
variable {P : Program} {w : World} {K : PySem.W.Frag} {mg : Str → Option Value} {base : Heap}
theorem ok_l_met (T : Tx K mg) : FnOk P w K mg base CX0 2 T.f_l_met T.fd_l_met P_l_met spMet := by
  have G_l_leaving : FnOk P w K mg base CX0 1 T.f_l_leaving T.fd_l_leaving P_l_leaving spLeaving := ok_l_leaving T
  refine T.F_l_met.ok sc_l_met (fun vs H Q E h => ?_) (fun cdv A outer s H vs Q E hr h => ?_)
  · obtain ⟨a, as, rfl, _⟩ := h
    rfl
  · obtain ⟨a, as, rfl, harc, hok, k⟩ := h
    refine ⟨_, (pss_cons (ps_set (i := 1) sc_l_met.nd rfl (Or.inl rfl) (pe_lst (pa_cons pe_int pa_nil)))
        (pss_cons (ps_set (i := 2) sc_l_met.nd rfl (Or.inl rfl) pe_int)
        (pss_cons (ps_while PassesOwn.never (pt_cmpR op_lt (pv 2) (pe_callB (call_len_seqK (K := K) rfl) rfl T.n_len (by decide +kernel) (pa_cons (pv 1) pa_nil)) (nomark _)) (pss_cons (ps_set (i := 3) sc_l_met.nd rfl (Or.inl rfl) (pe_ix (ix_listK (K := K) rfl) (pv 1) (pv 2) (fun _ _ => rfl)))
        (pss_cons (ps_set (i := 2) sc_l_met.nd rfl (Or.inl rfl) (pe_op op_add (pv 2) pe_int))
        (pss_one (ps_for PassesOwn.never rfl (pi_list (pe_call G_l_leaving (hr.mono (by decide)) rfl T.m_l_leaving T.F_l_leaving.kp T.b_l_leaving .nil pass0 (pa_cons (pv 0) (pa_cons (pv 3) pa_nil)))) (pg_name (i := 4) sc_l_met.nd rfl (Or.inl rfl)) (pss_one (ps_if (pt_cmpR op_notIn_seq (pe_ix (ix_tupK (K := K) rfl) (pe_ix (ix_listK (K := K) rfl) (pv 0) (pv 4) (fun _ _ => rfl)) pe_int (fun _ _ => rfl)) (pv 1) rfl) (pss_one (ps_expr (pe_bm PySem.F.plainAttrs_list PySem.F.slot_list_append PySem.F.type_list_append mt_append (pv 1) (pa_cons (pe_ix (ix_tupK (K := K) rfl) (pe_ix (ix_listK (K := K) rfl) (pv 0) (pv 4) (fun _ _ => rfl)) pe_int (fun _ _ => rfl)) pa_nil)))) pss_nil)))))))
        (pss_one (ps_ret (pe_callB cr_sortedI rfl T.n_sorted (by decide +kernel) (pa_cons (pv 1) pa_nil))))))), ?_⟩
    refine ⟨le_size (by decide), fun F hF => ?_⟩
    have sF := Same.new (.lst [V.int 0]) hF
    have nFa : F ≠ a := by
      obtain ⟨us, h1, _⟩ := harc
      exact hp_ne h1 hF
    refine while_by (fun σ H' => ∃ (fs : List Nat) (turn : Nat) (v3 v4 : Option V), σ = [some (.ref a), some (.ref F), some (.int (turn : Int)), v3, v4] ∧ H' F = some (.lst (nats fs)) ∧ Same H H' ∧ Going as fs turn)
      (fun σ H' => match σ with | [_, _, some (.int t), _, _] => 64 - t.toNat | _ => 0) ?_ ?_ ?_
    · exact ⟨[0], 0, none, none, rfl, upd_same, sF, by simp, by simp, fun x hx => by rw [List.mem_singleton.mp hx]; exact .zero, by simp, fun j g hj => absurd hj (Nat.not_lt_zero _)⟩
    · rintro σ H1 ⟨fs, turn, v3, v4, rfl, hfs, sm, G⟩
      have arc1 := harc.same sm
      have hlen : fs.length ≤ 64 := nodup_le 64 fs G.nd fun x hx => by have := (G.reach x hx).le hok; omega
      refine ⟨_, rfl, _, rfl, F, _, rfl, .inl (SqL.of hfs), _, _, rfl, rfl, _, rfl, ?_⟩
      refine ite2 (fun c => ?_) (fun c => ?_)
      · have c1 : turn < fs.length := by
          have q := of_decide_eq_true c
          simp [nats] at q
          exact q
        refine ⟨_, rfl, _, rfl, F, _, _, _, rfl, rfl, SqL.of hfs, atI_nat (by rw [List.getElem?_map, List.getElem?_eq_getElem c1]; rfl), ?_⟩
        refine ⟨_, rfl, _, _, rfl, rfl, ?_⟩
        refine ⟨_, rfl, _, rfl, a, as, fs[turn], rfl, arc1, hok.1, fun H2 L s2 hL hLs => ?_⟩
        have nLF : L ≠ F := hp_ne hfs hL
        have hL0 : H L = none := sm.free hL
        have ett : ((turn : Nat) : Int) + 1 = ((turn + 1 : Nat) : Int) := by omega
        refine ⟨L, rfl, ⟨_, SqL.of hLs⟩, for_list (K := K) (a := L) (xs := nats (leav as fs[turn])) (fun i σ H' => ∃ (gs : List Nat) (v4 : Option V), σ = [some (.ref a), some (.ref F), some (.int ((turn + 1 : Nat) : Int)), some (.int (fs[turn] : Int)), v4] ∧ H' F = some (.lst (nats gs)) ∧ H' L = some (.lst (nats (leav as fs[turn]))) ∧ Same H H' ∧
          gs.Nodup ∧ (∃ suf, gs = fs ++ suf) ∧ (∀ x ∈ gs, Reach as x) ∧ ∀ j n, j < i → (leav as fs[turn])[j]? = some n → goalAt as n ∈ gs) ?_ ?_ ?_ ?_⟩
        · exact ⟨fs, v4, by rw [← ett]; rfl, s2 _ _ hfs, hLs, sm.trans s2, G.nd, ⟨[], by simp⟩, G.reach, fun j n hj => absurd hj (Nat.not_lt_zero _)⟩
        · rintro i σ H3 _ ⟨gs, v4, rfl, hgs, hL3, s3, _⟩
          exact SqL.of hL3
        · rintro i y σ H3 hy ⟨gs, v4, rfl, hgs, hL3, s3, nd, ⟨suf, hsuf⟩, hreach, hdone⟩
          rw [List.getElem?_map] at hy
          cases en : (leav as fs[turn])[i]? with
          | none => rw [en] at hy; cases hy
          | some n =>
            rw [en] at hy
            cases hy
            obtain ⟨b, hb, hbg⟩ := leav_mem (List.mem_of_getElem? en)
            have hn : n < as.length := (List.getElem?_eq_some_iff.mp hb).1
            obtain ⟨us, ha, hus⟩ := harc
            obtain ⟨t, hut, htt⟩ := hus.2 n b hb
            have hg := goalAt_eq hb
            have hrb : Reach as b.2.2 := .step (List.mem_of_getElem? hb) (by rw [hbg]; exact G.reach _ (List.getElem_mem c1))
            have hlen2 : gs.length ≤ 64 := nodup_le 64 gs nd fun x hx => by have := (hreach x hx).le hok; omega
            refine ⟨_, rfl, _, rfl, a, us, _, _, rfl, rfl, SqL.of (s3 _ _ ha), atI_nat hut, t, _, _, _, rfl, rfl, SqT.of (s3 _ _ htt), rfl, _, rfl, F, _, rfl, .inl (SqL.of hgs), rfl, flat_nats _, _, rfl, ?_⟩
            rw [if_pos rfl, inV_nats]
            refine ite2 (fun c => ?_) (fun c => ?_)
            · have cn : b.2.2 ∉ gs := by simpa using c
              refine ⟨_, rfl, .inl ⟨rfl, _, SqL.of hgs⟩, _, rfl, _, rfl, a, us, _, _, rfl, rfl, SqL.of (s3 _ _ ha), atI_nat hut, t, _, _, _, rfl, rfl, SqT.of (s3 _ _ htt), rfl, F, _, _, rfl, rfl, hgs, lt_size (by rw [List.length_map]; omega), ?_⟩
              refine ⟨gs ++ [b.2.2], _, rfl, by rw [upd_same]; simp [nats], by rw [upd_ne nLF]; exact hL3, s3.updNew hF, ?_, ⟨suf ++ [b.2.2], by rw [hsuf]; simp⟩, ?_, ?_⟩
              · rw [List.nodup_append]
                exact ⟨nd, by simp, fun x hx y hy => by rw [List.mem_singleton.mp hy]; exact fun z => cn (z ▸ hx)⟩
              · intro x hx
                rcases List.mem_append.mp hx with h | h
                · exact hreach x h
                · rw [List.mem_singleton.mp h]; exact hrb
              · intro j m hj hm
                by_cases cj : j < i
                · exact List.mem_append_left _ (hdone j m cj hm)
                · have : j = i := by omega
                  subst this
                  rw [en] at hm
                  cases hm
                  rw [hg]
                  simp
            · have cn : b.2.2 ∈ gs := by simpa using c
              refine ⟨gs, _, rfl, hgs, hL3, s3, nd, ⟨suf, hsuf⟩, hreach, fun j m hj hm => ?_⟩
              by_cases cj : j < i
              · exact hdone j m cj hm
              · have : j = i := by omega
                subst this
                rw [en] at hm
                cases hm
                rw [hg]
                exact cn
        · rintro σ H3 ⟨gs, v4, rfl, hgs, hL3, s3, nd, ⟨suf, hsuf⟩, hreach, hdone⟩
          refine ⟨⟨gs, turn + 1, _, v4, rfl, hgs, s3, nd, by rw [hsuf]; exact List.mem_append_left _ G.zero, hreach, by rw [hsuf, List.length_append]; omega, fun j g hj hg b hb hbg => ?_⟩, ?_⟩
          · by_cases cj : j < turn
            · rw [hsuf] at hg
              rw [List.getElem?_append_left (by omega)] at hg
              rw [hsuf]
              exact List.mem_append_left _ (G.done j g cj hg b hb hbg)
            · have : j = turn := by omega
              subst this
              rw [hsuf, List.getElem?_append_left c1, List.getElem?_eq_getElem c1] at hg
              cases hg
              obtain ⟨n, hn, e⟩ := List.mem_iff_getElem.mp hb
              have hnb : as[n]? = some b := by rw [List.getElem?_eq_getElem hn, e]
              have hmem : n ∈ leav as fs[j] := by
                unfold leav leavTo
                exact List.mem_filter.mpr ⟨List.mem_range.mpr hn, by rw [hnb]; simp [hbg]⟩
              obtain ⟨q, hq, eq⟩ := List.mem_iff_getElem.mp hmem
              have := hdone q n (by simpa [nats] using hq) (by rw [List.getElem?_eq_getElem hq, eq])
              rwa [goalAt_eq hnb] at this
          · show 64 - (((turn + 1 : Nat) : Int)).toNat < 64 - ((turn : Nat) : Int).toNat
            omega
      · have c1 : turn = fs.length := by
          have q : ¬ ((turn : Int) < ((nats fs).length : Nat)) := fun z => c (decide_eq_true z)
          simp [nats] at q
          have := G.le
          omega
        subst c1
        refine ⟨_, rfl, F, fs.map fun n : Nat => (n : Int), rfl, by rw [← nats_map]; exact SqL.of hfs, fun ns' p hperm hpw hp => ?_⟩
        obtain ⟨ms, e, hlt, hmem⟩ := sorted_nats hperm hpw G.nd
        exact k _ p ms (sm.trans (Same.new _ hp)) (sm.free hp) (by rw [upd_same, e]) hlt fun x => (hmem x).trans (G.all x)
    · rintro σ H1 Q1 Q2 hq h
      obtain ⟨v, e1, w1, e2, p1, ys, e3, e4, i, j, e5, e6, b, e7, h⟩ := h
      exact ⟨v, e1, w1, e2, p1, ys, e3, e4, i, j, e5, e6, b, e7, hq _ _ h⟩
end
end J


set_option Elab.async false
set_option linter.all false
set_option maxRecDepth 100000
set_option maxHeartbeats 4000000
namespace J
open PySem L2
/-- what stands while the program's met goes: what was seen, what waits, what is at hand -/
structure MetG (as : List Arc) (fs ws : List Nat) : Prop where
  nd : fs.Nodup
  zero : 0 ∈ fs
  reach : ∀ x ∈ fs, Reach as x
  sub : ∀ x ∈ ws, x ∈ fs
  len : ws.length ≤ fs.length
  done : ∀ g ∈ fs, g ∉ ws → ∀ a ∈ as, a.1 = g → a.2.2 ∈ fs
theorem MetG.all {as : List Arc} {fs : List Nat} (h : MetG as fs []) (x : Nat) : x ∈ fs ↔ Reach as x := by
  refine ⟨h.reach x, fun r => ?_⟩
  induction r with
  | zero => exact h.zero
  | step ha _ ih => exact h.done _ ih (by simp) _ ha rfl
def setOf (fs : List Nat) : Int → Bool := fun k => decide (k ∈ fs.map fun n : Nat => (n : Int))
theorem setOf_nat (fs : List Nat) (n : Nat) : setOf fs (n : Int) = decide (n ∈ fs) := by
  unfold setOf
  congr 1
  simp only [List.mem_map, eq_iff_iff]
  constructor
  · rintro ⟨m, h, e⟩
    have : m = n := by omega
    exact this ▸ h
  · intro h
    exact ⟨n, h, rfl⟩
theorem setOf_zero : setOf [0] = fun j : Int => decide (j = 0) := by
  funext j
  unfold setOf
  simp
theorem setOf_add {fs : List Nat} {n : Nat} : (fun j : Int => setOf fs j || decide (j = (n : Int))) = setOf (fs ++ [n]) := by
  funext j
  unfold setOf
  rw [List.map_append, ← Bool.decide_or]
  congr 1
  simp [List.mem_append]
theorem nats_isEmpty (l : List Nat) : (nats l).isEmpty = l.isEmpty := by cases l <;> rfl
theorem nats_append (a b : List Nat) : nats (a ++ b) = nats a ++ nats b := by simp [nats]
theorem snoc_of {l : List Nat} (h : l ≠ []) : ∃ r x, l = r ++ [x] := ⟨l.dropLast, l.getLast h, (List.dropLast_concat_getLast h).symm⟩
/-- the same in the middle of a turn: place is at hand, the arcs before i are done -/
structure MetI (as : List Arc) (fs ws : List Nat) (place i : Nat) : Prop where
  nd : fs.Nodup
  zero : 0 ∈ fs
  here : place ∈ fs
  reach : ∀ x ∈ fs, Reach as x
  sub : ∀ x ∈ ws, x ∈ fs
  len : ws.length + 1 ≤ fs.length
  done : ∀ g ∈ fs, g ∉ ws → g ≠ place → ∀ a ∈ as, a.1 = g → a.2.2 ∈ fs
  turn : ∀ j a, j < i → as[j]? = some a → a.1 = place → a.2.2 ∈ fs
theorem MetG.begin {as : List Arc} {fs r : List Nat} {p : Nat} (h : MetG as fs (r ++ [p])) : MetI as fs r p 0 :=
  ⟨h.nd, h.zero, h.sub p (by simp), h.reach, fun x hx => h.sub x (by simp [hx]), by have := h.len; simp at this; omega,
    fun g hg hn hp => h.done g hg (by simp [hn, hp]), fun j a hj => absurd hj (Nat.not_lt_zero _)⟩
theorem MetI.end {as : List Arc} {fs ws : List Nat} {p : Nat} (h : MetI as fs ws p as.length) : MetG as fs ws :=
  ⟨h.nd, h.zero, h.reach, h.sub, by have := h.len; omega, fun g hg hn a ha e => by
    by_cases c : g = p
    · obtain ⟨j, hj, q⟩ := List.mem_iff_getElem.mp ha
      exact h.turn j a hj (by rw [List.getElem?_eq_getElem hj, q]) (e.trans c)
    · exact h.done g hg hn c a ha e⟩
theorem MetI.skip {as : List Arc} {fs ws : List Nat} {p i : Nat} (h : MetI as fs ws p i) (q : ∀ a, as[i]? = some a → a.1 = p → a.2.2 ∈ fs) : MetI as fs ws p (i + 1) :=
  ⟨h.nd, h.zero, h.here, h.reach, h.sub, h.len, h.done, fun j a hj ha e => by
    by_cases c : j < i
    · exact h.turn j a c ha e
    · have : j = i := by omega
      subst this
      exact q a ha e⟩
theorem MetI.more {as : List Arc} {fs ws : List Nat} {p i : Nat} {b : Arc} (h : MetI as fs ws p i) (hb : as[i]? = some b) (e : b.1 = p) (n : b.2.2 ∉ fs) : MetI as (fs ++ [b.2.2]) (ws ++ [b.2.2]) p (i + 1) := by
  have hm : b ∈ as := List.mem_of_getElem? hb
  have hr : Reach as b.2.2 := .step hm (by rw [e]; exact h.reach _ h.here)
  refine ⟨?_, by simp [h.zero], by simp [h.here], ?_, ?_, ?_, ?_, ?_⟩
  · rw [List.nodup_append]
    exact ⟨h.nd, by simp, fun x hx y hy => by rw [List.mem_singleton.mp hy]; exact fun z => n (z ▸ hx)⟩
  · intro x hx
    rcases List.mem_append.mp hx with q | q
    · exact h.reach x q
    · rw [List.mem_singleton.mp q]; exact hr
  · intro x hx
    rcases List.mem_append.mp hx with q | q
    · exact List.mem_append_left _ (h.sub x q)
    · exact List.mem_append_right _ q
  · have := h.len
    simp
    omega
  · intro g hg hn hp a ha q
    rcases List.mem_append.mp hg with z | z
    · exact List.mem_append_left _ (h.done g z (fun y => hn (List.mem_append_left _ y)) hp a ha q)
    · exact absurd (List.mem_append_right _ z) hn
  · intro j a hj ha q
    by_cases c : j < i
    · exact List.mem_append_left _ (h.turn j a c ha q)
    · have : j = i := by omega
      subst this
      rw [hb] at ha
      cases ha
      simp
/-- the sorted ints of a set of naturals -/
theorem set_nats {fs : List Nat} {ns : List Int} (h : ns.Pairwise (· < ·)) (hm : ∀ k : Int, k ∈ ns ↔ setOf fs k = true) : ∃ ms : List Nat, ns.map V.int = nats ms ∧ ms.Pairwise (· < ·) ∧ ∀ x, x ∈ ms ↔ x ∈ fs := by
  have hnn : ∀ i ∈ ns, ∃ n : Nat, i = (n : Int) := fun i hi => by
    have q := (hm i).mp hi
    unfold setOf at q
    obtain ⟨n, _, e⟩ := List.mem_map.mp (of_decide_eq_true q)
    exact ⟨n, e.symm⟩
  have e : ns = (ns.map Int.toNat).map fun n : Nat => (n : Int) := by
    rw [List.map_map]
    conv => lhs; rw [← List.map_id ns]
    refine List.map_congr_left fun i hi => ?_
    obtain ⟨n, rfl⟩ := hnn i hi
    rfl
  refine ⟨ns.map Int.toNat, by rw [nats_map, ← e], ?_, fun x => ?_⟩
  · rw [List.pairwise_map]
    refine List.Pairwise.imp_of_mem (fun {a b} ha hb h => ?_) h
    obtain ⟨n, rfl⟩ := hnn a ha
    obtain ⟨m, rfl⟩ := hnn b hb
    omega
  · rw [List.mem_map]
    constructor
    · rintro ⟨i, hi, rfl⟩
      obtain ⟨n, rfl⟩ := hnn i hi
      have q := (hm n).mp hi
      rw [setOf_nat] at q
      exact of_decide_eq_true q
    · intro hx
      exact ⟨(x : Int), (hm x).mpr (by rw [setOf_nat]; exact decide_eq_true hx), by simp⟩
def spPMet (C : Addr) : Sp := fun vs H Q _ => ∃ (q : Addr) (sg : List Nat) (us : List V) (as : List Arc), vs = [.ref q] ∧ LoomAt C H q sg us as ∧
  ∀ (H' : Hp) (p : Addr) (ms : List Nat), Same H H' → H p = none → H' p = some (.lst (nats ms)) → ms.Pairwise (· < ·) → (∀ x, x ∈ ms ↔ Reach as x) → Q (.ref p) H'
section
variable {P : Program} {w : World} {K : PySem.W.Frag} {mg : Str → Option Value} {base : Heap}
end
end J


set_option Elab.async false
set_option linter.all false
set_option maxRecDepth 100000
set_option maxHeartbeats 4000000
namespace J
open PySem L2
theorem LoomAt.same {C : Addr} {H H' : Hp} {p : Addr} {sg : List Nat} {us : List V} {as : List Arc} (h : LoomAt C H p sg us as) (s : Same H H') : LoomAt C H' p sg us as := by
  obtain ⟨dx, T, h1, h2, h3, h4, h5⟩ := h
  exact ⟨dx, T, s _ _ h1, s _ _ h2, h3.same s, h4, h5⟩
theorem S_inj {u v : List Nat} (h : SX.S u = SX.S v) : u = v := by
  unfold SX.S at h
  injection h with h
  simpa using h
end J


set_option Elab.async false
set_option linter.all false
set_option maxRecDepth 100000
set_option maxHeartbeats 4000000
namespace J
open PySem L2
/-! ### arcs by their states -/
def lvs (g : Nat) : Nat → List Arc → List (Nat × List Nat × Nat)
  | _, [] => []
  | n, a :: r => if a.1 = g then (n, a.2.1, a.2.2) :: lvs g (n + 1) r else lvs g (n + 1) r
theorem lvs_snoc (g : Nat) (b : Arc) : ∀ (as : List Arc) (n : Nat), lvs g n (as ++ [b]) = lvs g n as ++ (if b.1 = g then [(n + as.length, b.2.1, b.2.2)] else [])
  | [], n => by
    by_cases c : b.1 = g
    · simp [lvs, c]
    · simp [lvs, c]
  | a :: r, n => by
    have ih := lvs_snoc g b r (n + 1)
    have e : n + 1 + r.length = n + (a :: r).length := by rw [List.length_cons]; omega
    rw [e] at ih
    show (if a.1 = g then (n, a.2.1, a.2.2) :: lvs g (n + 1) (r ++ [b]) else lvs g (n + 1) (r ++ [b])) = (if a.1 = g then (n, a.2.1, a.2.2) :: lvs g (n + 1) r else lvs g (n + 1) r) ++ _
    rw [ih]
    by_cases c : a.1 = g
    · rw [if_pos c, if_pos c]; rfl
    · rw [if_neg c, if_neg c]
theorem lvs_len (g : Nat) : ∀ (as : List Arc) (n : Nat), (lvs g n as).length ≤ as.length
  | [], _ => Nat.zero_le _
  | a :: r, n => by
    have ih := lvs_len g r (n + 1)
    show (if a.1 = g then (n, a.2.1, a.2.2) :: lvs g (n + 1) r else lvs g (n + 1) r).length ≤ r.length + 1
    by_cases c : a.1 = g
    · rw [if_pos c, List.length_cons]; omega
    · rw [if_neg c]; omega
def entHO (e : Nat × List Nat × Nat) : HO := .tup [.int (e.1 : Nat), .str (SX.S e.2.1), .int (e.2.2 : Nat)]
def Lv (H : Hp) (us : List V) (ls : List (Nat × List Nat × Nat)) : Prop := us.length = ls.length ∧ ∀ (i : Nat) e, ls[i]? = some e → ∃ t, us[i]? = some (.ref t) ∧ H t = some (entHO e)
theorem Lv.same {H H' : Hp} {us : List V} {ls : List (Nat × List Nat × Nat)} (h : Lv H us ls) (s : Same H H') : Lv H' us ls := ⟨h.1, fun i e he => by
  obtain ⟨t, h1, h2⟩ := h.2 i e he
  exact ⟨t, h1, s _ _ h2⟩⟩
/-- what is no tuple may change -/
theorem Lv.to {H H' : Hp} {us : List V} {ls : List (Nat × List Nat × Nat)} (h : Lv H us ls) (s : ∀ t xs, H t = some (.tup xs) → H' t = some (.tup xs)) : Lv H' us ls := ⟨h.1, fun i e he => by
  obtain ⟨t, h1, h2⟩ := h.2 i e he
  exact ⟨t, h1, s _ _ h2⟩⟩
theorem Lv.snoc {H : Hp} {us : List V} {ls : List (Nat × List Nat × Nat)} (h : Lv H us ls) {t : Addr} {e : Nat × List Nat × Nat} (ht : H t = some (entHO e)) : Lv H (us ++ [.ref t]) (ls ++ [e]) := by
  refine ⟨by rw [List.length_append, List.length_append, h.1]; rfl, fun i f hf => ?_⟩
  by_cases c : i < ls.length
  · rw [List.getElem?_append_left c] at hf
    obtain ⟨u, h1, h2⟩ := h.2 i f hf
    exact ⟨u, by rw [List.getElem?_append_left (by rw [h.1]; exact c)]; exact h1, h2⟩
  · have hi : i = ls.length := by
      have := (List.getElem?_eq_some_iff.mp hf).1
      rw [List.length_append, List.length_singleton] at this
      omega
    subst hi
    rw [List.getElem?_append_right (Nat.le_refl _)] at hf
    simp at hf
    subst hf
    exact ⟨t, by rw [List.getElem?_append_right (by rw [h.1]; exact Nat.le_refl _), h.1]; simp, ht⟩
/-- the table of the arcs at d; all of it is new since H0 -/
def TabS (H0 H : Hp) (d : Addr) (as : List Arc) : Prop := ∃ (kvs : List (Key × V)) (at_ : Nat → Addr), H0 d = none ∧ H d = some (.dK kvs) ∧ kvs.length ≤ as.length ∧
  (∀ g, lvs g 0 as = [] → valV kvs (.inl (g : Int)) = none) ∧
  (∀ g, lvs g 0 as ≠ [] → valV kvs (.inl (g : Int)) = some (.ref (at_ g)) ∧ H0 (at_ g) = none ∧ ∃ us, H (at_ g) = some (.lst us) ∧ Lv H us (lvs g 0 as)) ∧
  (∀ g g', lvs g 0 as ≠ [] → lvs g' 0 as ≠ [] → at_ g = at_ g' → g = g')
theorem TabS.same {H0 H H' : Hp} {d : Addr} {as : List Arc} (h : TabS H0 H d as) (s : Same H H') : TabS H0 H' d as := by
  obtain ⟨kvs, at_, h0, h1, h2, h3, h4, h5⟩ := h
  refine ⟨kvs, at_, h0, s _ _ h1, h2, h3, fun g hg => ?_, h5⟩
  obtain ⟨e1, e2, us, e3, e4⟩ := h4 g hg
  exact ⟨e1, e2, us, s _ _ e3, e4.same s⟩
def spArcsBy (C : Addr) : Sp := fun vs H Q _ => ∃ (q : Addr) (sg : List Nat) (us : List V) (as : List Arc), vs = [.ref q] ∧ LoomAt C H q sg us as ∧ ∀ (H' : Hp) (d : Addr), Same H H' → TabS H H' d as → Q (.ref d) H'
section
variable {P : Program} {w : World} {K : PySem.W.Frag} {mg : Str → Option Value} {base : Heap}
end
end J


set_option Elab.async false
set_option linter.all false
set_option maxRecDepth 100000
set_option maxHeartbeats 4000000
namespace J
open PySem L2
/-- w stands at the front of x -/
def pre (x w : List Nat) : Bool := x.take w.length == w
theorem starts0_S (x w : List Nat) : Txt.startswith (SX.S x) (SX.S w) = pre x w := by
  unfold Txt.startswith pre
  rw [PySem.StrLaws.subAt_eq, SX.S_len, SX.S_len]
  show (decide (0 + w.length ≤ x.length) && ((x.drop 0).take w.length == w)) = _
  rw [List.drop_zero]
  cases c : (x.take w.length == w) with
  | false => simp
  | true =>
    have e := congrArg List.length (eq_of_beq c)
    rw [List.length_take] at e
    simp
    omega
theorem cutS_from (x : List Nat) (k : Nat) : cutS (SX.S x) (some (k : Int)) none = SX.S (x.drop k) := by
  unfold cutS
  rw [HT.sIx_nat, HT.sIx_none, SX.S_len]
  show SX.S ((x.drop (min k x.length)).take (x.length - min k x.length)) = _
  congr 1
  by_cases c : k ≤ x.length
  · rw [Nat.min_eq_left c, List.take_of_length_le (by rw [List.length_drop]; exact Nat.le_refl _)]
  · rw [Nat.min_eq_right (by omega), List.drop_eq_nil_of_le (Nat.le_refl _), List.drop_eq_nil_of_le (by omega), List.take_nil]
/-- what is left between two rows: the state behind, the state ahead, the signs between -/
abbrev Rest := Nat × Nat × List Nat
def restHO (r : Rest) : HO := .tup [.int (r.1 : Nat), .int (r.2.1 : Nat), .str (SX.S r.2.2)]
abbrev Step := Rest × Nat × Nat
def stepOf (r : Rest) (e : Nat × List Nat × Nat) : List Step :=
  if pre r.2.2 e.2.1 = true then [((e.2.2, r.2.1, r.2.2.drop e.2.1.length), e.1, 0)] else if pre e.2.1 r.2.2 = true then [((r.2.1, e.2.2, e.2.1.drop r.2.2.length), e.1, 1)] else []
def stepsL (as : List Arc) (r : Rest) : List Step := (lvs r.1 0 as).flatMap (stepOf r)
def StepsAt (H : Hp) (us : List V) (ss : List Step) : Prop := us.length = ss.length ∧ ∀ (i : Nat) s, ss[i]? = some s → ∃ t rt, us[i]? = some (.ref t) ∧ H t = some (.tup [.ref rt, .int (s.2.1 : Nat), .int (s.2.2 : Nat)]) ∧ H rt = some (restHO s.1)
theorem StepsAt.to {H H' : Hp} {us : List V} {ss : List Step} (h : StepsAt H us ss) (s : ∀ t xs, H t = some (.tup xs) → H' t = some (.tup xs)) : StepsAt H' us ss := ⟨h.1, fun i e he => by
  obtain ⟨t, rt, h1, h2, h3⟩ := h.2 i e he
  exact ⟨t, rt, h1, s _ _ h2, s _ _ h3⟩⟩
theorem StepsAt.same {H H' : Hp} {us : List V} {ss : List Step} (h : StepsAt H us ss) (s : Same H H') : StepsAt H' us ss := h.to fun _ _ e => s _ _ e
theorem StepsAt.nil (H : Hp) : StepsAt H [] [] := ⟨rfl, fun i s h => by simp at h⟩
theorem StepsAt.snoc {H : Hp} {us : List V} {ss : List Step} (h : StepsAt H us ss) {t rt : Addr} {s : Step} (ht : H t = some (.tup [.ref rt, .int (s.2.1 : Nat), .int (s.2.2 : Nat)])) (hr : H rt = some (restHO s.1)) : StepsAt H (us ++ [.ref t]) (ss ++ [s]) := by
  refine ⟨by rw [List.length_append, List.length_append, h.1]; rfl, fun i f hf => ?_⟩
  by_cases c : i < ss.length
  · rw [List.getElem?_append_left c] at hf
    obtain ⟨u, ru, h1, h2, h3⟩ := h.2 i f hf
    exact ⟨u, ru, by rw [List.getElem?_append_left (by rw [h.1]; exact c)]; exact h1, h2, h3⟩
  · have hi : i = ss.length := by
      have := (List.getElem?_eq_some_iff.mp hf).1
      rw [List.length_append, List.length_singleton] at this
      omega
    subst hi
    rw [List.getElem?_append_right (Nat.le_refl _)] at hf
    simp at hf
    subst hf
    exact ⟨t, rt, by rw [List.getElem?_append_right (by rw [h.1]; exact Nat.le_refl _), h.1]; simp, ht, hr⟩
theorem step_one (r : Rest) (e : Nat × List Nat × Nat) : (stepOf r e).length ≤ 1 := by
  unfold stepOf
  split
  · simp
  · split <;> simp
theorem flat_take {α β : Type} (f : α → List β) {l : List α} {i : Nat} {x : α} (h : l[i]? = some x) : (l.take (i + 1)).flatMap f = (l.take i).flatMap f ++ f x := by
  rw [← take_snoc h, List.flatMap_append]
  simp
theorem flat_len1 {α β : Type} (f : α → List β) (h : ∀ x, (f x).length ≤ 1) : ∀ l : List α, (l.flatMap f).length ≤ l.length
  | [] => Nat.zero_le _
  | a :: r => by
    have := flat_len1 f h r
    have := h a
    rw [List.flatMap_cons, List.length_append, List.length_cons]
    omega
theorem lvs_all (g : Nat) {as : List Arc} (h : ∀ a ∈ as, a.2.1.length ≤ 12) : ∀ (n : Nat), ∀ e ∈ lvs g n as, e.2.1.length ≤ 12 := by
  induction as with
  | nil => intro n e he; cases he
  | cons a r ih =>
    intro n e he
    have ih' := ih fun b hb => h b (List.mem_cons_of_mem _ hb)
    have he' : e ∈ (if a.1 = g then (n, a.2.1, a.2.2) :: lvs g (n + 1) r else lvs g (n + 1) r) := he
    by_cases c : a.1 = g
    · rw [if_pos c] at he'
      rcases List.mem_cons.mp he' with z | z
      · rw [z]; exact h a (by simp)
      · exact ih' _ e z
    · rw [if_neg c] at he'
      exact ih' _ e he'
def spSteps (_K : PySem.W.Frag) : Sp := fun vs H Q _ => ∃ (d rp : Addr) (H0 : Hp) (as : List Arc) (r : Rest), vs = [.ref d, .ref rp] ∧ TabS H0 H d as ∧ as.length ≤ 200 ∧ (∀ a ∈ as, a.2.1.length ≤ 12) ∧ r.2.2.length ≤ 1000 ∧ H rp = some (restHO r) ∧
  ∀ (H' : Hp) (q : Addr) us, Same H H' → H q = none → H' q = some (.lst us) → StepsAt H' us (stepsL as r) → Q (.ref q) H'
section
variable {P : Program} {w : World} {K : PySem.W.Frag} {mg : Str → Option Value} {base : Heap}
end
end J


set_option Elab.async false
set_option linter.all false
set_option maxRecDepth 100000
set_option maxHeartbeats 4000000
namespace J
open PySem L2
def matchAt (x w : List Nat) (i : Nat) : Bool := (x.drop i).take w.length == w
theorem matchAt_le {x w : List Nat} {i : Nat} (h : matchAt x w i = true) (hi : i ≤ x.length) : i + w.length ≤ x.length := by
  unfold matchAt at h
  have e := congrArg List.length (eq_of_beq h)
  rw [List.length_take, List.length_drop] at e
  omega
theorem starts_S {x w : List Nat} {i : Nat} (hi : i ≤ x.length) (hw : 1 ≤ w.length) : Txt.startswith3 (SX.S x) (SX.S w) (i : Int) = matchAt x w i := by
  have ef : fromIndex (SX.S x).length (i : Int) = i := by
    unfold fromIndex
    rw [if_neg (by omega)]
    omega
  unfold Txt.startswith3
  rw [ef, PySem.StrLaws.subAt_eq, SX.S_len, SX.S_len]
  show (decide (i + w.length ≤ x.length) && ((x.drop i).take w.length == w)) = matchAt x w i
  unfold matchAt
  cases c : ((x.drop i).take w.length == w) with
  | false => simp
  | true =>
    have := matchAt_le (x := x) (w := w) (i := i) c hi
    simp [this]
end J


set_option Elab.async false
set_option linter.all false
set_option maxRecDepth 100000
set_option maxHeartbeats 4000000
namespace J
open PySem L2
/-! ### rows that read or cover a text -/
/-- whether a text can be read from a state on; b: a row may end behind it -/
inductive Gd (as : List Arc) (b : Bool) : Nat → List Nat → Prop
  | nil {g : Nat} : Gd as b g []
  | go {g i : Nat} {a : Arc} {u : List Nat} (h : as[i]? = some a) (e : a.1 = g) (l : a.2.1.length < u.length) (p : a.2.1 <+: u) (r : Gd as b a.2.2 (u.drop a.2.1.length)) : Gd as b g u
  | fin {g i : Nat} {a : Arc} {u : List Nat} (h : as[i]? = some a) (e : a.1 = g) (l : u.length ≤ a.2.1.length) (n : u ≠ []) (p : u <+: a.2.1) (r : b = true ∨ a.2.1.length = u.length) : Gd as b g u
def Tk (as : List Arc) (b : Bool) (u : List Nat) (a : Arc) : Prop := (a.2.1.length < u.length ∧ a.2.1 <+: u ∧ Gd as b a.2.2 (u.drop a.2.1.length)) ∨ (u.length ≤ a.2.1.length ∧ u <+: a.2.1 ∧ (b = true ∨ a.2.1.length = u.length))
/-- an arc that leaves the state and leads to the text's end -/
def Lvv (as : List Arc) (b : Bool) (u : List Nat) (g i : Nat) : Prop := ∃ a, as[i]? = some a ∧ a.1 = g ∧ Tk as b u a
open Classical in
noncomputable def livI (as : List Arc) (b : Bool) (u : List Nat) (g n : Nat) : List Nat := (List.range n).filter fun i => decide (Lvv as b u g i)
noncomputable def liv (as : List Arc) (b : Bool) (u : List Nat) (g : Nat) : List Nat := livI as b u g as.length
theorem mem_livI {as : List Arc} {b : Bool} {u : List Nat} {g n i : Nat} : i ∈ livI as b u g n ↔ i < n ∧ Lvv as b u g i := by
  classical
  unfold livI
  rw [List.mem_filter, List.mem_range, decide_eq_true_iff]
theorem mem_liv {as : List Arc} {b : Bool} {u : List Nat} {g i : Nat} : i ∈ liv as b u g ↔ Lvv as b u g i := by
  unfold liv
  rw [mem_livI]
  exact ⟨fun h => h.2, fun h => ⟨by obtain ⟨a, e, _⟩ := h; exact (List.getElem?_eq_some_iff.mp e).1, h⟩⟩
theorem livI_succ {as : List Arc} {b : Bool} {u : List Nat} {g n : Nat} : (Lvv as b u g n → livI as b u g (n + 1) = livI as b u g n ++ [n]) ∧ (¬ Lvv as b u g n → livI as b u g (n + 1) = livI as b u g n) := by
  classical
  unfold livI
  rw [List.range_succ, List.filter_append]
  constructor
  · intro h
    rw [List.filter_cons_of_pos (by simpa using h)]
    rfl
  · intro h
    rw [List.filter_cons_of_neg (by simpa using h)]
    simp
theorem livI_len (as : List Arc) (b : Bool) (u : List Nat) (g n : Nat) : (livI as b u g n).length ≤ n := by
  unfold livI
  exact Nat.le_trans (List.length_filter_le _ _) (by simp)
theorem gd_tk {as : List Arc} {b : Bool} {u : List Nat} {g : Nat} (hu : u ≠ []) : Gd as b g u ↔ ∃ i, Lvv as b u g i := by
  constructor
  · intro h
    cases h with
    | nil => exact absurd rfl hu
    | @go _ i a _ h e l p r => exact ⟨i, a, h, e, .inl ⟨l, p, r⟩⟩
    | @fin _ i a _ h e l n p r => exact ⟨i, a, h, e, .inr ⟨l, p, r⟩⟩
  · rintro ⟨i, a, h, e, ⟨l, p, r⟩ | ⟨l, p, r⟩⟩
    · exact .go h e l p r
    · exact .fin h e l hu p r
theorem gd_liv {as : List Arc} {b : Bool} {u : List Nat} {g : Nat} (hu : u ≠ []) : Gd as b g u ↔ liv as b u g ≠ [] := by
  rw [gd_tk hu]
  constructor
  · rintro ⟨i, h⟩ z
    have := mem_liv.mpr h
    rw [z] at this
    cases this
  · intro h
    obtain ⟨i, hi⟩ := List.exists_mem_of_ne_nil _ h
    exact ⟨i, mem_liv.mp hi⟩
/-! ### the table: a dict for each place -/
def LivAt (H : Hp) (d : Addr) (as : List Arc) (b : Bool) (u : List Nat) (n : Nat) : Prop := ∃ (kvs : List (Key × V)) (at_ : Nat → Addr), H d = some (.dK kvs) ∧ kvs.length ≤ n ∧
  (∀ g, livI as b u g n = [] → valV kvs (.inl (g : Int)) = none) ∧
  (∀ g, livI as b u g n ≠ [] → valV kvs (.inl (g : Int)) = some (.ref (at_ g)) ∧ H (at_ g) = some (.lst ((livI as b u g n).map fun i : Nat => V.int (i : Int)))) ∧
  (∀ g g', livI as b u g n ≠ [] → livI as b u g' n ≠ [] → at_ g = at_ g' → g = g')
def LivsAt (H : Hp) (ds : List Addr) (as : List Arc) (b : Bool) (t : List Nat) (m : Nat) : Prop := ∀ k, m ≤ k → k < t.length → ∃ d, ds[k]? = some d ∧ LivAt H d as b (t.drop k) as.length
theorem LivAt.exd {H H' : Hp} {d e : Addr} {as : List Arc} {b : Bool} {u : List Nat} {n : Nat} {kv : List (Key × V)} (h : LivAt H d as b u n) (he : H e = some (.dK kv)) (ne : d ≠ e) (x : ∀ c o, c ≠ e → H c = some o → H' c = some o) : LivAt H' d as b u n := by
  obtain ⟨kvs, at_, h1, h2, h3, h4, h5⟩ := h
  refine ⟨kvs, at_, x _ _ ne h1, h2, h3, fun g hg => ?_, h5⟩
  obtain ⟨q1, q2⟩ := h4 g hg
  exact ⟨q1, x _ _ (fun z => by rw [z, he] at q2; cases q2) q2⟩
theorem LivAt.same {H H' : Hp} {d : Addr} {as : List Arc} {b : Bool} {u : List Nat} {n : Nat} (h : LivAt H d as b u n) (s : Same H H') : LivAt H' d as b u n := by
  obtain ⟨kvs, at_, h1, h2, h3, h4, h5⟩ := h
  exact ⟨kvs, at_, s _ _ h1, h2, h3, fun g hg => ⟨(h4 g hg).1, s _ _ (h4 g hg).2⟩, h5⟩
theorem pre_iff' {x w : List Nat} : pre x w = true ↔ w <+: x := by
  unfold pre
  rw [beq_iff_eq]
  exact ⟨fun h => List.prefix_iff_eq_take.mpr h.symm, fun h => (List.prefix_iff_eq_take.mp h).symm⟩
theorem matchAt_iff {x w : List Nat} {i : Nat} : matchAt x w i = true ↔ w <+: x.drop i := by
  unfold matchAt
  rw [beq_iff_eq]
  exact ⟨fun h => List.prefix_iff_eq_take.mpr h.symm, fun h => (List.prefix_iff_eq_take.mp h).symm⟩
def spGoes : Sp := fun vs H Q _ => ∃ (t : List Nat) (at_ : Nat) (ar lv : Addr) (b : Bool) (a : Arc) (ds : List Addr) (as : List Arc), vs = [.str (SX.S t), .int (at_ : Int), .ref ar, .ref lv, .bl b] ∧ at_ < t.length ∧ t.length ≤ 2000 ∧ H ar = some (arcHO a) ∧
  H lv = some (.lst (ds.map V.ref)) ∧ LivsAt H ds as b t (at_ + 1) ∧ 1 ≤ a.2.1.length ∧ a.2.1.length ≤ 12 ∧ ∀ r : Bool, (r = true ↔ Tk as b (t.drop at_) a) → Q (.bl r) H
section
variable {P : Program} {w : World} {K : PySem.W.Frag} {mg : Str → Option Value} {base : Heap}
theorem ok_goes_on (T : Tx K mg) : FnOk P w K mg base CX0 1 T.f_goes_on T.fd_goes_on P_goes_on spGoes := by
  refine T.F_goes_on.ok sc_goes_on (fun vs H Q E h => ?_) (fun cdv A outer s H vs Q E hr h => ?_)
  · obtain ⟨t, at_, ar, lv, b, a, ds, as, rfl, _⟩ := h
    rfl
  · obtain ⟨t, at_, ar, lv, b, a, ds, as, rfl, hat, ht, har, hlv, hls, w1, w12, k⟩ := h
    refine ⟨_, (pss_cons (ps_asg (pv 2) (pg_tup rfl (pgs_cons (pg_name (i := 5) sc_goes_on.nd rfl (Or.inl rfl)) (pgs_cons (pg_name (i := 6) sc_goes_on.nd rfl (Or.inl rfl)) (pgs_cons (pg_name (i := 7) sc_goes_on.nd rfl (Or.inl rfl)) pgs_nil)))))
        (pss_cons (ps_set (i := 8) sc_goes_on.nd rfl (Or.inl rfl) (pe_op op_add (pv 1) (pe_callB call_len_str rfl T.n_len (by decide +kernel) (pa_cons (pv 6) pa_nil))))
        (pss_cons (ps_if (pt_cmpR op_lt (pv 8) (pe_callB call_len_str rfl T.n_len (by decide +kernel) (pa_cons (pv 0) pa_nil)) (nomark _)) (pss_one (ps_ret (pe_and (pe_bm PySem.F.plainAttrs_str PySem.F.slot_str_startswith PySem.F.type_str_startswith mt_startswith3 (pv 0) (pa_cons (pv 6) (pa_cons (pv 1) pa_nil))) (pe_one (pe_cmp (pc_din (hu_of hr) (pv 7) (pe_ix (ix_listK (K := K) rfl) (pv 3) (pv 8) (fun _ _ => rfl))) rfl))))) pss_nil)
        (pss_one (ps_ret (pe_and (pe_or (pv 4) (pe_one (pe_cmpR op_eq (pv 8) (pe_callB call_len_str rfl T.n_len (by decide +kernel) (pa_cons (pv 0) pa_nil)) (nomark _)))) (pe_one (pe_bm PySem.F.plainAttrs_str PySem.F.slot_str_startswith PySem.F.type_str_startswith mt_startswith (pv 6) (pa_cons (pe_slice sl_str (pv 0) (po_some (pv 1)) po_none) pa_nil))))))))), ?_⟩
    have hwl : (SX.S a.2.1).length ≤ sizeLine := le_size (by rw [SX.S_len]; omega)
    have htl : (SX.S t).length ≤ sizeLine := le_size (by rw [SX.S_len]; omega)
    refine ⟨_, rfl, ar, _, rfl, SqT.of har, rfl, _, _, rfl, _, _, rfl, _, _, rfl, rfl, ?_⟩
    refine ⟨_, rfl, _, rfl, _, rfl, hwl, _, _, rfl, rfl, ?_⟩
    have e1 : ((at_ : Int) + ((SX.S a.2.1).length : Nat)) = ((at_ + a.2.1.length : Nat) : Int) := by rw [SX.S_len]; omega
    have dl : (t.drop at_).length = t.length - at_ := List.length_drop
    refine ⟨_, rfl, _, rfl, _, rfl, htl, _, _, rfl, rfl, _, rfl, ?_⟩
    refine ite2 (fun c => ?_) (fun c => ?_)
    · have hc : at_ + a.2.1.length < t.length := by have := of_decide_eq_true c; simp only [SX.S_len] at this; omega
      refine ⟨_, rfl, rfl, _, rfl, _, rfl, _, _, _, rfl, rfl, _, rfl, ?_⟩
      rw [starts_S (by omega) w1]
      refine ite2 (fun c2 => ?_) (fun c2 => ?_)
      · have hp := matchAt_iff.mp c2
        obtain ⟨d, hd, kvs, ad, hdd, hkl, hn, hs, hi⟩ := hls (at_ + a.2.1.length) (by omega) hc
        have hne : t.drop (at_ + a.2.1.length) ≠ [] := fun z => by
          have := congrArg List.length z
          rw [List.length_drop] at this
          simp at this
          omega
        have hg := gd_liv (as := as) (b := b) (g := a.2.2) hne
        refine ⟨_, rfl, _, rfl, _, rfl, lv, _, _, _, rfl, rfl, SqL.of hlv, by rw [e1]; exact atI_nat (by rw [List.getElem?_map, hd]; rfl), d, _, rfl, .inl ⟨kvs, Sum.inl (a.2.2 : Int), .inl hdd, rfl, rfl⟩, ?_⟩
        refine k _ ?_
        have hdr : (t.drop at_).drop a.2.1.length = t.drop (at_ + a.2.1.length) := by rw [List.drop_drop]
        have hgd : (valV kvs (Sum.inl (a.2.2 : Int))).isSome = true ↔ Gd as b a.2.2 (t.drop (at_ + a.2.1.length)) := by
          rw [hg]
          by_cases z : livI as b (t.drop (at_ + a.2.1.length)) a.2.2 as.length = []
          · rw [hn _ z]
            exact ⟨fun q => Bool.noConfusion q, fun q => absurd z q⟩
          · rw [(hs _ z).1]
            exact ⟨fun _ => z, fun _ => rfl⟩
        rw [hgd, ← hdr]
        constructor
        · intro h
          exact .inl ⟨by omega, hp, h⟩
        · rintro (⟨_, _, h⟩ | ⟨l, _, _⟩)
          · exact h
          · omega
      · refine k false ⟨fun z => Bool.noConfusion z, fun z => ?_⟩
        rcases z with ⟨l, p, _⟩ | ⟨l, p, _⟩
        · exact absurd (matchAt_iff.mpr p) c2
        · omega
    · have hc : ¬ at_ + a.2.1.length < t.length := fun z => c (decide_eq_true (by simp only [SX.S_len]; omega))
      have fin : ∀ r : Bool, (r = true ↔ b = true ∨ a.2.1.length = (t.drop at_).length) → Txt.startswith (SX.S a.2.1) (cutS (SX.S t) (some (at_ : Int)) none) = true → r = true → Q (.bl true) H := fun r hr h1 h2 => by
        rw [cutS_from, starts0_S] at h1
        exact k true ⟨fun _ => .inr ⟨by omega, pre_iff'.mp h1, hr.mp h2⟩, fun _ => rfl⟩
      have fin2 : ∀ r : Bool, (r = true ↔ b = true ∨ a.2.1.length = (t.drop at_).length) → r = true → Q (.bl (Txt.startswith (SX.S a.2.1) (cutS (SX.S t) (some (at_ : Int)) none))) H := fun r hr h2 => by
        cases e : Txt.startswith (SX.S a.2.1) (cutS (SX.S t) (some (at_ : Int)) none) with
        | true => exact fin r hr e h2
        | false =>
          rw [cutS_from, starts0_S] at e
          refine k false ⟨fun z => Bool.noConfusion z, fun z => ?_⟩
          rcases z with ⟨l, _⟩ | ⟨l, p, _⟩
          · omega
          · rw [pre_iff'.mpr p] at e
            cases e
      have non : ∀ r : Bool, (r = true ↔ b = true ∨ a.2.1.length = (t.drop at_).length) → r = false → Q (.bl false) H := fun r hr h2 => by
        refine k false ⟨fun z => Bool.noConfusion z, fun z => ?_⟩
        rcases z with ⟨l, _⟩ | ⟨l, p, q⟩
        · omega
        · rw [hr.mpr q] at h2
          cases h2
      refine ⟨_, rfl, b, rfl, ?_⟩
      cases b with
      | true =>
        refine iteT ⟨true, rfl, iteT ?_⟩
        exact ⟨_, rfl, rfl, _, rfl, _, rfl, _, rfl, _, rfl, htl, _, _, rfl, rfl, fin2 true (by simp) rfl⟩
      | false =>
        refine iteF ⟨_, rfl, _, rfl, _, rfl, htl, rfl, _, rfl, ?_⟩
        have ev : (V.int ((at_ : Int) + ((SX.S a.2.1).length : Nat)) = V.int ((SX.S t).length : Nat)) ↔ a.2.1.length = (t.drop at_).length := by
          rw [e1, SX.S_len, dl]
          constructor
          · intro z
            injection z with z
            omega
          · intro z
            congr 1
            omega
        refine ite2 (fun c3 => ?_) (fun c3 => ?_)
        · have q := ev.mp (of_decide_eq_true c3)
          exact ⟨_, rfl, rfl, _, rfl, _, rfl, _, rfl, _, rfl, htl, _, _, rfl, rfl, fin2 true (by simp [q]) rfl⟩
        · have q : ¬ a.2.1.length = (t.drop at_).length := fun z => c3 (decide_eq_true (ev.mpr z))
          exact non false (by simp only [Bool.false_eq_true, false_iff, false_or]; exact q) rfl
end
end J


set_option Elab.async false
set_option linter.all false
set_option maxRecDepth 100000
set_option maxHeartbeats 4000000
namespace J
open PySem L2
/-- a place's dict, while it is filled: its lists are new since Hs -/
def LivN (Hs H : Hp) (d : Addr) (as : List Arc) (b : Bool) (u : List Nat) (n : Nat) : Prop := ∃ (kvs : List (Key × V)) (at_ : Nat → Addr), H d = some (.dK kvs) ∧ kvs.length ≤ n ∧
  (∀ g, livI as b u g n = [] → valV kvs (.inl (g : Int)) = none) ∧
  (∀ g, livI as b u g n ≠ [] → valV kvs (.inl (g : Int)) = some (.ref (at_ g)) ∧ Hs (at_ g) = none ∧ H (at_ g) = some (.lst ((livI as b u g n).map fun i : Nat => V.int (i : Int)))) ∧
  (∀ g g', livI as b u g n ≠ [] → livI as b u g' n ≠ [] → at_ g = at_ g' → g = g')
theorem LivN.at {Hs H : Hp} {d : Addr} {as : List Arc} {b : Bool} {u : List Nat} {n : Nat} (h : LivN Hs H d as b u n) : LivAt H d as b u n := by
  obtain ⟨kvs, at_, h1, h2, h3, h4, h5⟩ := h
  exact ⟨kvs, at_, h1, h2, h3, fun g hg => ⟨(h4 g hg).1, (h4 g hg).2.2⟩, h5⟩
theorem LivN.same {Hs H H' : Hp} {d : Addr} {as : List Arc} {b : Bool} {u : List Nat} {n : Nat} (h : LivN Hs H d as b u n) (s : Same H H') : LivN Hs H' d as b u n := by
  obtain ⟨kvs, at_, h1, h2, h3, h4, h5⟩ := h
  exact ⟨kvs, at_, s _ _ h1, h2, h3, fun g hg => ⟨(h4 g hg).1, (h4 g hg).2.1, s _ _ (h4 g hg).2.2⟩, h5⟩
/-- all but one object stays -/
def ExDl (d : Addr) (H H' : Hp) : Prop := ∀ c o, c ≠ d → H c = some o → H' c = some o
theorem ExDl.trans {d : Addr} {H H1 H2 : Hp} (a : ExDl d H H1) (b : Same H1 H2) : ExDl d H H2 := fun c o n h => b c o (a c o n h)
theorem ExDl.free {d q : Addr} {H H' : Hp} (x : ExDl d H H') (hq : H' q = none) (n : q ≠ d) : H q = none := by
  cases e : H q with
  | none => rfl
  | some o => rw [x _ _ n e] at hq; cases hq
theorem ExDl.updNew {d q : Addr} {H H' : Hp} {o : HO} (x : ExDl d H H') (hq : H q = none) : ExDl d H (L2.upd H' q o) := fun b u n e => by
  rw [upd_ne (ne_of_none e hq)]; exact x b u n e
theorem ExDl.updD {d : Addr} {H H' : Hp} {o : HO} (x : ExDl d H H') : ExDl d H (L2.upd H' d o) := fun b u n e => by
  rw [upd_ne n]; exact x b u n e
def spLive (C : Addr) : Sp := fun vs H Q _ => ∃ (q : Addr) (sg : List Nat) (us : List V) (as : List Arc) (t : List Nat) (b : Bool), vs = [.ref q, .str (SX.S t), .bl b] ∧ LoomAt C H q sg us as ∧ t.length ≤ 2000 ∧
  ∀ (H' : Hp) (lv : Addr) (ds : List Addr), Same H H' → H lv = none → H' lv = some (.lst (ds.map V.ref)) → ds.length = t.length → LivsAt H' ds as b t 0 → Q (.ref lv) H'
section
variable {P : Program} {w : World} {K : PySem.W.Frag} {mg : Str → Option Value} {base : Heap}
theorem ok_live_arcs (T : Tx K mg) : FnOk P w K mg base CX0 2 T.f_live_arcs T.fd_live_arcs P_live_arcs (spLive T.C_Loom) := by
  have G_goes_on : FnOk P w K mg base CX0 1 T.f_goes_on T.fd_goes_on P_goes_on spGoes := ok_goes_on T
  refine T.F_live_arcs.ok sc_live_arcs (fun vs H Q E h => ?_) (fun cdv A outer s H vs Q E hr h => ?_)
  · obtain ⟨q, sg, us, as, t, b, rfl, _⟩ := h
    rfl
  · obtain ⟨q, sg, us, as, t, b, rfl, ⟨dx, TT, hq, hT, harc, hok, hsg⟩, ht, k⟩ := h
    refine ⟨_, (pss_cons (ps_setLc (i := 3) (own := [("_", 7)]) (g := (gName 7)) rfl sc_live_arcs.nd rfl rfl (sw_true rfl rfl rfl (by decide +kernel)) (pi_str (pv 1)) (blkOk_by (N := N_live_arcs) (sc := defScope s_live_arcs) (by decide +kernel)) (fun _ _ _ _ _ => (pg_name (i := 7) sc_live_arcs.nd rfl (Or.inl rfl))) (fun _ _ _ _ _ => pts_nil) (fun _ _ _ _ _ => pe_dnewK))
        (pss_cons (ps_for PassesOwn.never rfl (pi_revR rfl T.n_reversed (prg_1 rfl T.n_range (pe_callB call_len_str rfl T.n_len (by decide +kernel) (pa_cons (pv 1) pa_nil)))) (pg_name (i := 4) sc_live_arcs.nd rfl (Or.inl rfl)) (pss_one (ps_for PassesOwn.never rfl (pi_enumT rfl T.n_enumerate (pa_cons (pe_fld (pv 0) rfl) pa_nil)) (pg_tup rfl (pgs_cons (pg_name (i := 5) sc_live_arcs.nd rfl (Or.inl rfl)) (pgs_cons (pg_name (i := 6) sc_live_arcs.nd rfl (Or.inl rfl)) pgs_nil))) (pss_one (ps_if (pt_val (pe_call G_goes_on (hr.mono (by decide)) rfl T.m_goes_on T.F_goes_on.kp T.b_goes_on .nil pass0 (pa_cons (pv 1) (pa_cons (pv 4) (pa_cons (pv 6) (pa_cons (pv 3) (pa_cons (pv 2) pa_nil))))))) (pss_one (ps_expr (pe_bm PySem.F.plainAttrs_list PySem.F.slot_list_append PySem.F.type_list_append mt_append (pe_dsetd (pe_ix (ix_listK (K := K) rfl) (pv 3) (pv 4) (fun _ _ => rfl)) (pe_ix (ix_tupK (K := K) rfl) (pv 6) pe_int (fun _ _ => rfl)) (pe_lst pa_nil) ⟨rfl, rfl, rfl, rfl⟩) (pa_cons (pv 5) pa_nil)))) pss_nil)))))
        (pss_one (ps_ret (pv 3))))), ?_⟩
    have oka := hok.all
    have hl200 := hok.2.1
    have htl : (SX.S t).length ≤ sizeLine := le_size (by rw [SX.S_len]; omega)
    refine ⟨_, rfl, _, rfl, fun D hD => lc_it (walk_str (z := SX.S t)) (fun i H' => ∃ ds : List Addr, ds.length = i ∧ ds.Nodup ∧ H' D = some (.lst (ds.map V.ref)) ∧ (∀ d ∈ ds, H' d = some (.dK []) ∧ H d = none ∧ d ≠ D) ∧ Same H H') ?_ (fun _ _ _ _ => trivial) ?_ ?_⟩
    · exact ⟨[], rfl, by simp, upd_same, fun d hd => absurd hd List.not_mem_nil, Same.new _ hD⟩
    · rintro i x H2 H3 hi ⟨ds, rfl, nd, hDl, hds, s2⟩ ⟨rfl, _⟩
      rw [show (SX.S t).cps.size = t.length from SX.S_len t] at hi
      refine ⟨rfl, fun d hd => ?_⟩
      have nDd : D ≠ d := (hp_ne hDl hd).symm
      have hd0 : H d = none := s2.free hd
      refine ⟨_, by rw [upd_ne nDd]; exact hDl, lt_size (by simp; omega), ds ++ [d], by simp, ?_, by rw [upd_same]; simp, fun c hc => ?_, (s2.trans (Same.new _ hd)).updNew hD⟩
      · rw [List.nodup_append]
        exact ⟨nd, by simp, fun a ha b hb => by
          rw [List.mem_singleton.mp hb]
          exact fun z => hp_ne (hds a ha).1 hd z.symm⟩
      · rcases List.mem_append.mp hc with z | z
        · obtain ⟨q1, q2, q3⟩ := hds c z
          exact ⟨by rw [upd_ne q3, upd_ne (hp_ne q1 hd).symm]; exact q1, q2, q3⟩
        · rw [List.mem_singleton.mp z]
          exact ⟨by rw [upd_ne nDd.symm]; exact upd_same, hd0, nDd.symm⟩
    rintro H1 ⟨ds, hdl, nd, hDl, hds, s1⟩
    rw [show (SX.S t).cps.size = t.length from SX.S_len t] at hdl
    refine ⟨_, rfl, _, rfl, htl, _, rfl, by decide, by decide, by rw [SX.S_len]; omega, by rw [SX.S_len]; omega, ?_⟩
    have hn : ((0 : Int) + (((((SX.S t).length : Nat) : Int) - 0).toNat : Nat) - 1) = (t.length : Int) - 1 := by rw [SX.S_len]; omega
    have hn2 : ((((SX.S t).length : Nat) : Int) - 0).toNat = t.length := by rw [SX.S_len]; omega
    rw [hn, hn2]
    refine for_it (walk_rangeC (lo := (t.length : Int) - 1) (c := -1) (n := t.length)) (fun i σ H' => ∃ v4 v5 v6 : Option V, σ = [some (.ref q), some (.str (SX.S t)), some (.bl b), some (.ref D), v4, v5, v6, none] ∧ H' D = some (.lst (ds.map V.ref)) ∧ Same H H' ∧
      LivsAt H' ds as b t (t.length - i) ∧ ∀ k d, k < t.length - i → ds[k]? = some d → H' d = some (.dK [])) ?_ (fun _ _ _ _ _ => trivial) ?_ ?_
    · exact ⟨_, _, _, rfl, hDl, s1, fun k h1 h2 => absurd h2 (by omega), fun k d _ hd => (hds d (List.mem_of_getElem? hd)).1⟩
    · rintro i x σ H9 H2 hi ⟨v4, v5, v6, rfl, hD2, s2, hls, hfr⟩ ⟨rfl, ex⟩
      replace ex : x = V.int ((t.length - 1 - i : Nat) : Int) := by
        rw [ex]
        show V.int ((t.length : Int) - 1 + (i : Int) * -1) = _
        congr 1
        omega
      subst ex
      have hat : t.length - 1 - i < t.length := by omega
      have hat1 : t.length - i = t.length - 1 - i + 1 := by omega
      rw [hat1] at hls hfr
      have hat2 : t.length - (i + 1) = t.length - 1 - i := by omega
      rw [hat2]
      generalize t.length - 1 - i = at_ at *
      clear hat1 hat2
      obtain ⟨d, hd⟩ : ∃ d, ds[at_]? = some d := ⟨ds[at_]'(by omega), List.getElem?_eq_getElem (by omega)⟩
      have hd2 : H2 d = some (.dK []) := hfr at_ d (Nat.lt_succ_self _) hd
      have hd0 : H d = none := (hds d (List.mem_of_getElem? hd)).2.1
      have ndD : d ≠ D := (hds d (List.mem_of_getElem? hd)).2.2
      have dne : ∀ k c, ds[k]? = some c → k ≠ at_ → c ≠ d := fun k c hc hk z => by
        subst z
        have e1 := List.getElem?_eq_some_iff.mp hc
        have e2 := List.getElem?_eq_some_iff.mp hd
        exact hk ((List.getElem_inj nd).mp (e1.2.trans e2.2.symm))
      have hune : t.drop at_ ≠ [] := fun z => by
        have := congrArg List.length z
        rw [List.length_drop] at this
        simp at this
        omega
      refine ⟨_, rfl, q, _, dx, _, _, rfl, s2 _ _ hq, T.cl_Loom, T.na_Loom_arcs, lf_arcs _ _, TT, us, rfl, SqT.of (s2 _ _ hT), for_it (walk_enumT (K := K) (a := TT) (xs := us)) (fun j σ H' => ∃ v5 v6 : Option V, σ = [some (.ref q), some (.str (SX.S t)), some (.bl b), some (.ref D), some (.int (at_ : Int)), v5, v6, none] ∧ ExDl d H2 H' ∧ LivN H2 H' d as b (t.drop at_) j) ?_ ?_ ?_ ?_⟩
      · refine ⟨_, _, rfl, fun _ _ _ h => h, [], fun _ => 0, hd2, Nat.zero_le _, fun g _ => rfl, fun g h => absurd rfl h, fun g g' h => absurd rfl h⟩
      · rintro j σ H' _ ⟨_, _, _, x, _⟩
        exact SqT.of (x _ _ (fun z => by rw [z] at hT; rw [hT] at hd0; cases hd0) (s2 _ _ hT))
      · rintro j x σ H3 H4 hj ⟨v5, v6, rfl, x3, hN⟩ ⟨tp, x1, y1, rfl, htp, rfl, hx1, hy1⟩
        cases hx1
        have hja : j < as.length := by rw [← harc.1]; exact hj
        have hai : as[j]? = some as[j] := List.getElem?_eq_getElem hja
        obtain ⟨ta, hut, htt⟩ := harc.2 j as[j] hai
        replace hy1 : us[j]? = some y1 := hy1
        rw [hut] at hy1
        cases hy1
        have sn := Same.new (.tup [V.int (j : Int), .ref ta]) htp
        have nd3 : ∀ o c, H c = some o → c ≠ d := fun o c h z => by rw [z, hd0] at h; cases h
        have nd2 : ∀ c o, H2 c = some o → (∀ kv, o ≠ .dK kv) → c ≠ d := fun c o h hk z => by rw [z, hd2] at h; exact hk _ (Option.some.inj h).symm
        have hta4 : upd H3 tp (.tup [V.int (j : Int), .ref ta]) ta = some (arcHO as[j]) := sn _ _ (x3 _ _ (nd3 _ _ htt) (s2 _ _ htt))
        have hD4 : upd H3 tp (.tup [V.int (j : Int), .ref ta]) D = some (.lst (ds.map V.ref)) := sn _ _ (x3 _ _ ndD.symm hD2)
        have hN4 := hN.same sn
        have x4 := x3.trans sn
        have hls4 : LivsAt (upd H3 tp (.tup [V.int (j : Int), .ref ta])) ds as b t (at_ + 1) := fun k h1 h2 => by
          obtain ⟨c, e1, e2⟩ := hls k h1 h2
          exact ⟨c, e1, e2.exd hd2 (dne k c e1 (by omega)) x4⟩
        obtain ⟨o1, o2, o3, o4⟩ := oka.2 as[j] (List.getElem_mem hja)
        refine ⟨tp, _, rfl, SqT.of upd_same, rfl, _, _, rfl, _, _, rfl, rfl, ?_⟩
        generalize upd H3 tp (.tup [V.int (j : Int), .ref ta]) = H4 at *
        refine ⟨_, rfl, _, rfl, _, rfl, _, rfl, _, rfl, t, at_, ta, D, b, as[j], ds, as, rfl, hat, ht, hta4, hD4, hls4, o2, o3, fun r hr => ⟨r, rfl, ?_⟩⟩
        obtain ⟨kvs, ad, hd4, hkl, hnone, hsome, hinj⟩ := hN4
        have hkey : ∀ g, as[j].1 ≠ g → livI as b (t.drop at_) g (j + 1) = livI as b (t.drop at_) g j := fun g c => livI_succ.2 fun ⟨a, e1, e2, _⟩ => by
          rw [hai] at e1
          cases e1
          exact c e2
        cases r with
        | false =>
          have hno : ∀ g, livI as b (t.drop at_) g (j + 1) = livI as b (t.drop at_) g j := fun g => livI_succ.2 fun ⟨a, e1, _, e3⟩ => by
            rw [hai] at e1
            cases e1
            exact Bool.noConfusion (hr.mpr e3)
          refine iteF ⟨_, _, rfl, x4, kvs, ad, hd4, by omega, fun g hg => hnone g (by rw [← hno]; exact hg), fun g hg => ?_, fun g g' h1 h2 => hinj g g' (by rw [← hno]; exact h1) (by rw [← hno]; exact h2)⟩
          rw [hno] at hg ⊢
          exact hsome g hg
        | true =>
          have htk := hr.mp rfl
          have own : livI as b (t.drop at_) as[j].1 (j + 1) = livI as b (t.drop at_) as[j].1 j ++ [j] := livI_succ.1 ⟨as[j], hai, rfl, htk⟩
          refine iteT ⟨_, rfl, _, rfl, D, _, _, _, rfl, rfl, SqL.of hD4, atI_nat (by rw [List.getElem?_map, hd]; rfl), d, rfl, .inl ⟨kvs, .inl hd4⟩, _, rfl, ta, _, _, _, rfl, rfl, SqT.of hta4, rfl, le_size (by simp), fun l' hl' => ?_⟩
          have s5 : Same H4 (upd H4 l' (.lst [])) := Same.new _ hl'
          have gl' : upd H4 l' (.lst []) l' = some (.lst []) := upd_same
          have hd5 := s5 _ _ hd4
          have nl'd : l' ≠ d := hp_ne hd4 hl'
          refine ⟨kvs, .inl (as[j].1 : Int), hd5, rfl, lt_size (by omega), fun v hv => ?_, fun hn => ?_⟩
          · have hne : livI as b (t.drop at_) as[j].1 j ≠ [] := fun z => by rw [hnone _ z] at hv; cases hv
            obtain ⟨e1, e2, e3⟩ := hsome _ hne
            rw [e1] at hv
            cases hv
            have hnd : ad as[j].1 ≠ d := fun z => by rw [z, hd4] at e3; cases e3
            have ll := livI_len as b (t.drop at_) as[j].1 j
            refine ⟨.inl ⟨rfl, _, SqL.of (s5 _ _ e3)⟩, _, rfl, ad as[j].1, _, _, rfl, rfl, s5 _ _ e3, lt_size (by rw [List.length_map]; omega), ?_⟩
            have e3' := s5 _ _ e3
            refine ⟨_, _, rfl, (x4.trans s5).updNew e2, kvs, ad, by rw [upd_ne hnd.symm]; exact hd5, by omega, fun g hg => ?_, fun g hg => ?_, fun g g' hg hg' => ?_⟩
            · by_cases c : as[j].1 = g
              · subst c; rw [own] at hg; simp at hg
              · exact hnone g (by rw [← hkey g c]; exact hg)
            · by_cases c : as[j].1 = g
              · subst c
                rw [own]
                exact ⟨e1, e2, by rw [upd_same, List.map_append]; rfl⟩
              · rw [hkey g c] at hg ⊢
                obtain ⟨f1, f2, f3⟩ := hsome g hg
                exact ⟨f1, f2, by rw [upd_ne (fun z => c (hinj _ _ hg hne z).symm)]; exact s5 _ _ f3⟩
            · have back : ∀ g, livI as b (t.drop at_) g (j + 1) ≠ [] → livI as b (t.drop at_) g j ≠ [] := fun g hg => by
                by_cases c : as[j].1 = g
                · subst c; exact hne
                · rw [← hkey g c]; exact hg
              exact hinj g g' (back g hg) (back g' hg')
          · have hemp : livI as b (t.drop at_) as[j].1 j = [] := by
              by_cases z : livI as b (t.drop at_) as[j].1 j = []
              · exact z
              · rw [(hsome _ z).1] at hn
                cases hn
            have hHl' : H2 l' = none := x4.free hl' nl'd
            have gd6 : upd (upd H4 l' (.lst [])) d (.dK (putK kvs (.inl (as[j].1 : Int)) (.ref l'))) d = some (.dK (putK kvs (.inl (as[j].1 : Int)) (.ref l'))) := upd_same
            have gl6 : upd (upd H4 l' (.lst [])) d (.dK (putK kvs (.inl (as[j].1 : Int)) (.ref l'))) l' = some (.lst []) := by rw [upd_ne nl'd]; exact gl'
            have x6 : ExDl d H2 (upd (upd H4 l' (.lst [])) d (.dK (putK kvs (.inl (as[j].1 : Int)) (.ref l')))) := (x4.trans s5).updD
            have k6 : ∀ c o, c ≠ d → H4 c = some o → upd (upd H4 l' (.lst [])) d (.dK (putK kvs (.inl (as[j].1 : Int)) (.ref l'))) c = some o := fun c o n h => by rw [upd_ne n]; exact s5 _ _ h
            generalize upd (upd H4 l' (.lst [])) d (.dK (putK kvs (.inl (as[j].1 : Int)) (.ref l'))) = H6 at *
            refine ⟨.inl ⟨rfl, _, SqL.of gl6⟩, _, rfl, l', [], _, rfl, rfl, gl6, by decide, ?_⟩
            have k8 : ∀ c o, c ≠ d → c ≠ l' → H4 c = some o → upd H6 l' (.lst ([] ++ [V.int (j : Int)])) c = some o := fun c o n1 n2 h => by rw [upd_ne n2]; exact k6 c o n1 h
            have kne : ∀ g, as[j].1 ≠ g → ¬ ((Sum.inl (g : Int) : Key) = Sum.inl (as[j].1 : Int)) := fun g c z => by
              injection z with z
              exact c (by omega)
            obtain ⟨f, fown, fne⟩ : ∃ f : Nat → Addr, f as[j].1 = l' ∧ ∀ g, as[j].1 ≠ g → f g = ad g := ⟨fun g => if g = as[j].1 then l' else ad g, if_pos rfl, fun g c => if_neg fun z => c z.symm⟩
            refine ⟨_, _, rfl, x6.updNew hHl', putK kvs (.inl (as[j].1 : Int)) (.ref l'), f, by rw [upd_ne nl'd.symm]; exact gd6, ?_, fun g hg => ?_, fun g hg => ?_, fun g g' hg hg' e => ?_⟩
            · have := length_putK kvs (.inl (as[j].1 : Int)) (.ref l')
              omega
            · by_cases c : as[j].1 = g
              · subst c; rw [own] at hg; simp at hg
              · rw [valV_put, if_neg (kne g c)]
                rw [hkey g c] at hg
                exact hnone g hg
            · by_cases c : as[j].1 = g
              · subst c
                rw [own, valV_put, if_pos rfl, fown, hemp]
                exact ⟨rfl, hHl', upd_same⟩
              · rw [hkey g c] at hg ⊢
                rw [valV_put, if_neg (kne g c), fne g c]
                obtain ⟨f1, f2, f3⟩ := hsome g hg
                exact ⟨f1, f2, k8 _ _ (fun z => by rw [z, hd4] at f3; cases f3) (fun z => by rw [z, hl'] at f3; cases f3) f3⟩
            · have far : ∀ g, as[j].1 ≠ g → livI as b (t.drop at_) g (j + 1) ≠ [] → ad g ≠ l' := fun g c h z => by
                rw [hkey g c] at h
                obtain ⟨_, _, f3⟩ := hsome g h
                rw [z, hl'] at f3
                cases f3
              by_cases c : as[j].1 = g
              · by_cases c' : as[j].1 = g'
                · exact c.symm.trans c'
                · subst c
                  have e' : l' = ad g' := by rw [← fown, ← fne g' c']; exact e
                  exact absurd e'.symm (far g' c' hg')
              · by_cases c' : as[j].1 = g'
                · subst c'
                  have e' : ad g = l' := by rw [← fown, ← fne g c]; exact e
                  exact absurd e' (far g c hg)
                · have e' : ad g = ad g' := by rw [← fne g c, ← fne g' c']; exact e
                  exact hinj g g' (by rw [← hkey g c]; exact hg) (by rw [← hkey g' c']; exact hg') e'
      · rintro σ H3 ⟨v5, v6, rfl, x3, hN⟩
        rw [harc.1] at hN
        refine ⟨_, _, _, rfl, x3 _ _ ndD.symm hD2, fun c o h => x3 c o (fun z => by rw [z, hd0] at h; cases h) (s2 _ _ h), fun k h1 h2 => ?_, fun k c h1 hc => ?_⟩
        · by_cases e : k = at_
          · subst e
            exact ⟨d, hd, hN.at⟩
          · obtain ⟨c, e1, e2⟩ := hls k (by omega) h2
            exact ⟨c, e1, e2.exd hd2 (dne k c e1 e) x3⟩
        · exact x3 _ _ (dne k c hc (by omega)) (hfr k c (by omega) hc)
    · rintro σ H2 ⟨v4, v5, v6, rfl, hD2, s2, hls, _⟩
      rw [Nat.sub_self] at hls
      exact ⟨_, rfl, k H2 D ds s2 hD hD2 hdl hls⟩
end
end J


set_option Elab.async false
set_option linter.all false
set_option maxRecDepth 100000
set_option maxHeartbeats 4000000
namespace J
open PySem L2
/-! ### sure -/
/-- from state g at the place n on: the arcs that alone lead on -/
inductive Srr (as : List Arc) (t : List Nat) : Nat → Nat → List Nat → Prop
  | stop {n g : Nat} : (t.length ≤ n ∨ (liv as true (t.drop n) g).length ≠ 1) → Srr as t n g []
  | go {n g i : Nat} {a : Arc} {row : List Nat} : n < t.length → liv as true (t.drop n) g = [i] → as[i]? = some a → Srr as t (n + a.2.1.length) a.2.2 row → Srr as t n g (i :: row)
def spSure (C : Addr) : Sp := fun vs H Q _ => ∃ (q : Addr) (sg : List Nat) (us : List V) (as : List Arc) (g : Nat) (t : List Nat), vs = [.ref q, .int (g : Int), .str (SX.S t)] ∧ LoomAt C H q sg us as ∧ g ≤ 63 ∧ t.length ≤ 2000 ∧ (∀ c ∈ t, c ∈ sg) ∧
  (t ≠ [] → liv as true t g = [] → ∀ H', Same H H' → Q .non H') ∧ ((t = [] ∨ liv as true t g ≠ []) → ∀ H' (p : Addr) row, Same H H' → H p = none → H' p = some (.lst (nats row)) → Srr as t 0 g row → Q (.ref p) H')
section
variable {P : Program} {w : World} {K : PySem.W.Frag} {mg : Str → Option Value} {base : Heap}
theorem ok_check_textR (T : Tx K mg) : FnOk P w K mg base CX0 2 T.f_check_text T.fd_check_text P_check_text spText1 := by
  have G_is_string_over : FnOk P w K mg base CX0 1 T.f_is_string_over T.fd_is_string_over P_is_string_over spOver := ok_is_string_over T
  refine T.F_check_text.ok sc_check_text (fun vs H Q E h => ?_) (fun cdv A outer s H vs Q E hr h => ?_)
  · obtain ⟨sg, u, rfl, _⟩ := h
    rfl
  · obtain ⟨sg, u, rfl, h1, h2, k⟩ := h
    refine ⟨_, (pss_one (ps_if (pt_not (pt_val (pe_call G_is_string_over (hr.mono (by decide)) rfl T.m_is_string_over T.F_is_string_over.kp T.b_is_string_over .nil pass0 (pa_cons (pv 0) (pa_cons (pv 1) (pa_cons pe_int (pa_cons (pe_glob (v := V.int 2000) rfl T.g_LONGEST_TEXT ⟨_, rfl⟩) pa_nil))))))) (pss_one ps_never) pss_nil)), ?_⟩
    exact ⟨_, rfl, _, rfl, sg, u, 0, 2000, rfl, by omega, by omega, by omega, h2, fun H' sm => ⟨true, rfl, k H' sm⟩⟩
theorem ok_sure (T : Tx K mg) : FnOk P w K mg base CX0 3 T.f_sure T.fd_sure P_sure (spSure T.C_Loom) := by
  have G_check_state : FnOk P w K mg base CX0 2 T.f_check_state T.fd_check_state P_check_state spState1 := ok_check_state T
  have G_check_text : FnOk P w K mg base CX0 2 T.f_check_text T.fd_check_text P_check_text spText1 := ok_check_textR T
  have G_live_arcs : FnOk P w K mg base CX0 2 T.f_live_arcs T.fd_live_arcs P_live_arcs (spLive T.C_Loom) := ok_live_arcs T
  refine T.F_sure.ok sc_sure (fun vs H Q E h => ?_) (fun cdv A outer s H vs Q E hr h => ?_)
  · obtain ⟨q, sg, us, as, g, t, rfl, _⟩ := h
    rfl
  · obtain ⟨q, sg, us, as, g, t, rfl, hL, hg, ht, hin, kn, kp⟩ := h
    refine ⟨_, (pss_cons (ps_expr (pe_call G_check_state (hr.mono (by decide)) rfl T.m_check_state T.F_check_state.kp T.b_check_state .nil pass0 (pa_cons (pv 1) pa_nil)))
        (pss_cons (ps_expr (pe_call G_check_text (hr.mono (by decide)) rfl T.m_check_text T.F_check_text.kp T.b_check_text .nil pass0 (pa_cons (pe_fld (pv 0) rfl) (pa_cons (pv 2) pa_nil))))
        (pss_cons (ps_if (pt_cmpR op_eq (pv 2) pe_str (nomark _)) (pss_one (ps_ret (pe_lst pa_nil))) pss_nil)
        (pss_cons (ps_set (i := 3) sc_sure.nd rfl (Or.inl rfl) (pe_call G_live_arcs (hr.mono (by decide)) rfl T.m_live_arcs T.F_live_arcs.kp T.b_live_arcs .nil pass0 (pa_cons (pv 0) (pa_cons (pv 2) (pa_cons pe_bl pa_nil)))))
        (pss_cons (ps_if (pt_cmp (pc_dnotin (hu_of hr) (pv 1) (pe_ix (ix_listK (K := K) rfl) (pv 3) pe_int (fun _ _ => rfl)))) (pss_one (ps_ret pe_non)) pss_nil)
        (pss_cons (ps_set (i := 4) sc_sure.nd rfl (Or.inl rfl) (pe_lst pa_nil))
        (pss_cons (ps_set (i := 5) sc_sure.nd rfl (Or.inl rfl) pe_int)
        (pss_cons (ps_set (i := 6) sc_sure.nd rfl (Or.inl rfl) (pv 1))
        (pss_cons (ps_while PassesOwn.never (PW.pt (pw_and (pt_cmpR op_lt (pv 5) (pe_callB call_len_str rfl T.n_len (by decide +kernel) (pa_cons (pv 2) pa_nil)) (nomark _)) (pw_and1 (pt_cmpR op_eq (pe_callB (call_len_seqK (K := K) rfl) rfl T.n_len (by decide +kernel) (pa_cons (pe_dget (hu_of hr) (pe_ix (ix_listK (K := K) rfl) (pv 3) (pv 5) (fun _ _ => rfl)) (pv 6) (fun _ _ => rfl)) pa_nil)) pe_int (nomark _))))) (pss_cons (ps_set (i := 7) sc_sure.nd rfl (Or.inl rfl) (pe_ix (ix_listK (K := K) rfl) (pe_dget (hu_of hr) (pe_ix (ix_listK (K := K) rfl) (pv 3) (pv 5) (fun _ _ => rfl)) (pv 6) (fun _ _ => rfl)) pe_int (fun _ _ => rfl)))
        (pss_cons (ps_expr (pe_bm PySem.F.plainAttrs_list PySem.F.slot_list_append PySem.F.type_list_append mt_append (pv 4) (pa_cons (pv 7) pa_nil)))
        (pss_cons (ps_asg (pe_ix (ix_tupK (K := K) rfl) (pe_fld (pv 0) rfl) (pv 7) (fun _ _ => rfl)) (pg_tup rfl (pgs_cons (pg_name (i := 8) sc_sure.nd rfl (Or.inl rfl)) (pgs_cons (pg_name (i := 9) sc_sure.nd rfl (Or.inl rfl)) (pgs_cons (pg_name (i := 6) sc_sure.nd rfl (Or.inl rfl)) pgs_nil)))))
        (pss_one (ps_aug (i := 5) sc_sure.nd rfl (Or.inl rfl) (pe_callB call_len_str rfl T.n_len (by decide +kernel) (pa_cons (pv 9) pa_nil)) ip_add))))))
        (pss_one (ps_ret (pv 4)))))))))))), ?_⟩
    obtain ⟨dx, TT, hq, hT, harc, hok, hsg⟩ := id hL
    have hal := hok.2.1
    have htl : (SX.S t).length ≤ sizeLine := le_size (by rw [SX.S_len]; omega)
    refine ⟨_, rfl, _, rfl, by omega, by omega, ?_⟩
    refine ⟨_, rfl, q, _, dx, _, _, rfl, hq, T.cl_Loom, T.na_Loom_signs, lf_signs _ _, _, rfl, sg, t, rfl, ht, hin, fun H1 s1 => ?_⟩
    refine ⟨_, rfl, rfl, _, rfl, ?_⟩
    refine ite2 (fun c => ?_) (fun c => ?_)
    · have et : t = [] := by
        have e1 : V.str (SX.S t) = V.str "" := of_decide_eq_true c
        injection e1 with e1
        exact SX.S_inj e1
      refine ⟨le_size (by simp), fun a1 h1 => ?_⟩
      exact kp (.inl et) _ a1 [] (s1.trans (Same.new _ h1)) (s1.free h1) upd_same (.stop (.inl (by rw [et]; exact Nat.le_refl _)))
    · have tne : t ≠ [] := fun z => c (decide_eq_true (by rw [z]; rfl))
      have tpos := List.length_pos_iff.mpr tne
      have hL1 := hL.same s1
      refine ⟨_, rfl, _, rfl, q, sg, us, as, t, true, rfl, hL1, ht, fun H2 lv ds s2 hlv0 hlv hdl hls => ?_⟩
      obtain ⟨d0, hd0, kvs, ad, hdd, hkl, hno, hso, hinj⟩ := hls 0 (Nat.le_refl _) tpos
      rw [List.drop_zero] at hno hso
      refine ⟨_, rfl, _, rfl, lv, _, _, _, rfl, rfl, SqL.of hlv, atI_nat (j := 0) (by rw [List.getElem?_map, hd0]; rfl), d0, _, rfl, .inl ⟨kvs, Sum.inl (g : Int), .inl hdd, rfl, rfl⟩, ?_⟩
      refine ⟨_, rfl, ?_⟩
      by_cases z : liv as true t g = []
      · rw [hno g z]
        exact iteT (kn tne z H2 (s1.trans s2))
      · rw [(hso g z).1]
        refine iteF ?_
        refine ⟨Nat.zero_le _, fun ra hra => ?_⟩
        have sr : Same H2 (upd H2 ra (.lst [])) := Same.new _ hra
        have gr : upd H2 ra (.lst []) ra = some (.lst (nats [])) := upd_same
        have hra0 : H ra = none := (s1.trans s2).free hra
        have hra2 : H2 ra = none := hra
        generalize upd H2 ra (.lst []) = H3 at *
        refine ⟨_, rfl, ?_⟩
        refine ⟨fun m σ H' => ∃ (n h : Nat) (rw : List Nat) (v7 v8 v9 : Option V), σ = [some (.ref q), some (.int (g : Int)), some (.str (SX.S t)), some (.ref lv), some (.ref ra), some (.int (n : Int)), some (.int (h : Int)), v7, v8, v9] ∧ H' ra = some (.lst (nats rw)) ∧ Same H2 H' ∧ (∀ row, Srr as t n h row → Srr as t 0 g (rw ++ row)) ∧ (n < t.length → liv as true (t.drop n) h ≠ []) ∧ rw.length ≤ n ∧ m = t.length - n, ⟨_, 0, g, [], _, _, _, rfl, gr, sr, fun row hrow => hrow, fun _ => by rw [List.drop_zero]; exact z, Nat.le_refl _, rfl⟩, ?_⟩
        rintro m σ H4 ⟨n, h, rw', v7, v8, v9, rfl, hra4, s4, I1, I2, I3, rfl⟩
        have S4 := (s1.trans s2).trans s4
        refine ⟨_, rfl, _, rfl, _, rfl, htl, _, _, rfl, rfl, _, rfl, ?_⟩
        rw [SX.S_len]
        refine ite2 (fun c1 => ?_) (fun c1 => ?_)
        · have hn : n < t.length := by
            have := of_decide_eq_true c1
            omega
          obtain ⟨d1, hd1, kvs1, ad1, hdd1, _, _, hso1, _⟩ := hls n (Nat.zero_le _) hn
          have hne := I2 hn
          obtain ⟨f1, f2⟩ := hso1 h hne
          have hl4 : H4 (ad1 h) = some (.lst (nats (liv as true (t.drop n) h))) := s4 _ _ f2
          have hat : atI (ds.map V.ref) ((n : Nat) : Int) = some (V.ref d1) := atI_nat (by rw [List.getElem?_map, hd1]; rfl)
          refine ⟨_, rfl, _, rfl, lv, _, _, _, rfl, rfl, SqL.of (s4 _ _ hlv), hat, _, rfl, d1, _, rfl, .inl ⟨kvs1, .inl (h : Int), .inl (s4 _ _ hdd1), rfl, f1.symm⟩, ?_⟩
          refine ⟨_, _, rfl, .inl (SqL.of hl4), rfl, _, rfl, ?_⟩
          have ll : (nats (liv as true (t.drop n) h)).length = (liv as true (t.drop n) h).length := List.length_map _
          rw [ll]
          refine ite2 (fun c2 => ?_) (fun c2 => ?_)
          · have h1 : (liv as true (t.drop n) h).length = 1 := by
              have e := of_decide_eq_true c2
              injection e with e
              omega
            obtain ⟨i, hi⟩ := List.length_eq_one_iff.mp h1
            rw [hi] at hl4
            obtain ⟨a, ha, ea, hk⟩ := mem_liv.mp (by rw [hi]; exact List.mem_singleton.mpr rfl : i ∈ liv as true (t.drop n) h)
            obtain ⟨ta, hta1, hta2⟩ := harc.2 i a ha
            have hT4 := S4 _ _ hT
            have hta4 := S4 _ _ hta2
            have awl : a.2.1.length ≤ 12 := (hok.all.2 a (List.mem_of_getElem? ha)).2.2.1
            have aw1 : 1 ≤ a.2.1.length := (hok.all.2 a (List.mem_of_getElem? ha)).2.1
            have wsz : (SX.S a.2.1).length ≤ sizeLine := le_size (by rw [SX.S_len]; omega)
            refine ⟨_, fun _ _ h => h, ?_⟩
            refine ⟨_, rfl, _, rfl, lv, _, _, _, rfl, rfl, SqL.of (s4 _ _ hlv), hat, _, rfl, d1, _, rfl, .inl ⟨kvs1, .inl (h : Int), .inl (s4 _ _ hdd1), rfl, f1.symm⟩, ad1 h, _, _, _, rfl, rfl, SqL.of hl4, atI_nat (j := 0) rfl, ?_⟩
            refine ⟨_, rfl, .inl ⟨rfl, _, SqL.of hra4⟩, _, rfl, ra, _, _, rfl, rfl, hra4, lt_size (by rw [show (nats rw').length = rw'.length from List.length_map _]; omega), ?_⟩
            have s5 : Same H2 (upd H4 ra (.lst (nats rw' ++ [V.int ((i : Nat) : Int)]))) := s4.updNew hra2
            have hra5 : upd H4 ra (.lst (nats rw' ++ [V.int ((i : Nat) : Int)])) ra = some (.lst (nats (rw' ++ [i]))) := by rw [upd_same]; simp [nats]
            generalize upd H4 ra (.lst (nats rw' ++ [V.int ((i : Nat) : Int)])) = H5 at *
            have S5 := (s1.trans s2).trans s5
            refine ⟨_, rfl, q, _, dx, _, _, rfl, S5 _ _ hq, T.cl_Loom, T.na_Loom_arcs, lf_arcs _ _, _, rfl, TT, _, _, _, rfl, rfl, SqT.of (S5 _ _ hT), atI_nat hta1, ta, _, rfl, SqT.of (S5 _ _ hta2), rfl, _, _, rfl, _, _, rfl, _, _, rfl, rfl, ?_⟩
            refine ⟨_, rfl, _, rfl, _, rfl, wsz, ?_⟩
            refine ⟨_, _, rfl, rfl, ?_⟩
            refine ⟨t.length - (n + a.2.1.length), by omega, n + a.2.1.length, a.2.2, rw' ++ [i], some (.int (i : Int)), some (.int (a.1 : Int)), some (.str (SX.S a.2.1)), ?_, hra5, s5, fun row hrow => ?_, fun hlt => ?_, ?_, rfl⟩
            · have en : ((n : Int) + (((SX.S a.2.1).length : Nat) : Int)) = ((n + a.2.1.length : Nat) : Int) := by rw [SX.S_len]; omega
              show _ = [some (V.ref q), some (V.int (g : Int)), some (V.str (SX.S t)), some (V.ref lv), some (V.ref ra), some (V.int ((n + a.2.1.length : Nat) : Int)), _, _, _, _]
              rw [← en]
              rfl
            · rw [List.append_assoc]
              exact I1 _ (.go hn hi ha hrow)
            · rcases hk with ⟨k1, _, k3⟩ | ⟨k1, _, _⟩
              · rw [List.drop_drop] at k3
                exact (gd_liv (fun q => by have := congrArg List.length q; rw [List.length_drop, List.length_nil] at this; omega)).mp k3
              · rw [List.length_drop] at k1
                omega
            · rw [List.length_append, List.length_singleton]
              omega
          · refine ⟨_, rfl, kp (.inr z) H4 ra rw' S4 hra0 hra4 ?_⟩
            have := I1 [] (.stop (.inr fun q => c2 (decide_eq_true (by rw [q]; rfl))))
            rwa [List.append_nil] at this
        · refine iteF ⟨_, rfl, kp (.inr z) H4 ra rw' S4 hra0 hra4 ?_⟩
          have := I1 [] (.stop (.inl (by
            apply Classical.byContradiction
            intro q
            exact c1 (decide_eq_true (by omega)))))
          rwa [List.append_nil] at this
end
end J


set_option Elab.async false
set_option linter.all false
set_option maxRecDepth 100000
set_option maxHeartbeats 4000000
namespace J
open PySem L2
theorem preG {x w : List Nat} : pre x w = true ↔ w <+: x := by
  unfold pre
  rw [beq_iff_eq]
  exact ⟨fun h => List.prefix_iff_eq_take.mpr h.symm, fun h => (List.prefix_iff_eq_take.mp h).symm⟩
def wdA (as : List Arc) (i : Nat) : List Nat := (as.getD i (0, [], 0)).2.1
def txA (as : List Arc) (r : List Nat) : List Nat := (r.map (wdA as)).flatten
theorem txA_nil (as : List Arc) : txA as [] = [] := rfl
theorem txA_cons (as : List Arc) (i : Nat) (r : List Nat) : txA as (i :: r) = wdA as i ++ txA as r := by
  unfold txA
  rw [List.map_cons, List.flatten_cons]
theorem wdA_at {as : List Arc} {i : Nat} {a : Arc} (h : as[i]? = some a) : wdA as i = a.2.1 := by
  unfold wdA
  rw [List.getD_eq_getElem?_getD, h]
  rfl
inductive Rw (as : List Arc) : Nat → List Nat → Prop
  | nil (g : Nat) : Rw as g []
  | cons {i : Nat} {a : Arc} {r : List Nat} : as[i]? = some a → Rw as a.2.2 r → Rw as a.1 (i :: r)
theorem Rw.of {as : List Arc} {g i : Nat} {r : List Nat} (h : Rw as g (i :: r)) : ∃ a, as[i]? = some a ∧ a.1 = g ∧ Rw as a.2.2 r := by
  cases h with
  | cons h t => exact ⟨_, h, rfl, t⟩
theorem Rw.mk {as : List Arc} {g i : Nat} {a : Arc} {r : List Nat} (h : as[i]? = some a) (e : a.1 = g) (t : Rw as a.2.2 r) : Rw as g (i :: r) := e ▸ Rw.cons h t
theorem pre_app {u v w : List Nat} : u ++ v <+: u ++ w ↔ v <+: w := List.prefix_append_right_inj u
theorem pre_two {u v x y : List Nat} (h : u ++ x <+: v ++ y) : u <+: v ∨ v <+: u :=
  List.prefix_or_prefix_of_prefix ((List.prefix_append u x).trans h) (List.prefix_append v y)
theorem cat_drop {u v : List Nat} (h : u <+: v) : u ++ v.drop u.length = v := by
  obtain ⟨t, rfl⟩ := h
  rw [List.drop_left]
/-! ### live arcs and the rows that cover a text -/
/-- what can be read or covered from a state on, is covered by a row -/
theorem gd_cov {as : List Arc} {g : Nat} {u : List Nat} (h : Gd as true g u) : ∃ r, Rw as g r ∧ u <+: txA as r := by
  induction h with
  | nil => exact ⟨[], Rw.nil _, List.nil_prefix⟩
  | @go g i a u h e l p r ih =>
    obtain ⟨r', h1, h2⟩ := ih
    refine ⟨i :: r', Rw.mk h e h1, ?_⟩
    rw [txA_cons, wdA_at h, ← cat_drop p, pre_app]
    exact h2
  | @fin g i a u h e l n p r => exact ⟨[i], Rw.mk h e (Rw.nil _), by rw [txA_cons, wdA_at h]; exact p.trans (List.prefix_append _ _)⟩
theorem cov_gd {as : List Arc} : ∀ (r : List Nat) (g : Nat) (u : List Nat), Rw as g r → u <+: txA as r → Gd as true g u
  | [], g, u, _, h => by
    rw [txA_nil, List.prefix_nil] at h
    subst h
    exact .nil
  | i :: r, g, u, hr, h => by
    obtain ⟨a, ha, e, hr2⟩ := hr.of
    rw [txA_cons, wdA_at ha] at h
    by_cases hu : u = []
    · subst hu; exact .nil
    · by_cases c : a.2.1.length < u.length
      · have p : a.2.1 <+: u := by
          rcases List.prefix_or_prefix_of_prefix h (List.prefix_append a.2.1 _) with q | q
          · have := q.length_le
            omega
          · exact q
        refine .go ha e c p (cov_gd r a.2.2 _ hr2 ?_)
        rw [← pre_app (u := a.2.1), cat_drop p]
        exact h
      · have p : u <+: a.2.1 := by
          rcases List.prefix_or_prefix_of_prefix h (List.prefix_append a.2.1 _) with q | q
          · exact q
          · have := q.length_le
            have e2 := q.eq_of_length (by omega)
            rw [e2]
            exact List.prefix_refl _
        exact .fin ha e (by omega) hu p (.inl rfl)
/-- an arc is live just if some row that begins with it covers the text -/
theorem liv_cov {as : List Arc} {g i : Nat} {u : List Nat} (hu : u ≠ []) : i ∈ liv as true u g ↔ ∃ r, Rw as g (i :: r) ∧ u <+: txA as (i :: r) := by
  rw [mem_liv]
  constructor
  · rintro ⟨a, ha, e, h | h⟩
    · obtain ⟨h1, h2, h3⟩ := h
      obtain ⟨r, h4, h5⟩ := gd_cov h3
      refine ⟨r, Rw.mk ha e h4, ?_⟩
      rw [txA_cons, wdA_at ha, ← cat_drop h2, pre_app]
      exact h5
    · exact ⟨[], Rw.mk ha e (Rw.nil _), by rw [txA_cons, wdA_at ha]; exact h.2.1.trans (List.prefix_append _ _)⟩
  · rintro ⟨r, hr, h⟩
    obtain ⟨a, ha, e, hr2⟩ := hr.of
    refine ⟨a, ha, e, ?_⟩
    rw [txA_cons, wdA_at ha] at h
    by_cases c : a.2.1.length < u.length
    · have p : a.2.1 <+: u := by
        rcases List.prefix_or_prefix_of_prefix h (List.prefix_append a.2.1 _) with q | q
        · have := q.length_le
          omega
        · exact q
      refine .inl ⟨c, p, cov_gd r a.2.2 _ hr2 ?_⟩
      rw [← pre_app (u := a.2.1), cat_drop p]
      exact h
    · refine .inr ⟨by omega, ?_, .inl rfl⟩
      rcases List.prefix_or_prefix_of_prefix h (List.prefix_append a.2.1 _) with q | q
      · exact q
      · have := q.length_le
        have e2 := q.eq_of_length (by omega)
        rw [e2]
        exact List.prefix_refl _
/-- what sure tells stands at the front of every row that covers the text -/
theorem srr_all {as : List Arc} {t : List Nat} {n g : Nat} {row : List Nat} (h : Srr as t n g row) : ∀ r, Rw as g r → t.drop n <+: txA as r → row <+: r := by
  induction h with
  | stop _ => exact fun r _ _ => List.nil_prefix
  | @go n g i a row hn hi ha hs ih =>
    intro r hr hp
    have hu : t.drop n ≠ [] := fun z => by
      have := congrArg List.length z
      rw [List.length_drop, List.length_nil] at this
      omega
    cases r with
    | nil =>
      rw [txA_nil, List.prefix_nil] at hp
      exact absurd hp hu
    | cons j r =>
      have hj : j ∈ liv as true (t.drop n) g := (liv_cov hu).mpr ⟨r, hr, hp⟩
      rw [hi] at hj
      have := List.mem_singleton.mp hj
      subst this
      obtain ⟨b, hb, e, hr2⟩ := hr.of
      rw [ha] at hb
      cases hb
      rw [txA_cons, wdA_at ha] at hp
      have h2 : t.drop (n + a.2.1.length) <+: txA as r := by
        rw [← List.drop_drop]
        obtain ⟨z, hz⟩ := hp
        by_cases c : a.2.1.length ≤ (t.drop n).length
        · have := congrArg (List.drop a.2.1.length) hz
          rw [List.drop_left, List.drop_append_of_le_length c] at this
          exact ⟨z, this⟩
        · rw [List.drop_eq_nil_of_le (by omega)]
          exact List.nil_prefix
      obtain ⟨z, hz⟩ := ih r hr2 h2
      exact ⟨z, by rw [List.cons_append, hz]⟩
end J


set_option Elab.async false
set_option linter.all false
set_option maxRecDepth 100000
set_option maxHeartbeats 4000000
namespace J
open PySem L2
/-! ### trails: rows of arcs as objects -/
/-- how far the jump from so many arcs leads -/
def Jp : (n : Nat) → {m : Nat // m ≤ n}
  | 0 => ⟨0, Nat.le_refl 0⟩
  | n + 1 =>
    let f := Jp n
    have h1 : f.1 < n + 1 := Nat.lt_succ_of_le f.2
    let g := Jp f.1
    if n - f.1 = f.1 - g.1 then ⟨g.1, by have := f.2; have := g.2; omega⟩ else ⟨n, Nat.le_succ n⟩
termination_by n => n
def J_ (n : Nat) : Nat := (Jp n).1
theorem J_le (n : Nat) : J_ n ≤ n := (Jp n).2
theorem J_zero : J_ 0 = 0 := by unfold J_; rw [Jp]
theorem J_succ (n : Nat) : J_ (n + 1) = if n - J_ n = J_ n - J_ (J_ n) then J_ (J_ n) else n := by
  unfold J_
  rw [Jp]
  by_cases c : n - (Jp n).1 = (Jp n).1 - (Jp (Jp n).1).1
  · rw [if_pos c, if_pos c]
  · rw [if_neg c, if_neg c]
theorem J_lt (n : Nat) : J_ (n + 1) ≤ n := by
  rw [J_succ]
  have h1 := J_le n
  have h2 := J_le (J_ n)
  split <;> omega
def trF (ah num : V) (m : Nat) (j : Addr) : List (Str × V) := putF "jump" (.ref j) (putF "many" (.int (m : Int)) (putF "number" num (putF "ahead" ah [])))
theorem tne1 : ¬ (("ahead" : Str) = "jump") := by decide +kernel
theorem tne2 : ¬ (("ahead" : Str) = "many") := by decide +kernel
theorem tne3 : ¬ (("ahead" : Str) = "number") := by decide +kernel
theorem tne4 : ¬ (("number" : Str) = "jump") := by decide +kernel
theorem tne5 : ¬ (("number" : Str) = "many") := by decide +kernel
theorem tne6 : ¬ (("many" : Str) = "jump") := by decide +kernel
theorem trF_ahead (ah num : V) (m : Nat) (j : Addr) : (trF ah num m j).lookup ("ahead" : Str) = some ah := by
  unfold trF
  rw [lookup_putF, if_neg tne1, lookup_putF, if_neg tne2, lookup_putF, if_neg tne3, lookup_putF, if_pos rfl]
theorem trF_number (ah num : V) (m : Nat) (j : Addr) : (trF ah num m j).lookup ("number" : Str) = some num := by
  unfold trF
  rw [lookup_putF, if_neg tne4, lookup_putF, if_neg tne5, lookup_putF, if_pos rfl]
theorem trF_many (ah num : V) (m : Nat) (j : Addr) : (trF ah num m j).lookup ("many" : Str) = some (.int (m : Int)) := by
  unfold trF
  rw [lookup_putF, if_neg tne6, lookup_putF, if_pos rfl]
theorem trF_jump (ah num : V) (m : Nat) (j : Addr) : (trF ah num m j).lookup ("jump" : Str) = some (.ref j) := by
  unfold trF
  rw [lookup_putF, if_pos rfl]
theorem trF_inj {ah ah' num num' : V} {m m' : Nat} {j j' : Addr} (h : trF ah num m j = trF ah' num' m' j') : ah = ah' ∧ num = num' ∧ m = m' ∧ j = j' := by
  have h1 := trF_ahead ah num m j
  rw [h, trF_ahead] at h1
  have h2 := trF_number ah num m j
  rw [h, trF_number] at h2
  have h3 := trF_many ah num m j
  rw [h, trF_many] at h3
  have h4 := trF_jump ah num m j
  rw [h, trF_jump] at h4
  injection h1 with h1
  injection h2 with h2
  injection h3 with h3
  injection h4 with h4
  injection h3 with h3
  injection h4 with h4
  exact ⟨h1.symm, h2.symm, by omega, h4.symm⟩
/-- the object at x stands for this row -/
inductive Tr (C : Addr) (H : Hp) : Addr → List Nat → Prop
  | root {x dx : Addr} : H x = some (.ins C dx (trF .non .non 0 x)) → Tr C H x []
  | node {x y z dx : Addr} {n : Nat} {l : List Nat} : H x = some (.ins C dx (trF (.ref y) (.int (n : Int)) (l.length + 1) z)) → Tr C H y l → Tr C H z ((l ++ [n]).take (J_ (l.length + 1))) → Tr C H x (l ++ [n])
theorem Tr.to {C : Addr} {H H' : Hp} {x : Addr} {l : List Nat} (h : Tr C H x l) (s : ∀ y dx ah num m z, H y = some (.ins C dx (trF ah num m z)) → H' y = some (.ins C dx (trF ah num m z))) : Tr C H' x l := by
  induction h with
  | root h => exact .root (s _ _ _ _ _ _ h)
  | node h _ _ h1 h2 => exact .node (s _ _ _ _ _ _ h) h1 h2
theorem Tr.same {C : Addr} {H H' : Hp} {x : Addr} {l : List Nat} (h : Tr C H x l) (s : Same H H') : Tr C H' x l := h.to fun _ _ _ _ _ _ e => s _ _ e
/-- what stands in it -/
theorem Tr.fields {C : Addr} {H : Hp} {x : Addr} {l : List Nat} (h : Tr C H x l) : ∃ (dx : Addr) (ah num : V) (z : Addr), H x = some (.ins C dx (trF ah num l.length z)) ∧ Tr C H z (l.take (J_ l.length)) ∧
    ((l = [] ∧ ah = .non ∧ num = .non ∧ z = x) ∨ ∃ (l' : List Nat) (n : Nat) (y : Addr), l = l' ++ [n] ∧ ah = .ref y ∧ num = .int (n : Int) ∧ Tr C H y l') := by
  cases h with
  | @root x dx h => exact ⟨dx, _, _, _, h, by rw [List.take_nil]; exact .root h, .inl ⟨rfl, rfl, rfl, rfl⟩⟩
  | @node x y z dx n l h h1 h2 =>
    have e : (l ++ [n]).length = l.length + 1 := by rw [List.length_append, List.length_singleton]
    exact ⟨dx, _, _, _, by rw [e]; exact h, by rw [e]; exact h2, .inr ⟨l, n, y, rfl, rfl, rfl, h1⟩⟩
theorem Tr.det {C : Addr} {H : Hp} {x : Addr} {l l' : List Nat} (h : Tr C H x l) (h' : Tr C H x l') : l = l' := by
  induction h generalizing l' with
  | root h =>
    cases h' with
    | root _ => rfl
    | node k _ _ =>
      rw [h] at k
      injection k with k
      injection k with _ _ k
      have := (trF_inj k).1
      cases this
  | node h _ _ ih _ =>
    cases h' with
    | root k =>
      rw [h] at k
      injection k with k
      injection k with _ _ k
      have := (trF_inj k).1
      cases this
    | node k k1 _ =>
      rw [h] at k
      injection k with k
      injection k with _ _ k
      obtain ⟨e1, e2, _, _⟩ := trF_inj k
      injection e1 with e1
      injection e2 with e2
      subst e1
      have e3 := Int.ofNat.inj e2
      rw [ih k1, e3]
/-- a set of trails, in which each row has one object -/
structure Fo (C : Addr) (H : Hp) (S : Addr → Prop) : Prop where
  tr : ∀ x, S x → ∃ l, Tr C H x l
  jump : ∀ x dx ah num m z, S x → H x = some (.ins C dx (trF ah num m z)) → S z
  ahead : ∀ x dx y num m z, S x → H x = some (.ins C dx (trF (.ref y) num m z)) → S y
  un : ∀ x y l, S x → S y → Tr C H x l → Tr C H y l → x = y
theorem Fo.to {C : Addr} {H H' : Hp} {S : Addr → Prop} (h : Fo C H S) (s : ∀ y dx ah num m z, H y = some (.ins C dx (trF ah num m z)) → H' y = some (.ins C dx (trF ah num m z))) : Fo C H' S := by
  have back : ∀ x dx f, S x → H' x = some (.ins C dx f) → H x = some (.ins C dx f) := fun x dx f hx e => by
    obtain ⟨l, hl⟩ := h.tr x hx
    obtain ⟨dx', ah, num, z, e2, _⟩ := hl.fields
    rw [s _ _ _ _ _ _ e2] at e
    rw [e2, e]
  refine ⟨fun x hx => (h.tr x hx).imp fun l q => q.to s, fun x dx ah num m z hx e => h.jump x dx ah num m z hx (back _ _ _ hx e), fun x dx y num m z hx e => h.ahead x dx y num m z hx (back _ _ _ hx e), fun x y l hx hy h1 h2 => ?_⟩
  obtain ⟨l1, k1⟩ := h.tr x hx
  obtain ⟨l2, k2⟩ := h.tr y hy
  have e1 := (k1.to s).det h1
  have e2 := (k2.to s).det h2
  subst e1
  subst e2
  exact h.un x y l2 hx hy k1 k2
theorem Fo.same {C : Addr} {H H' : Hp} {S : Addr → Prop} (h : Fo C H S) (s : Same H H') : Fo C H' S := h.to fun _ _ _ _ _ _ e => s _ _ e
/-- one more row -/
theorem Fo.put {C : Addr} {H : Hp} {S : Addr → Prop} {x y z dx : Addr} {n : Nat} {l : List Nat} (h : Fo C H S) (hy : S y) (ty : Tr C H y l) (hx : H x = some (.ins C dx (trF (.ref y) (.int (n : Int)) (l.length + 1) z))) (hz : S z ∨ z = y) (tz : Tr C H z ((l ++ [n]).take (J_ (l.length + 1)))) (new : ∀ u, S u → ¬ Tr C H u (l ++ [n])) : Fo C H (fun u => S u ∨ u = x) := by
  have tx : Tr C H x (l ++ [n]) := .node hx ty tz
  have hz : S z := hz.elim id fun e => e ▸ hy
  refine ⟨fun u hu => ?_, fun u dx' ah num m w hu e => ?_, fun u dx' w num m z' hu e => ?_, fun u v k hu hv h1 h2 => ?_⟩
  · rcases hu with hu | rfl
    · exact h.tr u hu
    · exact ⟨_, tx⟩
  · rcases hu with hu | rfl
    · exact .inl (h.jump u dx' ah num m w hu e)
    · rw [hx] at e
      injection e with e
      injection e with _ _ e
      exact .inl ((trF_inj e).2.2.2 ▸ hz)
  · rcases hu with hu | rfl
    · exact .inl (h.ahead u dx' w num m z' hu e)
    · rw [hx] at e
      injection e with e
      injection e with _ _ e
      have := (trF_inj e).1
      injection this with this
      exact .inl (this ▸ hy)
  · rcases hu with hu | rfl
    · rcases hv with hv | rfl
      · exact h.un u v k hu hv h1 h2
      · have := h2.det tx
        rw [this] at h1
        exact absurd h1 (new u hu)
    · rcases hv with hv | rfl
      · have := h1.det tx
        rw [this] at h2
        exact absurd h2 (new v hv)
      · rfl
/-! ### what two rows have in common at their beginning -/
def lcp : List Nat → List Nat → List Nat
  | a :: u, b :: v => if a = b then a :: lcp u v else []
  | _, _ => []
theorem lcp_pre : ∀ (u v : List Nat), lcp u v <+: u ∧ lcp u v <+: v
  | [], _ => ⟨⟨_, rfl⟩, List.nil_prefix⟩
  | _ :: _, [] => ⟨List.nil_prefix, ⟨_, rfl⟩⟩
  | a :: u, b :: v => by
    unfold lcp
    by_cases c : a = b
    · rw [if_pos c]
      have := lcp_pre u v
      exact ⟨List.cons_prefix_cons.mpr ⟨rfl, this.1⟩, List.cons_prefix_cons.mpr ⟨c, this.2⟩⟩
    · rw [if_neg c]
      exact ⟨List.nil_prefix, List.nil_prefix⟩
theorem lcp_max : ∀ {u v w : List Nat}, w <+: u → w <+: v → w <+: lcp u v := by
  intro u
  induction u with
  | nil => intro v w h _; rw [List.prefix_nil.mp h]; exact List.nil_prefix
  | cons a u ih =>
    intro v w h1 h2
    cases w with
    | nil => exact List.nil_prefix
    | cons c w =>
      cases v with
      | nil => cases List.prefix_nil.mp h2
      | cons b v =>
        obtain ⟨rfl, k1⟩ := List.cons_prefix_cons.mp h1
        obtain ⟨rfl, k2⟩ := List.cons_prefix_cons.mp h2
        unfold lcp
        rw [if_pos rfl]
        exact List.cons_prefix_cons.mpr ⟨rfl, ih k1 k2⟩
/-- equal beginnings are within the common one -/
theorem lcp_take {u v : List Nat} {d : Nat} (h1 : d ≤ u.length) (h2 : d ≤ v.length) : u.take d = v.take d ↔ d ≤ (lcp u v).length := by
  constructor
  · intro e
    have := (lcp_max (List.take_prefix d u) (e ▸ List.take_prefix d v : u.take d <+: v)).length_le
    rw [List.length_take] at this
    omega
  · intro h
    obtain ⟨p1, p2⟩ := lcp_pre u v
    rw [← (List.prefix_iff_eq_take.mp p1 ▸ rfl : lcp u v = lcp u v)] at h
    have e1 : u.take d = (lcp u v).take d := by
      conv => rhs; rw [List.prefix_iff_eq_take.mp p1]
      rw [List.take_take, Nat.min_eq_left h]
    have e2 : v.take d = (lcp u v).take d := by
      conv => rhs; rw [List.prefix_iff_eq_take.mp p2]
      rw [List.take_take, Nat.min_eq_left h]
    rw [e1, e2]
theorem lcp_len (u v : List Nat) : (lcp u v).length ≤ u.length ∧ (lcp u v).length ≤ v.length := ⟨(lcp_pre u v).1.length_le, (lcp_pre u v).2.length_le⟩
theorem lcp_is {u v : List Nat} {d : Nat} (h : d = (lcp u v).length) : u.take d = lcp u v := by
  rw [h]
  exact (List.prefix_iff_eq_take.mp (lcp_pre u v).1).symm
end J


set_option Elab.async false
set_option linter.all false
set_option maxRecDepth 100000
set_option maxHeartbeats 4000000
namespace J
open PySem L2
/-! ### the arcs by state and beginning of the word -/
abbrev En := Nat × List Nat × Nat
abbrev Ky := Nat × List Nat
def bgk (q : Ky) : List Key := [.inl (q.1 : Int), .inr (SX.S q.2)]
theorem S_injE {u v : List Nat} (h : SX.S u = SX.S v) : u = v := by
  unfold SX.S at h
  injection h with h
  simpa using h
theorem bgk_inj {q r : Ky} (h : bgk q = bgk r) : q = r := by
  unfold bgk at h
  injection h with h1 h2
  injection h2 with h2 _
  injection h1 with h1
  injection h2 with h2
  exact Prod.ext (by omega) (S_injE h2)
def ctL (ps : List (Ky × En)) (q : Ky) : List En := (ps.filter fun p => decide (p.1 = q)).map (·.2)
theorem ctL_snoc (ps : List (Ky × En)) (p : Ky × En) (q : Ky) : ctL (ps ++ [p]) q = ctL ps q ++ if p.1 = q then [p.2] else [] := by
  unfold ctL
  rw [List.filter_append, List.map_append]
  congr 1
  by_cases c : p.1 = q
  · rw [if_pos c, List.filter_cons, if_pos (decide_eq_true c)]; rfl
  · rw [if_neg c, List.filter_cons, if_neg (by simpa using c)]; rfl
theorem ctL_len (ps : List (Ky × En)) (q : Ky) : (ctL ps q).length ≤ ps.length := by
  unfold ctL
  rw [List.length_map]
  exact List.length_filter_le _ _
def TbC (H0 H : Hp) (d : Addr) (ps : List (Ky × En)) : Prop := ∃ (kvs : List (List Key × V)) (at_ : Ky → Addr), H0 d = none ∧ H d = some (.dT kvs) ∧ kvs.length ≤ ps.length ∧
  (∀ q, ctL ps q = [] → valV kvs (bgk q) = none) ∧
  (∀ q, ctL ps q ≠ [] → valV kvs (bgk q) = some (.ref (at_ q)) ∧ H0 (at_ q) = none ∧ ∃ us, H (at_ q) = some (.lst us) ∧ Lv H us (ctL ps q)) ∧
  (∀ q r, ctL ps q ≠ [] → ctL ps r ≠ [] → at_ q = at_ r → q = r)
theorem TbC.same {H0 H H' : Hp} {d : Addr} {ps : List (Ky × En)} (h : TbC H0 H d ps) (s : Same H H') : TbC H0 H' d ps := by
  obtain ⟨kvs, at_, h0, h1, h2, h3, h4, h5⟩ := h
  refine ⟨kvs, at_, h0, s _ _ h1, h2, h3, fun g hg => ?_, h5⟩
  obtain ⟨e1, e2, us, e3, e4⟩ := h4 g hg
  exact ⟨e1, e2, us, s _ _ e3, e4.same s⟩
/-- one more item where there are some -/
theorem TbC.old {H0 H : Hp} {d et : Addr} {ps : List (Ky × En)} {q : Ky} {e : En} {kvs : List (List Key × V)} {v : V} (h : TbC H0 H d ps) (hk : H d = some (.dT kvs)) (hv : valV kvs (bgk q) = some v) :
    ∃ (l : Addr) (us : List V), v = .ref l ∧ H l = some (.lst us) ∧ us.length ≤ ps.length ∧ H0 l = none ∧ ∀ H1, Same H H1 → H1 et = some (entHO e) → TbC H0 (upd H1 l (.lst (us ++ [.ref et]))) d (ps ++ [(q, e)]) := by
  obtain ⟨kvs', at_, h0, hd, hkl, hnone, hsome, hinj⟩ := h
  rw [hk] at hd
  cases hd
  have hne : ctL ps q ≠ [] := fun z => by rw [hnone _ z] at hv; cases hv
  obtain ⟨e1, e2, us, e3, e4⟩ := hsome _ hne
  rw [e1] at hv
  cases hv
  have hnd : at_ q ≠ d := fun z => by rw [z, hk] at e3; cases e3
  refine ⟨at_ q, us, rfl, e3, by rw [e4.1]; exact ctL_len _ _, e2, fun H1 s g => ?_⟩
  have tk : ∀ t xs, H1 t = some (.tup xs) → upd H1 (at_ q) (.lst (us ++ [.ref et])) t = some (.tup xs) := fun t xs h => by
    rw [upd_ne (fun z => by rw [z, s _ _ e3] at h; cases h)]
    exact h
  have back : ∀ r, ctL (ps ++ [(q, e)]) r ≠ [] → ctL ps r ≠ [] := fun r hr => by
    by_cases c : q = r
    · rw [← c]; exact hne
    · rw [ctL_snoc, if_neg c, List.append_nil] at hr; exact hr
  refine ⟨kvs, at_, h0, by rw [upd_ne hnd.symm]; exact s _ _ hk, by rw [List.length_append]; omega, fun r hr => ?_, fun r hr => ?_, fun r r' hr hr' => hinj r r' (back r hr) (back r' hr')⟩
  · rw [ctL_snoc] at hr
    exact hnone r (List.append_eq_nil_iff.mp hr).1
  · rw [ctL_snoc] at hr ⊢
    by_cases c : q = r
    · subst c
      rw [if_pos rfl]
      exact ⟨e1, e2, _, upd_same, ((e4.same s).to tk).snoc (tk _ _ g)⟩
    · rw [if_neg (show ¬ (q, e).1 = r from c), List.append_nil] at hr ⊢
      obtain ⟨f1, f2, us2, f3, f4⟩ := hsome r hr
      refine ⟨f1, f2, us2, ?_, (f4.same s).to tk⟩
      rw [upd_ne (fun z => c (hinj _ _ hr hne z).symm)]
      exact s _ _ f3
/-- the first item of its kind -/
theorem TbC.fresh {H0 H : Hp} {d et l' : Addr} {ps : List (Ky × En)} {q : Ky} {e : En} {kvs : List (List Key × V)} (h : TbC H0 H d ps) (hk : H d = some (.dT kvs)) (hv : valV kvs (bgk q) = none) (hl : H l' = none) (hl0 : H0 l' = none)
    {H1 H2 : Hp} (k1 : ∀ b o, b ≠ d → H b = some o → H1 b = some o) (g1 : H1 d = some (.dT (putK kvs (bgk q) (.ref l')))) (s : Same H1 H2) (gl : H2 l' = some (.lst [])) (g : H2 et = some (entHO e)) : TbC H0 (upd H2 l' (.lst [.ref et])) d (ps ++ [(q, e)]) := by
  obtain ⟨kvs', at_, h0, hd, hkl, hnone, hsome, hinj⟩ := h
  rw [hk] at hd
  cases hd
  have hemp : ctL ps q = [] := Classical.byContradiction fun z => by
    rw [(hsome _ z).1] at hv
    cases hv
  have nld : l' ≠ d := fun z => by rw [z, hk] at hl; cases hl
  have k8 : ∀ b o, b ≠ d → b ≠ l' → H b = some o → upd H2 l' (.lst [.ref et]) b = some o := fun b o n1 n2 h => by rw [upd_ne n2]; exact s _ _ (k1 b o n1 h)
  have old : ∀ r, q ≠ r → ctL (ps ++ [(q, e)]) r = ctL ps r := fun r c => by rw [ctL_snoc, if_neg (show ¬ (q, e).1 = r from c), List.append_nil]
  have own : ctL (ps ++ [(q, e)]) q = [e] := by rw [ctL_snoc, if_pos rfl, hemp]; rfl
  have kne : ∀ r, q ≠ r → ¬ (bgk r = bgk q) := fun r c z => c (bgk_inj z).symm
  obtain ⟨f, fown, fne⟩ : ∃ f : Ky → Addr, f q = l' ∧ ∀ r, q ≠ r → f r = at_ r := ⟨fun r => if r = q then l' else at_ r, if_pos rfl, fun r c => if_neg fun z => c z.symm⟩
  refine ⟨putK kvs (bgk q) (.ref l'), f, h0, by rw [upd_ne nld.symm]; exact s _ _ g1, ?_, fun r hr => ?_, fun r hr => ?_, fun r r' hr hr' e' => ?_⟩
  · have := length_putK kvs (bgk q) (.ref l')
    rw [List.length_append, List.length_singleton]
    omega
  · by_cases c : q = r
    · subst c; rw [own] at hr; cases hr
    · rw [valV_put, if_neg (kne r c)]
      rw [old r c] at hr
      exact hnone r hr
  · by_cases c : q = r
    · subst c
      rw [own, valV_put, if_pos rfl, fown]
      refine ⟨rfl, hl0, [.ref et], upd_same, rfl, fun j x hj => ?_⟩
      cases j with
      | zero =>
        simp at hj
        subst hj
        exact ⟨et, rfl, by rw [upd_ne (fun z => by rw [z, gl] at g; cases g)]; exact g⟩
      | succ j => simp at hj
    · rw [old r c] at hr ⊢
      rw [valV_put, if_neg (kne r c), fne r c]
      obtain ⟨f1, f2, us2, f3, f4⟩ := hsome r hr
      refine ⟨f1, f2, us2, k8 _ _ (fun z => by rw [z, hk] at f3; cases f3) (fun z => by rw [z, hl] at f3; cases f3) f3, f4.to fun t xs h => k8 _ _ (fun z => by rw [z, hk] at h; cases h) (fun z => by rw [z, hl] at h; cases h) h⟩
  · have far : ∀ r, q ≠ r → ctL (ps ++ [(q, e)]) r ≠ [] → at_ r ≠ l' := fun r c h z => by
      rw [old r c] at h
      obtain ⟨_, _, us2, f3, _⟩ := hsome r h
      rw [z, hl] at f3
      cases f3
    by_cases c : q = r
    · by_cases c' : q = r'
      · exact c.symm.trans c'
      · subst c
        rw [fown, fne r' c'] at e'
        exact absurd e'.symm (far r' c' hr')
    · by_cases c' : q = r'
      · subst c'
        rw [fown, fne r c] at e'
        exact absurd e' (far r c hr)
      · rw [fne r c, fne r' c'] at e'
        rw [old r c] at hr
        rw [old r' c'] at hr'
        exact hinj r r' hr hr' e'
/-- what the arcs give: for each arc, for each beginning of its word -/
def prsA (n : Nat) (a : Arc) (m : Nat) : List (Ky × En) := (List.range m).map fun j => ((a.1, a.2.1.take (j + 1)), (n, a.2.1, a.2.2))
def prsAll : Nat → List Arc → List (Ky × En)
  | _, [] => []
  | n, a :: r => prsA n a a.2.1.length ++ prsAll (n + 1) r
theorem prsA_succ (n : Nat) (a : Arc) (m : Nat) : prsA n a (m + 1) = prsA n a m ++ [((a.1, a.2.1.take (m + 1)), (n, a.2.1, a.2.2))] := by
  unfold prsA
  rw [List.range_succ, List.map_append]
  rfl
theorem prsAll_snoc (a : Arc) : ∀ (as : List Arc) (n : Nat), prsAll n (as ++ [a]) = prsAll n as ++ prsA (n + as.length) a a.2.1.length
  | [], n => by
    show prsA n a a.2.1.length ++ [] = [] ++ prsA (n + 0) a a.2.1.length
    rw [List.append_nil, List.nil_append, Nat.add_zero]
  | b :: r, n => by
    show prsA n b b.2.1.length ++ prsAll (n + 1) (r ++ [a]) = (prsA n b b.2.1.length ++ prsAll (n + 1) r) ++ _
    rw [prsAll_snoc a r (n + 1), List.append_assoc, List.length_cons, show n + 1 + r.length = n + (r.length + 1) by omega]
theorem prsA_len (n : Nat) (a : Arc) (m : Nat) : (prsA n a m).length = m := by unfold prsA; rw [List.length_map, List.length_range]
theorem prsAll_len : ∀ (as : List Arc) (n : Nat), (∀ a ∈ as, a.2.1.length ≤ 12) → (prsAll n as).length ≤ 12 * as.length
  | [], _, _ => Nat.le_refl _
  | a :: r, n, h => by
    have ih := prsAll_len r (n + 1) fun b hb => h b (List.mem_cons_of_mem _ hb)
    have h1 := h a (List.mem_cons_self ..)
    show (prsA n a a.2.1.length ++ prsAll (n + 1) r).length ≤ 12 * (r.length + 1)
    rw [List.length_append, prsA_len]
    omega
/-- the arcs that leave a state and whose words begin so -/
def bgs (g : Nat) (u : List Nat) : Nat → List Arc → List En
  | _, [] => []
  | n, a :: r => if a.1 = g ∧ u <+: a.2.1 then (n, a.2.1, a.2.2) :: bgs g u (n + 1) r else bgs g u (n + 1) r
instance (g : Nat) (u w : List Nat) (x : Nat) : Decidable (x = g ∧ u <+: w) := inferInstance
theorem ctL_app (ps qs : List (Ky × En)) (q : Ky) : ctL (ps ++ qs) q = ctL ps q ++ ctL qs q := by
  unfold ctL
  rw [List.filter_append, List.map_append]
theorem ctL_prsA (n : Nat) (a : Arc) (g : Nat) (u : List Nat) (hu : u ≠ []) : ∀ m, m ≤ a.2.1.length → ctL (prsA n a m) (g, u) = if a.1 = g ∧ u <+: a.2.1 ∧ u.length ≤ m then [(n, a.2.1, a.2.2)] else [] := fun m => by
  induction m with
  | zero =>
    intro _
    rw [if_neg fun z => hu (List.eq_nil_of_length_eq_zero (by omega))]
    rfl
  | succ m ih =>
    intro hm
    rw [prsA_succ, ctL_snoc, ih (by omega)]
    by_cases c : a.1 = g ∧ u <+: a.2.1 ∧ u.length ≤ m
    · have hk : ¬ ((a.1, a.2.1.take (m + 1)) : Ky) = (g, u) := fun z => by
        injection z with _ z
        have := congrArg List.length z
        rw [List.length_take] at this
        omega
      rw [if_pos c, if_neg hk, if_pos ⟨c.1, c.2.1, by omega⟩, List.append_nil]
    · rw [if_neg c]
      by_cases d : a.1 = g ∧ u <+: a.2.1 ∧ u.length ≤ m + 1
      · have e : a.2.1.take (m + 1) = u := by
          have hl : u.length = m + 1 := by
            apply Classical.byContradiction
            intro z
            exact c ⟨d.1, d.2.1, by omega⟩
          rw [← hl]
          exact (List.prefix_iff_eq_take.mp d.2.1).symm
        rw [if_pos (show ((a.1, a.2.1.take (m + 1)) : Ky) = (g, u) by rw [d.1, e]), if_pos d]
        rfl
      · have hk : ¬ ((a.1, a.2.1.take (m + 1)) : Ky) = (g, u) := fun z => by
          injection z with z1 z2
          exact d ⟨z1, by rw [← z2]; exact List.take_prefix _ _, by rw [← z2, List.length_take]; omega⟩
        rw [if_neg hk, if_neg d]
        rfl
theorem ctL_all (g : Nat) (u : List Nat) (hu : u ≠ []) : ∀ (as : List Arc) (n : Nat), ctL (prsAll n as) (g, u) = bgs g u n as
  | [], _ => rfl
  | a :: r, n => by
    show ctL (prsA n a a.2.1.length ++ prsAll (n + 1) r) (g, u) = if a.1 = g ∧ u <+: a.2.1 then (n, a.2.1, a.2.2) :: bgs g u (n + 1) r else bgs g u (n + 1) r
    rw [ctL_app, ctL_prsA n a g u hu _ (Nat.le_refl _), ctL_all g u hu r (n + 1)]
    by_cases c : a.1 = g ∧ u <+: a.2.1
    · rw [if_pos c, if_pos ⟨c.1, c.2, c.2.length_le⟩]; rfl
    · rw [if_neg c, if_neg fun z => c ⟨z.1, z.2.1⟩]; rfl
theorem mem_bgs {g : Nat} {u : List Nat} {e : En} : ∀ {as : List Arc} {n : Nat}, e ∈ bgs g u n as ↔ n ≤ e.1 ∧ as[e.1 - n]? = some (g, e.2.1, e.2.2) ∧ u <+: e.2.1 := by
  intro as
  induction as with
  | nil => intro n; simp [bgs]
  | cons a r ih =>
    intro n
    show e ∈ (if a.1 = g ∧ u <+: a.2.1 then (n, a.2.1, a.2.2) :: bgs g u (n + 1) r else bgs g u (n + 1) r) ↔ _
    have hr := @ih (n + 1)
    by_cases q : e.1 = n
    · have n0 : e.1 - n = 0 := by omega
      have hno : e ∉ bgs g u (n + 1) r := fun z => by
        have := (hr.mp z).1
        omega
      rw [n0]
      by_cases c : a.1 = g ∧ u <+: a.2.1
      · rw [if_pos c]
        constructor
        · intro z
          rcases List.mem_cons.mp z with rfl | z
          · exact ⟨Nat.le_refl _, by rw [← c.1]; rfl, c.2⟩
          · exact absurd z hno
        · rintro ⟨_, h2, h3⟩
          have h2 : a = (g, e.2.1, e.2.2) := Option.some.inj h2
          rw [h2, ← q]
          exact List.mem_cons_self ..
      · rw [if_neg c]
        constructor
        · exact fun z => absurd z hno
        · rintro ⟨_, h2, h3⟩
          have h2 : a = (g, e.2.1, e.2.2) := Option.some.inj h2
          exact absurd ⟨by rw [h2], by rw [h2]; exact h3⟩ c
    · have key : e ∈ bgs g u (n + 1) r ↔ n ≤ e.1 ∧ (a :: r)[e.1 - n]? = some (g, e.2.1, e.2.2) ∧ u <+: e.2.1 := by
        rw [hr]
        constructor
        · rintro ⟨h1, h2, h3⟩
          refine ⟨by omega, ?_, h3⟩
          rw [show e.1 - n = (e.1 - (n + 1)) + 1 by omega, List.getElem?_cons_succ]
          exact h2
        · rintro ⟨h1, h2, h3⟩
          refine ⟨by omega, ?_, h3⟩
          rw [show e.1 - n = (e.1 - (n + 1)) + 1 by omega, List.getElem?_cons_succ] at h2
          exact h2
      by_cases c : a.1 = g ∧ u <+: a.2.1
      · rw [if_pos c, ← key]
        constructor
        · intro z
          rcases List.mem_cons.mp z with rfl | z
          · exact absurd rfl q
          · exact z
        · exact fun z => List.mem_cons_of_mem _ z
      · rw [if_neg c]
        exact key
theorem bgs_nodup (g : Nat) (u : List Nat) : ∀ (as : List Arc) (n : Nat), (bgs g u n as).Pairwise fun x y => x.1 < y.1
  | [], _ => List.Pairwise.nil
  | a :: r, n => by
    show (if a.1 = g ∧ u <+: a.2.1 then (n, a.2.1, a.2.2) :: bgs g u (n + 1) r else bgs g u (n + 1) r).Pairwise _
    by_cases c : a.1 = g ∧ u <+: a.2.1
    · rw [if_pos c]
      refine List.pairwise_cons.mpr ⟨fun e he => ?_, bgs_nodup g u r (n + 1)⟩
      have := (mem_bgs.mp he).1
      show n < e.1
      omega
    · rw [if_neg c]
      exact bgs_nodup g u r (n + 1)
end J


set_option Elab.async false
set_option linter.all false
set_option maxRecDepth 100000
set_option maxHeartbeats 4000000
namespace J
open PySem L2
theorem cutS_upto (x : List Nat) (k : Nat) : cutS (SX.S x) none (some (k : Int)) = SX.S (x.take k) := by
  unfold cutS
  rw [HT.sIx_nat, HT.sIx_none, SX.S_len]
  show SX.S ((x.drop 0).take (min k x.length - 0)) = SX.S (x.take k)
  rw [List.drop_zero, Nat.sub_zero]
  congr 1
  rw [← List.take_take, List.take_length]
def spTab (C : Addr) : Sp := fun vs H Q _ => ∃ (q : Addr) (sg : List Nat) (us : List V) (as : List Arc), vs = [.ref q] ∧ LoomAt C H q sg us as ∧ ∀ (H' : Hp) (d : Addr), Same H H' → TbC H H' d (prsAll 0 as) → Q (.ref d) H'
section
variable {P : Program} {w : World} {K : PySem.W.Frag} {mg : Str → Option Value} {base : Heap}
theorem ok_arcs_by_beginnings (T : Tx K mg) : FnOk P w K mg base CX0 1 T.f_arcs_by_beginnings T.fd_arcs_by_beginnings P_arcs_by_beginnings (spTab T.C_Loom) := by
  refine T.F_arcs_by_beginnings.ok sc_arcs_by_beginnings (fun vs H Q E h => ?_) (fun cdv A outer s H vs Q E hr h => ?_)
  · obtain ⟨q, sg, us, as, rfl, _⟩ := h
    rfl
  · obtain ⟨q, sg, us, as, rfl, ⟨dx, TT, hq, hT, harc, hok, hsg⟩, k⟩ := h
    refine ⟨_, (pss_cons (ps_set (i := 1) sc_arcs_by_beginnings.nd rfl (Or.inl rfl) pe_dnewT)
        (pss_cons (ps_for PassesOwn.never rfl (pi_enumT rfl T.n_enumerate (pa_cons (pe_fld (pv 0) rfl) pa_nil)) (pg_tup rfl (pgs_cons (pg_name (i := 2) sc_arcs_by_beginnings.nd rfl (Or.inl rfl)) (pgs_cons (pg_tup rfl (pgs_cons (pg_name (i := 3) sc_arcs_by_beginnings.nd rfl (Or.inl rfl)) (pgs_cons (pg_name (i := 4) sc_arcs_by_beginnings.nd rfl (Or.inl rfl)) (pgs_cons (pg_name (i := 5) sc_arcs_by_beginnings.nd rfl (Or.inl rfl)) pgs_nil)))) pgs_nil))) (pss_one (ps_for PassesOwn.never rfl (pi_range2 rfl T.n_range (pa_cons pe_int (pa_cons (pe_op op_add (pe_callB call_len_str rfl T.n_len (by decide +kernel) (pa_cons (pv 4) pa_nil)) pe_int) pa_nil))) (pg_name (i := 6) sc_arcs_by_beginnings.nd rfl (Or.inl rfl)) (pss_one (ps_expr (pe_bm PySem.F.plainAttrs_list PySem.F.slot_list_append PySem.F.type_list_append mt_append (pe_dsetdT (hu_of hr) (pv 1) (pe_tup (pa_cons (pv 3) (pa_cons (pe_slice sl_str (pv 4) po_none (po_some (pv 6))) pa_nil))) (pe_lst pa_nil) ⟨rfl, rfl, rfl, rfl⟩) (pa_cons (pe_tup (pa_cons (pv 2) (pa_cons (pv 4) (pa_cons (pv 5) pa_nil)))) pa_nil)))))))
        (pss_one (ps_ret (pv 1))))), ?_⟩
    intro d hd
    have s1 : Same H (upd H d (.dT [])) := Same.new _ hd
    have g1 : upd H d (.dT []) d = some (.dT []) := upd_same
    generalize upd H d (.dT []) = H1 at *
    have hl := hok.2.1
    have oka := hok.all
    refine ⟨_, rfl, q, _, dx, _, _, rfl, s1 _ _ hq, T.cl_Loom, T.na_Loom_arcs, lf_arcs _ _, TT, us, rfl, SqT.of (s1 _ _ hT), for_it (walk_enumT (K := K) (a := TT) (xs := us)) (fun i σ H' => ∃ v2 v3 v4 v5 v6 : Option V, σ = [some (.ref q), some (.ref d), v2, v3, v4, v5, v6] ∧ Same H H' ∧ TbC H H' d (prsAll 0 (as.take i))) ?_ ?_ ?_ ?_⟩
    · exact ⟨none, none, none, none, none, rfl, s1, [], fun _ => 0, hd, g1, Nat.zero_le _, fun q _ => rfl, fun q h => absurd rfl h, fun q r h => absurd rfl h⟩
    · rintro i σ H' _ ⟨_, _, _, _, _, _, sm, _⟩
      exact SqT.of (sm _ _ hT)
    · rintro i x σ H3 H4 hi ⟨v2, v3, v4, v5, v6, rfl, s3, tab⟩ ⟨tp, x1, y1, rfl, ht, rfl, hx1, hy1⟩
      cases hx1
      have hia : i < as.length := by rw [← harc.1]; exact hi
      obtain ⟨t, hut, htt⟩ := harc.2 i as[i] (List.getElem?_eq_getElem hia)
      replace hy1 : us[i]? = some y1 := hy1
      rw [hut] at hy1
      cases hy1
      have sn := Same.new (.tup [V.int (i : Int), .ref t]) ht
      have tab4 := tab.same sn
      have s4 := s3.trans sn
      refine ⟨tp, _, rfl, SqT.of upd_same, rfl, _, _, rfl, _, _, rfl, t, _, rfl, SqT.of (s4 _ _ htt), rfl, _, _, rfl, _, _, rfl, _, _, rfl, rfl, rfl, ?_⟩
      generalize upd H3 tp (.tup [V.int (i : Int), .ref t]) = H4 at *
      clear s3 sn ht hut
      obtain ⟨o1, o2, o3, o4⟩ := oka.2 as[i] (List.getElem_mem hia)
      have hwl : (SX.S as[i].2.1).length ≤ sizeLine := le_size (by rw [SX.S_len]; omega)
      have eln : ((SX.S as[i].2.1).length : Int) = (as[i].2.1.length : Int) := by rw [SX.S_len]
      refine ⟨_, rfl, _, rfl, hwl, _, _, rfl, rfl, 1, ((SX.S as[i].2.1).length : Int) + 1, rfl, ⟨by decide, by decide, by omega, by omega⟩, ?_⟩
      rw [show (((SX.S as[i].2.1).length : Int) + 1 - 1).toNat = as[i].2.1.length by omega]
      refine for_range (lo := 1) (n := as[i].2.1.length) (fun j σ H' => ∃ v6 : Option V, σ = [some (.ref q), some (.ref d), some (.int (i : Int)), some (.int (as[i].1 : Int)), some (.str (SX.S as[i].2.1)), some (.int (as[i].2.2 : Int)), v6] ∧ Same H H' ∧ TbC H H' d (prsAll 0 (as.take i) ++ prsA i as[i] j)) ?_ ?_ ?_
      · exact ⟨v6, rfl, s4, by rw [show prsA i as[i] 0 = [] from rfl, List.append_nil]; exact tab4⟩
      · rintro j σ H5 hj ⟨v6, rfl, s5, tab5⟩
        obtain ⟨kvs, at_, h0, hkv, hkl, _⟩ := id tab5
        have hpl : (prsAll 0 (as.take i) ++ prsA i as[i] j).length ≤ 2412 := by
          rw [List.length_append, prsA_len]
          have := prsAll_len (as.take i) 0 fun a ha => (oka.2 a (List.mem_of_mem_take ha)).2.2.1
          rw [List.length_take] at this
          omega
        have epr : prsAll 0 (as.take i) ++ prsA i as[i] (j + 1) = (prsAll 0 (as.take i) ++ prsA i as[i] j) ++ [((as[i].1, as[i].2.1.take (j + 1)), (i, as[i].2.1, as[i].2.2))] := by rw [prsA_succ, List.append_assoc]
        refine ⟨_, rfl, d, rfl, .inr ⟨kvs, .inl hkv⟩, ?_⟩
        refine ⟨_, rfl, _, rfl, _, rfl, _, rfl, _, rfl, hwl, ?_⟩
        rw [show (1 + (j : Int)) = ((j + 1 : Nat) : Int) by omega, cutS_upto]
        refine ⟨le_size (by simp), fun kt hkt => ?_⟩
        have q1 : Same H5 (upd H5 kt (.tup [V.int (as[i].1 : Int), V.str (SX.S (as[i].2.1.take (j + 1)))])) := Same.new _ hkt
        have gk : upd H5 kt (.tup [V.int (as[i].1 : Int), V.str (SX.S (as[i].2.1.take (j + 1)))]) kt = some (.tup (([.inl (as[i].1 : Int), .inr (SX.S (as[i].2.1.take (j + 1)))] : List Key).map kV)) := upd_same
        generalize upd H5 kt (.tup [V.int (as[i].1 : Int), V.str (SX.S (as[i].2.1.take (j + 1)))]) = H6 at *
        refine ⟨le_size (by simp), fun l' hl' => ?_⟩
        have q2 : Same H6 (upd H6 l' (.lst [])) := Same.new _ hl'
        have gl : upd H6 l' (.lst []) l' = some (.lst []) := upd_same
        have S6 := s5.trans q1
        have hl0 : H l' = none := S6.free hl'
        have hk6 := q1 _ _ hkv
        have hk7 := q2 _ _ hk6
        have gk7 := q2 _ _ gk
        have nld : l' ≠ d := hp_ne hk6 hl'
        have S7 := S6.trans q2
        have q12 := q1.trans q2
        have tab7 := (tab5.same q1).same q2
        generalize upd H6 l' (.lst []) = H7 at *
        refine ⟨kvs, _, kt, hk7, rfl, gk7, lt_size (by omega), fun v hv => ?_, fun hn => ?_⟩
        · obtain ⟨l, us', rfl, a2, a3, a4, fin⟩ := tab7.old (et := 0) (e := (i, as[i].2.1, as[i].2.2)) (q := (as[i].1, as[i].2.1.take (j + 1))) hk7 hv
          refine ⟨.inl ⟨rfl, _, SqL.of a2⟩, _, rfl, _, rfl, _, rfl, le_size (by simp), fun et het => ?_⟩
          have q3 := Same.new (.tup [V.int (i : Int), V.str (SX.S as[i].2.1), V.int (as[i].2.2 : Int)]) het
          obtain ⟨l2, us2, e2, b2, _, _, fin⟩ := tab7.old (et := et) (e := (i, as[i].2.1, as[i].2.2)) (q := (as[i].1, as[i].2.1.take (j + 1))) hk7 hv
          cases e2
          rw [a2] at b2
          cases b2
          refine ⟨l, _, _, rfl, rfl, q3 _ _ a2, lt_size (by omega), ?_⟩
          refine ⟨_, rfl, (S7.trans q3).updNew a4, ?_⟩
          rw [epr]
          exact fin _ q3 upd_same
        · have gl2 : upd H7 d (.dT (putK kvs ([.inl (as[i].1 : Int), .inr (SX.S (as[i].2.1.take (j + 1)))] : List Key) (.ref l'))) l' = some (.lst []) := by rw [upd_ne nld]; exact gl
          refine ⟨.inl ⟨rfl, _, SqL.of gl2⟩, _, rfl, _, rfl, _, rfl, le_size (by simp), fun et het => ?_⟩
          have q3 := Same.new (.tup [V.int (i : Int), V.str (SX.S as[i].2.1), V.int (as[i].2.2 : Int)]) het
          refine ⟨l', _, _, rfl, rfl, q3 _ _ gl2, by decide, ?_⟩
          refine ⟨_, rfl, ((S7.updNew hd).trans q3).updNew hl0, ?_⟩
          rw [epr]
          refine TbC.fresh (H := H6) (q := (as[i].1, as[i].2.1.take (j + 1))) (tab5.same q1) hk6 hn hl' hl0 (fun b o n h => ?_) upd_same q3 (q3 _ _ gl2) upd_same
          rw [upd_ne n]
          exact q2 _ _ h
      · rintro σ H5 ⟨v6, rfl, s5, tab5⟩
        refine ⟨_, _, _, _, _, rfl, s5, ?_⟩
        have e : prsAll 0 (as.take (i + 1)) = prsAll 0 (as.take i) ++ prsA i as[i] as[i].2.1.length := by
          rw [← take_snoc (List.getElem?_eq_getElem hia), prsAll_snoc, List.length_take, Nat.min_eq_left (by omega), Nat.zero_add]
        rw [e]
        exact tab5
    · rintro σ H3 ⟨v2, v3, v4, v5, v6, rfl, s3, tab⟩
      rw [harc.1, List.take_length] at tab
      exact ⟨_, rfl, k H3 d s3 tab⟩
end
end J


set_option Elab.async false
set_option linter.all false
set_option maxRecDepth 100000
set_option maxHeartbeats 4000000
namespace J
open PySem L2
def spTrail (C : Addr) : Sp := fun vs H Q _ => (∃ (x dx : Addr), vs = [.ref x, .non, .non] ∧ H x = some (.ins C dx []) ∧ ∀ H', Ex x H H' → H' x = some (.ins C dx (trF .non .non 0 x)) → Q .non H') ∨
  ∃ (x dx y : Addr) (n : Nat) (l : List Nat), vs = [.ref x, .ref y, .int (n : Int)] ∧ H x = some (.ins C dx []) ∧ Tr C H y l ∧ ∀ H' z, Ex x H H' → H' x = some (.ins C dx (trF (.ref y) (.int (n : Int)) (l.length + 1) z)) → Tr C H' z ((l ++ [n]).take (J_ (l.length + 1))) → (∀ S, Fo C H S → S y → S z) → Q .non H'
def spCut (C : Addr) : Sp := fun vs H Q _ => ∃ (x : Addr) (l : List Nat) (k : Nat), vs = [.ref x, .int (k : Int)] ∧ Tr C H x l ∧ ∀ y, Tr C H y (l.take k) → (∀ S, Fo C H S → S x → S y) → Q (.ref y) H
def spShared (C : Addr) : Sp := fun vs H Q _ => ∃ (x y : Addr) (l l' : List Nat) (S : Addr → Prop), vs = [.ref x, .ref y] ∧ Fo C H S ∧ S x ∧ S y ∧ Tr C H x l ∧ Tr C H y l' ∧ ∀ z, S z → Tr C H z (lcp l l') → Q (.ref z) H
def spBeyond (C : Addr) : Sp := fun vs H Q _ => ∃ (x : Addr) (l : List Nat) (k : Nat), vs = [.ref x, .int (k : Int)] ∧ Tr C H x l ∧ l.length ≤ 2000 ∧ ∀ H' r, Same H H' → H r = none → H' r = some (.lst (nats (l.drop k))) → Q (.ref r) H'
theorem nats_lenY (l : List Nat) : (nats l).length = l.length := List.length_map _
section
variable {P : Program} {w : World} {K : PySem.W.Frag} {mg : Str → Option Value} {base : Heap}
theorem ok_Trail_init (T : Tx K mg) : FnOk P w K mg base CX0 1 T.f_Trail_init T.fd_Trail_init P_Trail_init (spTrail T.C_Trail) := by
  refine T.F_Trail_init.ok sc_Trail_init (fun vs H Q E h => ?_) (fun cdv A outer s H vs Q E hr h => ?_)
  · rcases h with ⟨x, dx, rfl, _⟩ | ⟨x, dx, y, n, l, rfl, _⟩ <;> rfl
  · have hvs : ∃ a b c, vs = [a, b, c] := by rcases h with ⟨x, dx, rfl, _⟩ | ⟨x, dx, y, n, l, rfl, _⟩ <;> exact ⟨_, _, _, rfl⟩
    obtain ⟨a, b, c, rfl⟩ := hvs
    refine ⟨_, (pss_cons (ps_fld (pv 0) (pv 1) rfl)
        (pss_cons (ps_fld (pv 0) (pv 2) rfl)
        (pss_one (ps_if (pt_cmpR op_isN (pv 1) pe_non (nomark _)) (pss_cons (ps_fld (pv 0) pe_int rfl)
        (pss_one (ps_fld (pv 0) (pv 0) rfl))) (pss_cons (ps_set (i := 3) sc_Trail_init.nd rfl (Or.inl rfl) (pe_fld (pv 1) rfl))
        (pss_cons (ps_set (i := 4) sc_Trail_init.nd rfl (Or.inl rfl) (pe_cmpR op_eq (pe_op op_sub (pe_fld (pv 1) rfl) (pe_fld (pv 3) rfl)) (pe_op op_sub (pe_fld (pv 3) rfl) (pe_fld (pe_fld (pv 3) rfl) rfl)) (nomark _)))
        (pss_cons (ps_fld (pv 0) (pe_op op_add (pe_fld (pv 1) rfl) pe_int) rfl)
        (pss_one (ps_fld (pv 0) (pe_ifExp (pt_val (pv 4)) (pe_fld (pv 3) rfl) (pv 1)) rfl))))))))), ?_⟩
    rcases h with ⟨x, dx, e, hx, k⟩ | ⟨x, dx, y, n, l, e, hx, ty, k⟩ <;> cases e
    · refine ⟨_, rfl, _, rfl, x, _, dx, _, rfl, hx, T.cl_Trail, T.na_Trail_ahead, (by show 0 < 1000; decide), ?_⟩
      refine ⟨_, rfl, _, rfl, x, _, dx, _, rfl, upd_same, T.cl_Trail, T.na_Trail_number, (by show 1 < 1000; decide), ?_⟩
      refine ⟨_, rfl, rfl, _, rfl, ?_⟩
      refine ite2 (fun _ => ?_) fun c => absurd rfl c
      refine ⟨_, rfl, x, _, dx, _, rfl, upd_same, T.cl_Trail, T.na_Trail_many, (by show 2 < 1000; decide), ?_⟩
      refine ⟨_, rfl, _, rfl, x, _, dx, _, rfl, upd_same, T.cl_Trail, T.na_Trail_jump, (by show 3 < 1000; decide), ?_⟩
      exact k _ ((((Ex.upd _).trans (Ex.upd _)).trans (Ex.upd _)).trans (Ex.upd _)) upd_same
    · refine ⟨_, rfl, _, rfl, x, _, dx, _, rfl, hx, T.cl_Trail, T.na_Trail_ahead, (by show 0 < 1000; decide), ?_⟩
      refine ⟨_, rfl, _, rfl, x, _, dx, _, rfl, upd_same, T.cl_Trail, T.na_Trail_number, (by show 1 < 1000; decide), ?_⟩
      have x2 : Ex x H (upd (upd H x (.ins T.C_Trail dx (putF "ahead" (.ref y) []))) x (.ins T.C_Trail dx (putF "number" (.int (n : Int)) (putF "ahead" (.ref y) [])))) := (Ex.upd _).trans (Ex.upd _)
      have keep : ∀ {H' : Hp}, Ex x H H' → ∀ w dw ah num m z, H w = some (.ins T.C_Trail dw (trF ah num m z)) → H' w = some (.ins T.C_Trail dw (trF ah num m z)) := fun {H'} e w dw ah num m z q => e _ _ (fun c => by
        rw [c, hx] at q
        have := Option.some.inj q
        injection this with _ _ e3
        have e4 := trF_ahead ah num m z
        rw [← e3] at e4
        cases e4) q
      refine ⟨_, rfl, rfl, _, rfl, ?_⟩
      refine ite2 (fun c => absurd (of_decide_eq_true c) (fun z => nomatch z)) fun _ => ?_
      obtain ⟨dy, ah, num, z, hy, tz, _⟩ := ty.fields
      obtain ⟨dz, ah2, num2, w2, hz, tw, _⟩ := tz.fields
      have hlz : (l.take (J_ l.length)).length = J_ l.length := by rw [List.length_take, Nat.min_eq_left (J_le _)]
      rw [hlz] at hz tw
      have hy2 := keep x2 _ _ _ _ _ _ hy
      have hz2 := keep x2 _ _ _ _ _ _ hz
      obtain ⟨dw, ah3, num3, w3, hw, _, _⟩ := tw.fields
      have hlw : ((l.take (J_ l.length)).take (J_ (J_ l.length))).length = J_ (J_ l.length) := by rw [List.length_take, hlz, Nat.min_eq_left (J_le _)]
      rw [hlw] at hw
      have hw2 := keep x2 _ _ _ _ _ _ hw
      have ty2 := ty.to (keep x2)
      generalize hH2 : upd (upd H x (.ins T.C_Trail dx (putF "ahead" (.ref y) []))) x (.ins T.C_Trail dx (putF "number" (.int (n : Int)) (putF "ahead" (.ref y) []))) = H2 at *
      have hx2 : H2 x = some (.ins T.C_Trail dx (putF "number" (.int (n : Int)) (putF "ahead" (.ref y) []))) := by rw [← hH2]; exact upd_same
      have nyx : y ≠ x := fun c => by
        rw [c, hx] at hy
        have := Option.some.inj hy
        injection this with _ _ e3
        have e4 := trF_ahead ah num l.length z
        rw [← e3] at e4
        cases e4
      refine ⟨_, rfl, y, _, dy, _, _, rfl, hy2, T.cl_Trail, T.na_Trail_jump, trF_jump _ _ _ _, ?_⟩
      refine ⟨_, rfl, y, _, dy, _, _, rfl, hy2, T.cl_Trail, T.na_Trail_many, trF_many _ _ _ _, _, rfl, z, _, dz, _, _, rfl, hz2, T.cl_Trail, T.na_Trail_many, trF_many _ _ _ _, _, _, rfl, rfl, _, rfl, z, _, dz, _, _, rfl, hz2, T.cl_Trail, T.na_Trail_many, trF_many _ _ _ _, _, rfl, z, _, dz, _, _, rfl, hz2, T.cl_Trail, T.na_Trail_jump, trF_jump _ _ _ _, w2, _, dw, _, _, rfl, hw2, T.cl_Trail, T.na_Trail_many, trF_many _ _ _ _, _, _, rfl, rfl, rfl, ?_⟩
      refine ⟨_, rfl, y, _, dy, _, _, rfl, hy2, T.cl_Trail, T.na_Trail_many, trF_many _ _ _ _, _, _, rfl, rfl, _, rfl, x, _, dx, _, rfl, hx2, T.cl_Trail, T.na_Trail_many, (by show 2 < 1000; decide), ?_⟩
      have n1 : ∀ {a : Addr} {da : Addr} {p q : V} {m : Nat} {j : Addr}, H a = some (.ins T.C_Trail da (trF p q m j)) → a ≠ x := fun {a da p q m j} e c => by
        rw [c, hx] at e
        have := Option.some.inj e
        injection this with _ _ e3
        have e4 := trF_ahead p q m j
        rw [← e3] at e4
        cases e4
      have k3 : ∀ {a : Addr} {o : HO}, a ≠ x → H2 a = some o → upd H2 x (.ins T.C_Trail dx (putF "many" (.int ((l.length : Int) + 1)) (putF "number" (.int (n : Int)) (putF "ahead" (.ref y) [])))) a = some o := fun na e => by rw [upd_ne na]; exact e
      have hx3 : upd H2 x (.ins T.C_Trail dx (putF "many" (.int ((l.length : Int) + 1)) (putF "number" (.int (n : Int)) (putF "ahead" (.ref y) [])))) x = some (.ins T.C_Trail dx (putF "many" (.int ((l.length : Int) + 1)) (putF "number" (.int (n : Int)) (putF "ahead" (.ref y) [])))) := upd_same
      have x3 : Ex x H (upd H2 x (.ins T.C_Trail dx (putF "many" (.int ((l.length : Int) + 1)) (putF "number" (.int (n : Int)) (putF "ahead" (.ref y) []))))) := x2.trans (Ex.upd _)
      have hz3 := k3 (n1 hz) hz2
      generalize upd H2 x (.ins T.C_Trail dx (putF "many" (.int ((l.length : Int) + 1)) (putF "number" (.int (n : Int)) (putF "ahead" (.ref y) [])))) = H3 at *
      have hJ1 := J_le l.length
      have hJ2 := J_le (J_ l.length)
      have edec : decide (V.int ((l.length : Int) - (J_ l.length : Int)) = V.int ((J_ l.length : Int) - (J_ (J_ l.length) : Int))) = decide (l.length - J_ l.length = J_ l.length - J_ (J_ l.length)) := decide_eq_decide.mpr ⟨fun h => by
        injection h with h
        omega, fun h => by
        congr 1
        omega⟩
      have em : ((l.length : Int) + 1) = ((l.length + 1 : Nat) : Int) := by omega
      have tk : ∀ {j : Nat}, j ≤ l.length → (l ++ [n]).take j = l.take j := fun hj => by rw [List.take_append_of_le_length hj]
      have fin : ∀ (z' : Addr), Tr T.C_Trail H z' (l.take (J_ (l.length + 1))) → (∀ S, Fo T.C_Trail H S → S y → S z') → Q .non (upd H3 x (.ins T.C_Trail dx (trF (.ref y) (.int (n : Int)) (l.length + 1) z'))) := fun z' hz' hs => by
        have x4 : Ex x H (upd H3 x (.ins T.C_Trail dx (trF (.ref y) (.int (n : Int)) (l.length + 1) z'))) := x3.trans (Ex.upd _)
        refine k _ z' x4 upd_same ?_ hs
        rw [tk (J_lt _)]
        exact hz'.to (keep x4)
      refine ⟨_, rfl, _, rfl, ?_⟩
      refine ite2 (fun c => ?_) fun c => ?_
      · have c' : decide (l.length - J_ l.length = J_ l.length - J_ (J_ l.length)) = true := by rw [← edec]; exact c
        have eJ : J_ (l.length + 1) = J_ (J_ l.length) := by rw [J_succ, if_pos (of_decide_eq_true c')]
        refine ⟨_, rfl, z, _, dz, _, _, rfl, hz3, T.cl_Trail, T.na_Trail_jump, trF_jump _ _ _ _, _, rfl, x, _, dx, _, rfl, hx3, T.cl_Trail, T.na_Trail_jump, (by show 3 < 1000; decide), ?_⟩
        refine fin w2 ?_ fun S F hS => F.jump z dz _ _ _ w2 (F.jump y dy _ _ _ z hS hy) hz
        rw [eJ]
        rw [List.take_take, Nat.min_eq_left hJ2] at tw
        exact tw
      · have c' : ¬ decide (l.length - J_ l.length = J_ l.length - J_ (J_ l.length)) = true := by rw [← edec]; exact c
        have eJ : J_ (l.length + 1) = l.length := by rw [J_succ, if_neg fun z => c' (decide_eq_true z)]
        refine ⟨_, rfl, _, rfl, x, _, dx, _, rfl, hx3, T.cl_Trail, T.na_Trail_jump, (by show 3 < 1000; decide), ?_⟩
        refine fin y ?_ fun S F hS => hS
        rw [eJ, List.take_length]
        exact ty
theorem ok_cut (T : Tx K mg) : FnOk P w K mg base CX0 1 T.f_cut T.fd_cut P_cut (spCut T.C_Trail) := by
  refine T.F_cut.ok sc_cut (fun vs H Q E h => ?_) (fun cdv A outer s H vs Q E hr h => ?_)
  · obtain ⟨x, l, k, rfl, _⟩ := h
    rfl
  · obtain ⟨x, l, kk, rfl, tx, k⟩ := h
    refine ⟨_, (pss_cons (ps_while PassesOwn.never (pt_cmpR op_gt (pe_fld (pv 0) rfl) (pv 1) (nomark _)) (pss_one (ps_set (i := 0) sc_cut.nd rfl (Or.inl rfl) (pe_ifExp (pt_cmpR op_ge (pe_fld (pe_fld (pv 0) rfl) rfl) (pv 1) (nomark _)) (pe_fld (pv 0) rfl) (pe_fld (pv 0) rfl)))))
        (pss_one (ps_ret (pv 0)))), ?_⟩
    refine ⟨fun m σ H' => ∃ (y : Addr) (d : Nat), m = d ∧ σ = [some (.ref y), some (.int (kk : Int))] ∧ H' = H ∧ d ≤ l.length ∧ (kk ≤ d ∨ d = l.length) ∧ Tr T.C_Trail H y (l.take d) ∧ (∀ S, Fo T.C_Trail H S → S x → S y), ⟨l.length, x, l.length, rfl, rfl, rfl, Nat.le_refl _, .inr rfl, by rw [List.take_length]; exact tx, fun S _ h => h⟩, ?_⟩
    rintro m σ H' ⟨y, d, rfl, rfl, rfl, hd, hkd, ty, hS⟩
    obtain ⟨dy, ah, num, z, hy, tz, hc⟩ := ty.fields
    have hdl : (l.take m).length = m := by rw [List.length_take, Nat.min_eq_left hd]
    rw [hdl] at hy tz
    obtain ⟨dz, ah2, num2, w2, hz, _, _⟩ := tz.fields
    have hJ := J_le m
    have hlz : ((l.take m).take (J_ m)).length = J_ m := by rw [List.length_take, hdl, Nat.min_eq_left hJ]
    rw [hlz] at hz
    rw [List.take_take, Nat.min_eq_left hJ] at tz
    refine ⟨_, rfl, y, _, dy, _, _, rfl, hy, T.cl_Trail, T.na_Trail_many, trF_many _ _ _ _, _, rfl, _, _, rfl, rfl, _, rfl, ?_⟩
    refine ite2 (fun c => ?_) fun c => ?_
    · have hk : kk < m := by have := of_decide_eq_true c; omega
      have hm0 : m ≠ 0 := by omega
      have hJm : J_ m < m := by
        obtain ⟨q, rfl⟩ := Nat.exists_eq_succ_of_ne_zero hm0
        exact Nat.lt_succ_of_le (J_lt q)
      refine ⟨_, fun σ' H' h => h, ?_⟩
      refine ⟨_, rfl, y, _, dy, _, _, rfl, hy, T.cl_Trail, T.na_Trail_jump, trF_jump _ _ _ _, z, _, dz, _, _, rfl, hz, T.cl_Trail, T.na_Trail_many, trF_many _ _ _ _, _, rfl, _, _, rfl, rfl, _, rfl, ?_⟩
      refine ite2 (fun d => ?_) fun d => ?_
      · have hd2 : kk ≤ J_ m := by have := of_decide_eq_true d; omega
        refine ⟨_, rfl, y, _, dy, _, _, rfl, hy, T.cl_Trail, T.na_Trail_jump, trF_jump _ _ _ _, ?_⟩
        exact ⟨J_ m, hJm, z, J_ m, rfl, rfl, rfl, by omega, .inl hd2, tz, fun S F h => F.jump y dy _ _ _ z (hS S F h) hy⟩
      · rcases hc with ⟨e, _⟩ | ⟨l', n, y', e, rfl, _, ty'⟩
        · rw [e] at hdl
          exact absurd hdl.symm hm0
        · have el : l' = l.take (m - 1) := by
            have h1 := congrArg (List.take (m - 1)) e
            have h2 := congrArg List.length e
            rw [List.length_append, List.length_singleton, hdl] at h2
            rw [List.take_take, Nat.min_eq_left (by omega), List.take_append_of_le_length (by omega), List.take_of_length_le (show l'.length ≤ m - 1 by omega)] at h1
            exact h1.symm
          refine ⟨_, rfl, y, _, dy, _, _, rfl, hy, T.cl_Trail, T.na_Trail_ahead, trF_ahead _ _ _ _, ?_⟩
          exact ⟨m - 1, by omega, y', m - 1, rfl, rfl, rfl, by omega, .inl (by omega), el ▸ ty', fun S F h => F.ahead y dy y' _ _ _ (hS S F h) hy⟩
    · have hk : m ≤ kk := by
        apply Classical.byContradiction
        intro z
        exact c (decide_eq_true (by omega))
      refine ⟨_, rfl, k y ?_ hS⟩
      have e : l.take kk = l.take m := by
        rcases hkd with h | h
        · rw [show kk = m by omega]
        · rw [h, List.take_length, List.take_of_length_le (by omega)]
      rw [e]
      exact ty
theorem ok_shared (T : Tx K mg) : FnOk P w K mg base CX0 2 T.f_shared T.fd_shared P_shared (spShared T.C_Trail) := by
  have G_cut : FnOk P w K mg base CX0 1 T.f_cut T.fd_cut P_cut (spCut T.C_Trail) := ok_cut T
  refine T.F_shared.ok sc_shared (fun vs H Q E h => ?_) (fun cdv A outer s H vs Q E hr h => ?_)
  · obtain ⟨x, y, l, l', S, rfl, _⟩ := h
    rfl
  · obtain ⟨x, y, l, l', S, rfl, F, sx, sy, tx, ty, k⟩ := h
    refine ⟨_, (pss_cons (ps_set (i := 0) sc_shared.nd rfl (Or.inl rfl) (pe_call G_cut (hr.mono (by decide)) rfl T.m_cut T.F_cut.kp T.b_cut .nil pass0 (pa_cons (pv 0) (pa_cons (pe_fld (pv 1) rfl) pa_nil))))
        (pss_cons (ps_set (i := 1) sc_shared.nd rfl (Or.inl rfl) (pe_call G_cut (hr.mono (by decide)) rfl T.m_cut T.F_cut.kp T.b_cut .nil pass0 (pa_cons (pv 1) (pa_cons (pe_fld (pv 0) rfl) pa_nil))))
        (pss_cons (ps_while PassesOwn.never (pt_cmpR (op_neI (n := 0) (C := T.C_Trail) T.eqo_Trail T.neo_Trail T.mro_Trail (hr.mono (by decide))) (pv 0) (pv 1) (nomark _)) (pss_one (ps_if (pt_cmpR (op_eqI (n := 0) (C := T.C_Trail) T.eqo_Trail T.mro_Trail (hr.mono (by decide))) (pe_fld (pv 0) rfl) (pe_fld (pv 1) rfl) (nomark _)) (pss_one (ps_par (i := 0) (j := 1) (by rfl) sc_shared.nd rfl rfl (by decide) rfl rfl (pa_cons (pe_fld (pv 0) rfl) (pa_cons (pe_fld (pv 1) rfl) pa_nil)) (by rfl))) (pss_one (ps_par (i := 0) (j := 1) (by rfl) sc_shared.nd rfl rfl (by decide) rfl rfl (pa_cons (pe_fld (pv 0) rfl) (pa_cons (pe_fld (pv 1) rfl) pa_nil)) (by rfl))))))
        (pss_one (ps_ret (pv 0)))))), ?_⟩
    obtain ⟨dy, ah, num, z, hy, _, _⟩ := ty.fields
    refine ⟨_, rfl, _, rfl, y, _, dy, _, _, rfl, hy, T.cl_Trail, T.na_Trail_many, trF_many _ _ _ _, x, l, l'.length, rfl, tx, fun x1 tx1 hx1 => ?_⟩
    have sx1 := hx1 S F sx
    obtain ⟨dx1, ah1, num1, z1, hxx1, _, _⟩ := tx1.fields
    refine ⟨_, rfl, _, rfl, x1, _, dx1, _, _, rfl, hxx1, T.cl_Trail, T.na_Trail_many, trF_many _ _ _ _, y, l', (l.take l'.length).length, rfl, ty, fun y1 ty1 hy1 => ?_⟩
    have sy1 := hy1 S F sy
    have ln := lcp_len l l'
    have lm : (l.take l'.length).length = min l'.length l.length := List.length_take ..
    rw [lm] at ty1
    have e1 : l.take l'.length = l.take (min l'.length l.length) := by
      rcases Nat.le_total l'.length l.length with h | h
      · rw [Nat.min_eq_left h]
      · rw [Nat.min_eq_right h, List.take_length, List.take_of_length_le h]
    rw [e1] at tx1
    refine ⟨fun m σ H' => ∃ (a b : Addr), σ = [some (.ref a), some (.ref b)] ∧ H' = H ∧ m ≤ l.length ∧ m ≤ l'.length ∧ (lcp l l').length ≤ m ∧ S a ∧ S b ∧ Tr T.C_Trail H a (l.take m) ∧ Tr T.C_Trail H b (l'.take m), ⟨min l'.length l.length, x1, y1, rfl, rfl, Nat.min_le_right _ _, Nat.min_le_left _ _, by omega, sx1, sy1, tx1, ty1⟩, ?_⟩
    rintro m σ H' ⟨a, b, rfl, rfl, h1, h2, h3, sa, sb, ta, tb⟩
    obtain ⟨da, aa, na, za, ha, tza, hca⟩ := ta.fields
    obtain ⟨db, ab, nb, zb, hb, tzb, hcb⟩ := tb.fields
    have la : (l.take m).length = m := by rw [List.length_take, Nat.min_eq_left h1]
    have lb : (l'.take m).length = m := by rw [List.length_take, Nat.min_eq_left h2]
    rw [la] at ha tza
    rw [lb] at hb tzb
    have hJ := J_le m
    rw [List.take_take, Nat.min_eq_left hJ] at tza tzb
    refine ⟨_, rfl, _, rfl, a, b, da, db, _, _, rfl, rfl, ha, hb, _, rfl, ?_⟩
    refine ite2 (fun c => ?_) fun c => ?_
    · have nab : a ≠ b := fun z => by rw [decide_eq_true z] at c; exact absurd c (by decide)
      have nd : l.take m ≠ l'.take m := fun z => nab (F.un a b _ sa sb ta (z ▸ tb))
      have hm : (lcp l l').length < m := by
        apply Classical.byContradiction
        intro z
        exact nd ((lcp_take h1 h2).mpr (by omega))
      have hJm : J_ m < m := by
        obtain ⟨q, rfl⟩ := Nat.exists_eq_succ_of_ne_zero (show m ≠ 0 by omega)
        exact Nat.lt_succ_of_le (J_lt q)
      have sza := F.jump a da _ _ _ za sa ha
      have szb := F.jump b db _ _ _ zb sb hb
      obtain ⟨dza, aza, nza, wza, hza, _, _⟩ := tza.fields
      obtain ⟨dzb, azb, nzb, wzb, hzb, _, _⟩ := tzb.fields
      refine ⟨_, fun σ' H' h => h, ?_⟩
      refine ⟨_, rfl, a, _, da, _, _, rfl, ha, T.cl_Trail, T.na_Trail_jump, trF_jump _ _ _ _, _, rfl, b, _, db, _, _, rfl, hb, T.cl_Trail, T.na_Trail_jump, trF_jump _ _ _ _, za, zb, dza, dzb, _, _, rfl, rfl, hza, hzb, _, rfl, ?_⟩
      refine ite2 (fun d => ?_) fun d => ?_
      · rcases hca with ⟨e, _⟩ | ⟨p, n, a', e, rfl, _, ta'⟩
        · rw [e] at la
          have la0 : 0 = m := la
          omega
        · rcases hcb with ⟨e', _⟩ | ⟨p', n', b', e', rfl, _, tb'⟩
          · rw [e'] at lb
            have lb0 : 0 = m := lb
            omega
          · have el : p = l.take (m - 1) := by
              have h1 := congrArg (List.take (m - 1)) e
              have h2 := congrArg List.length e
              rw [List.length_append, List.length_singleton, la] at h2
              rw [List.take_take, Nat.min_eq_left (by omega), List.take_append_of_le_length (by omega), List.take_of_length_le (show p.length ≤ m - 1 by omega)] at h1
              exact h1.symm
            have el' : p' = l'.take (m - 1) := by
              have h1 := congrArg (List.take (m - 1)) e'
              have h2 := congrArg List.length e'
              rw [List.length_append, List.length_singleton, lb] at h2
              rw [List.take_take, Nat.min_eq_left (by omega), List.take_append_of_le_length (by omega), List.take_of_length_le (show p'.length ≤ m - 1 by omega)] at h1
              exact h1.symm
            refine ⟨_, rfl, a, _, da, _, _, rfl, ha, T.cl_Trail, T.na_Trail_ahead, trF_ahead _ _ _ _, _, rfl, b, _, db, _, _, rfl, hb, T.cl_Trail, T.na_Trail_ahead, trF_ahead _ _ _ _, ?_⟩
            exact ⟨_, _, rfl, m - 1, by omega, a', b', rfl, rfl, by omega, by omega, by omega, F.ahead a da a' _ _ _ sa ha, F.ahead b db b' _ _ _ sb hb, el ▸ ta', el' ▸ tb'⟩
      · have nz : za ≠ zb := fun z => d (decide_eq_true z)
        have ndz : l.take (J_ m) ≠ l'.take (J_ m) := fun z => nz (F.un za zb _ sza szb tza (z ▸ tzb))
        have hmz : (lcp l l').length < J_ m := by
          apply Classical.byContradiction
          intro z
          exact ndz ((lcp_take (by omega) (by omega)).mpr (by omega))
        refine ⟨_, rfl, a, _, da, _, _, rfl, ha, T.cl_Trail, T.na_Trail_jump, trF_jump _ _ _ _, _, rfl, b, _, db, _, _, rfl, hb, T.cl_Trail, T.na_Trail_jump, trF_jump _ _ _ _, ?_⟩
        exact ⟨_, _, rfl, J_ m, hJm, za, zb, rfl, rfl, by omega, by omega, by omega, sza, szb, tza, tzb⟩
    · have eab : a = b := Classical.byContradiction fun z => c (by rw [decide_eq_false z]; rfl)
      subst eab
      have e := ta.det tb
      have hm := (lcp_take h1 h2).mp e
      refine ⟨_, rfl, k a sa ?_⟩
      rw [← lcp_is (show m = (lcp l l').length by omega)]
      exact ta
theorem ok_numbers_beyond (T : Tx K mg) : FnOk P w K mg base CX0 1 T.f_numbers_beyond T.fd_numbers_beyond P_numbers_beyond (spBeyond T.C_Trail) := by
  refine T.F_numbers_beyond.ok sc_numbers_beyond (fun vs H Q E h => ?_) (fun cdv A outer s H vs Q E hr h => ?_)
  · obtain ⟨x, l, k, rfl, _⟩ := h
    rfl
  · obtain ⟨x, l, kk, rfl, tx, hl, k⟩ := h
    refine ⟨_, (pss_cons (ps_set (i := 2) sc_numbers_beyond.nd rfl (Or.inl rfl) (pe_lst pa_nil))
        (pss_cons (ps_while PassesOwn.never (pt_cmpR op_gt (pe_fld (pv 0) rfl) (pv 1) (nomark _)) (pss_cons (ps_expr (pe_bm PySem.F.plainAttrs_list PySem.F.slot_list_append PySem.F.type_list_append mt_append (pv 2) (pa_cons (pe_fld (pv 0) rfl) pa_nil)))
        (pss_one (ps_set (i := 0) sc_numbers_beyond.nd rfl (Or.inl rfl) (pe_fld (pv 0) rfl)))))
        (pss_one (ps_ret (pe_revL (pv 2)))))), ?_⟩
    refine ⟨Nat.zero_le _, fun L hL => ?_⟩
    have s1 : Same H (upd H L (.lst [])) := Same.new _ hL
    have g1 : upd H L (.lst []) L = some (.lst []) := upd_same
    generalize upd H L (.lst []) = H1 at *
    refine ⟨fun m σ H' => ∃ (y : Addr), σ = [some (.ref y), some (.int (kk : Int)), some (.ref L)] ∧ Same H H' ∧ m ≤ l.length ∧ (kk ≤ m ∨ m = l.length) ∧ Tr T.C_Trail H' y (l.take m) ∧ H' L = some (.lst (nats (l.drop m).reverse)), ⟨l.length, x, rfl, s1, Nat.le_refl _, .inr rfl, by rw [List.take_length]; exact tx.same s1, by rw [List.drop_length]; exact g1⟩, ?_⟩
    rintro m σ H' ⟨y, rfl, sm, hm, hkm, ty, gL⟩
    obtain ⟨dy, ah, num, z, hy, _, hc⟩ := ty.fields
    have ly : (l.take m).length = m := by rw [List.length_take, Nat.min_eq_left hm]
    rw [ly] at hy
    refine ⟨_, rfl, y, _, dy, _, _, rfl, hy, T.cl_Trail, T.na_Trail_many, trF_many _ _ _ _, _, rfl, _, _, rfl, rfl, _, rfl, ?_⟩
    refine ite2 (fun c => ?_) fun c => ?_
    · have hk : kk < m := by have := of_decide_eq_true c; omega
      rcases hc with ⟨e, _⟩ | ⟨p, n, y', e, rfl, rfl, ty'⟩
      · rw [e] at ly
        have ly0 : 0 = m := ly
        omega
      · have lp : p.length + 1 = m := by
          have h2 := congrArg List.length e
          rw [List.length_append, List.length_singleton, ly] at h2
          omega
        have el : p = l.take (m - 1) := by
          have h1 := congrArg (List.take (m - 1)) e
          rw [List.take_take, Nat.min_eq_left (by omega), List.take_append_of_le_length (by omega), List.take_of_length_le (show p.length ≤ m - 1 by omega)] at h1
          exact h1.symm
        have ed : (l.drop (m - 1)).reverse = (l.drop m).reverse ++ [n] := by
          have e2 : l.drop (m - 1) = n :: l.drop m := by
            have h3 : l = (p ++ [n]) ++ l.drop m := by rw [← e, List.take_append_drop]
            conv => lhs; rw [h3]
            rw [List.append_assoc, List.drop_append_of_le_length (by omega), List.drop_of_length_le (show p.length ≤ m - 1 by omega)]
            rfl
          rw [e2, List.reverse_cons]
        have ll : (l.drop m).reverse.length ≤ 2000 := by rw [List.length_reverse, List.length_drop]; omega
        refine ⟨_, fun σ' H' h => h, ?_⟩
        refine ⟨_, rfl, .inl ⟨rfl, _, SqL.of gL⟩, _, rfl, y, _, dy, _, _, rfl, hy, T.cl_Trail, T.na_Trail_number, trF_number _ _ _ _, L, _, _, rfl, rfl, gL, lt_size (by rw [nats_lenY]; omega), ?_⟩
        have hyU : upd H' L (.lst (nats (l.drop m).reverse ++ [V.int (n : Int)])) y = some (.ins T.C_Trail dy (trF (.ref y') (.int (n : Int)) m z)) := by
          rw [upd_ne (fun z => by rw [z, gL] at hy; cases hy)]
          exact hy
        refine ⟨_, rfl, y, _, dy, _, _, rfl, hyU, T.cl_Trail, T.na_Trail_ahead, trF_ahead _ _ _ _, ?_⟩
        · have tk : ∀ w dw ah num mm z, H' w = some (.ins T.C_Trail dw (trF ah num mm z)) → upd H' L (.lst (nats (l.drop m).reverse ++ [V.int (n : Int)])) w = some (.ins T.C_Trail dw (trF ah num mm z)) := fun w dw ah num mm z q => by rw [upd_ne (fun z => by rw [z, gL] at q; cases q)]; exact q
          refine ⟨m - 1, by omega, y', rfl, sm.updNew hL, by omega, .inl (by omega), el ▸ ty'.to tk, ?_⟩
          rw [upd_same, ed]
          show _ = some (HO.lst (((l.drop m).reverse ++ [n]).map fun k : Nat => V.int (k : Int)))
          rw [List.map_append]
          rfl
    · have hk : m ≤ kk := by
        apply Classical.byContradiction
        intro z
        exact c (decide_eq_true (by omega))
      have ed : l.drop m = l.drop kk := by
        rcases hkm with h | h
        · rw [show kk = m by omega]
        · rw [h, List.drop_length, List.drop_of_length_le (by omega)]
      refine ⟨_, rfl, L, _, rfl, SqL.of gL, fun r hr => ?_⟩
      refine k _ r (sm.trans (Same.new _ hr)) (sm.free hr) ?_
      rw [upd_same, ← ed]
      show some (HO.lst (((l.drop m).reverse.map fun k : Nat => V.int (k : Int)).reverse)) = _
      rw [← List.map_reverse, List.reverse_reverse]
end
end J


set_option Elab.async false
set_option linter.all false
set_option maxRecDepth 100000
set_option maxHeartbeats 4000000
namespace J
open PySem L2
/-! ### rows to a place of a text -/
theorem txA_appY (as : List Arc) (r q : List Nat) : txA as (r ++ q) = txA as r ++ txA as q := by
  unfold txA
  rw [List.map_append, List.flatten_append]
theorem txA_oneY {as : List Arc} {i : Nat} {a : Arc} (h : as[i]? = some a) : txA as [i] = a.2.1 := by
  rw [txA_cons, txA_nil, List.append_nil, wdA_at h]
theorem rowEnd_nilY (as : List Arc) (s : Nat) : rowEnd as s [] = s := rfl
theorem rowEnd_snocY {as : List Arc} {s i : Nat} {l : List Nat} {a : Arc} (h : as[i]? = some a) : rowEnd as s (l ++ [i]) = a.2.2 := by
  unfold rowEnd
  rw [List.getLast?_concat]
  show goalAt as i = a.2.2
  unfold goalAt
  rw [h]
theorem rowEnd_consY {as : List Arc} {s i : Nat} {a : Arc} (h : as[i]? = some a) (r : List Nat) : rowEnd as s (i :: r) = rowEnd as a.2.2 r := by
  rcases List.eq_nil_or_concat r with rfl | ⟨q, j, rfl⟩
  · exact rowEnd_snocY (l := []) h
  · unfold rowEnd
    rw [List.concat_eq_append, show i :: (q ++ [j]) = (i :: q) ++ [j] from rfl, List.getLast?_concat, List.getLast?_concat]
theorem rw_snocY {as : List Arc} : ∀ {l : List Nat} {s i : Nat}, Rw as s (l ++ [i]) ↔ Rw as s l ∧ ∃ a, as[i]? = some a ∧ a.1 = rowEnd as s l := by
  intro l
  induction l with
  | nil =>
    intro s i
    constructor
    · intro h
      obtain ⟨a, h1, h2, _⟩ := Rw.of h
      exact ⟨.nil s, a, h1, h2⟩
    · rintro ⟨_, a, h1, h2⟩
      exact Rw.mk h1 h2 (.nil _)
  | cons j l ih =>
    intro s i
    constructor
    · intro h
      obtain ⟨b, h1, h2, h3⟩ := Rw.of (show Rw as s (j :: (l ++ [i])) from h)
      obtain ⟨h4, a, h5, h6⟩ := ih.mp h3
      exact ⟨Rw.mk h1 h2 h4, a, h5, by rw [rowEnd_consY h1]; exact h6⟩
    · rintro ⟨h, a, h5, h6⟩
      obtain ⟨b, h1, h2, h3⟩ := Rw.of h
      rw [rowEnd_consY h1] at h6
      exact Rw.mk h1 h2 (ih.mpr ⟨h3, a, h5, h6⟩)
/-- a row from s whose text is the first n signs, and that leads to g -/
def RowTo (as : List Arc) (s : Nat) (t : List Nat) (n g : Nat) (l : List Nat) : Prop := Rw as s l ∧ txA as l = t.take n ∧ rowEnd as s l = g
/-- the longest beginning of all of them -/
def LcpOf (P : List Nat → Prop) (q : List Nat) : Prop := (∃ l, P l) ∧ (∀ l, P l → q <+: l) ∧ ∀ r, (∀ l, P l → r <+: l) → r <+: q
theorem LcpOf.uniq {P : List Nat → Prop} {q r : List Nat} (h : LcpOf P q) (k : LcpOf P r) : q = r := by
  have h1 := k.2.2 q h.2.1
  have h2 := h.2.2 r k.2.1
  exact h1.eq_of_length (Nat.le_antisymm h1.length_le h2.length_le)
theorem LcpOf.congr {P P' : List Nat → Prop} {q : List Nat} (h : LcpOf P q) (e : ∀ l, P l ↔ P' l) : LcpOf P' q :=
  ⟨h.1.imp fun l => (e l).mp, fun l hl => h.2.1 l ((e l).mpr hl), fun r hr => h.2.2 r fun l hl => hr l ((e l).mp hl)⟩
theorem LcpOf.or {P P' : List Nat → Prop} {q r : List Nat} (h : LcpOf P q) (k : LcpOf P' r) : LcpOf (fun l => P l ∨ P' l) (lcp q r) := by
  obtain ⟨p1, p2⟩ := lcp_pre q r
  refine ⟨h.1.imp fun l => .inl, fun l hl => hl.elim (fun z => p1.trans (h.2.1 l z)) fun z => p2.trans (k.2.1 l z), fun w hw => ?_⟩
  exact lcp_max (h.2.2 w fun l hl => hw l (.inl hl)) (k.2.2 w fun l hl => hw l (.inr hl))
theorem LcpOf.one (q : List Nat) : LcpOf (fun l => l = q) q := ⟨⟨q, rfl⟩, fun l h => by rw [h]; exact List.prefix_refl _, fun r h => h q rfl⟩
/-- a place's entry: the rows to it, what they share, whether there is just one -/
def Ent6 (as : List Arc) (s : Nat) (t : List Nat) (n g : Nat) (q : List Nat) (al : Bool) : Prop := LcpOf (RowTo as s t n g) q ∧ (al = true → ∀ l, RowTo as s t n g l → l = q) ∧ (al = false → ∃ l l', RowTo as s t n g l ∧ RowTo as s t n g l' ∧ l ≠ l')
theorem Ent6.own {as : List Arc} {s : Nat} {t : List Nat} {n g : Nat} {q : List Nat} (h : Ent6 as s t n g q true) : RowTo as s t n g q := by
  obtain ⟨l, hl⟩ := h.1.1
  have := h.2.1 rfl l hl
  rwa [← this]
theorem RowTo.len {as : List Arc} {s : Nat} {t : List Nat} {n g : Nat} {l : List Nat} (h : RowTo as s t n g l) (hn : n ≤ t.length) : (txA as l).length = n := by
  rw [h.2.1, List.length_take, Nat.min_eq_left hn]
def Wd6 (as : List Arc) : Prop := ∀ a ∈ as, 1 ≤ a.2.1.length
theorem wd_pre {as : List Arc} (hw : Wd6 as) {s : Nat} {l m : List Nat} (h : Rw as s m) (p : l <+: m) (e : (txA as m).length ≤ (txA as l).length) : l = m := by
  obtain ⟨z, rfl⟩ := p
  cases z with
  | nil => rw [List.append_nil]
  | cons i z =>
    exfalso
    rw [txA_appY, List.length_append, txA_cons, List.length_append] at e
    have : ∃ a, as[i]? = some a := by
      clear e
      induction l generalizing s with
      | nil => obtain ⟨a, ha, _⟩ := Rw.of h; exact ⟨a, ha⟩
      | cons j l ih => obtain ⟨b, _, _, k⟩ := Rw.of h; exact ih k
    obtain ⟨a, ha⟩ := this
    rw [wdA_at ha] at e
    have := hw a (List.mem_of_getElem? ha)
    omega
end J


set_option Elab.async false
set_option linter.all false
set_option maxRecDepth 100000
set_option maxHeartbeats 4000000
namespace J
open PySem L2
/-! ### what covers a text -/
/-- a row that covers the text, and none of its beginnings does -/
def CovR (as : List Arc) (s : Nat) (t : List Nat) (l : List Nat) : Prop := ∃ (n g : Nat) (q : List Nat) (i : Nat) (a : Arc), n < t.length ∧ RowTo as s t n g q ∧ as[i]? = some a ∧ a.1 = g ∧ t.drop n <+: a.2.1 ∧ l = q ++ [i]
structure CE where
  n : Nat
  g : Nat
  x : Addr
  q : List Nat
  al : Bool
def OkC (as : List Arc) (s : Nat) (t : List Nat) (c : CE) : Prop := c.n < t.length ∧ Ent6 as s t c.n c.g c.q c.al ∧ bgs c.g (t.drop c.n) 0 as ≠ []
structure Cvr (as : List Arc) (s : Nat) (t : List Nat) (cs : List CE) : Prop where
  ok : ∀ c ∈ cs, OkC as s t c
  all : ∀ n g l, n < t.length → RowTo as s t n g l → bgs g (t.drop n) 0 as ≠ [] → ∃ c ∈ cs, c.n = n ∧ c.g = g
  ne : cs.Pairwise fun c d => ¬ (c.n = d.n ∧ c.g = d.g)
theorem bgs_at {as : List Arc} {g : Nat} {u : List Nat} {e : En} (h : e ∈ bgs g u 0 as) : as[e.1]? = some (g, e.2.1, e.2.2) ∧ u <+: e.2.1 := by
  obtain ⟨_, h2, h3⟩ := mem_bgs.mp h
  rw [Nat.sub_zero] at h2
  exact ⟨h2, h3⟩
theorem at_bgs {as : List Arc} {i : Nat} {a : Arc} {u : List Nat} (h : as[i]? = some a) (p : u <+: a.2.1) : (i, a.2.1, a.2.2) ∈ bgs a.1 u 0 as := mem_bgs.mpr ⟨Nat.zero_le _, by rw [Nat.sub_zero]; exact h, p⟩
theorem covR_iff {as : List Arc} {s : Nat} {t : List Nat} {cs : List CE} (C : Cvr as s t cs) {l : List Nat} : CovR as s t l ↔ ∃ c ∈ cs, ∃ e ∈ bgs c.g (t.drop c.n) 0 as, ∃ q, RowTo as s t c.n c.g q ∧ l = q ++ [e.1] := by
  constructor
  · rintro ⟨n, g, q, i, a, hn, hr, ha, rfl, p, rfl⟩
    have hb := at_bgs ha p
    obtain ⟨c, hc, rfl, e2⟩ := C.all n a.1 q hn hr (fun z => by rw [z] at hb; cases hb)
    exact ⟨c, hc, _, e2 ▸ hb, q, e2 ▸ hr, rfl⟩
  · rintro ⟨c, hc, e, he, q, hr, rfl⟩
    obtain ⟨h1, h2⟩ := bgs_at he
    exact ⟨c.n, c.g, q, e.1, _, (C.ok c hc).1, hr, h1, rfl, h2, rfl⟩
/-- two rows that cover part ahead of the end of both -/
theorem covR_free {as : List Arc} (hw : Wd6 as) {s : Nat} {t l m : List Nat} (h : CovR as s t l) (k : CovR as s t m) (n : l ≠ m) : ¬ l <+: m := by
  obtain ⟨n1, g1, q1, i1, a1, hn1, hr1, ha1, e1, p1, rfl⟩ := h
  obtain ⟨n2, g2, q2, i2, a2, hn2, hr2, ha2, e2, p2, rfl⟩ := k
  intro p
  have hq : q1 ++ [i1] <+: q2 := by
    rcases List.prefix_concat_iff.mp p with z | z
    · exact absurd z n
    · exact z
  have hl : (txA as (q1 ++ [i1])).length ≤ (txA as q2).length := by
    obtain ⟨z, hz⟩ := hq
    rw [← hz, txA_appY as (q1 ++ [i1]) z, List.length_append]
    omega
  rw [txA_appY, txA_oneY ha1, List.length_append, hr1.len (by omega), hr2.len (by omega)] at hl
  have := p1.length_le
  rw [List.length_drop] at this
  omega
/-- what is sure, where two rows or more cover -/
theorem sure_many {as : List Arc} (hw : Wd6 as) {s : Nat} {t : List Nat} {cs : List CE} (C : Cvr as s t cs) {r : List Nat} (h : LcpOf (fun l => ∃ c ∈ cs, RowTo as s t c.n c.g l) r) (two : ∃ l m, CovR as s t l ∧ CovR as s t m ∧ l ≠ m) : LcpOf (CovR as s t) r := by
  obtain ⟨l0, m0, hl0, hm0, n0⟩ := two
  refine ⟨⟨l0, hl0⟩, fun l hl => ?_, fun w hw' => ?_⟩
  · obtain ⟨c, hc, e, he, q, hr, rfl⟩ := (covR_iff C).mp hl
    exact (h.2.1 q ⟨c, hc, hr⟩).trans (List.prefix_append _ _)
  · refine h.2.2 w fun q ⟨c, hc, hr⟩ => ?_
    obtain ⟨e, he⟩ := List.exists_mem_of_ne_nil _ (C.ok c hc).2.2
    have hcov : CovR as s t (q ++ [e.1]) := (covR_iff C).mpr ⟨c, hc, e, he, q, hr, rfl⟩
    have p := hw' _ hcov
    rcases List.prefix_concat_iff.mp p with z | z
    · exfalso
      rw [z] at hw'
      by_cases e0 : l0 = q ++ [e.1]
      · exact covR_free hw hcov hm0 (by rw [← e0]; exact n0) (hw' _ hm0)
      · exact covR_free hw hcov hl0 (Ne.symm e0) (hw' _ hl0)
    · exact z
theorem sure_one {as : List Arc} {s : Nat} {t : List Nat} {c : CE} {e : En} (C : Cvr as s t [c]) (ha : c.al = true) (he : bgs c.g (t.drop c.n) 0 as = [e]) : LcpOf (CovR as s t) (c.q ++ [e.1]) := by
  refine (LcpOf.one (c.q ++ [e.1])).congr fun l => ⟨fun z => ?_, fun hl => ?_⟩
  · have hc := (C.ok c (List.mem_singleton.mpr rfl)).2.1
    rw [ha] at hc
    exact (covR_iff C).mpr ⟨c, List.mem_singleton.mpr rfl, e, by rw [he]; exact List.mem_singleton.mpr rfl, c.q, hc.own, z⟩
  · obtain ⟨c', hc', e', he', q, hr, rfl⟩ := (covR_iff C).mp hl
    rw [List.mem_singleton.mp hc'] at he' hr
    rw [he] at he'
    rw [List.mem_singleton.mp he', (C.ok c (List.mem_singleton.mpr rfl)).2.1.2.1 ha q hr]
theorem snoc_ne {q r : List Nat} {i j : Nat} (h : q ++ [i] = r ++ [j]) : q = r ∧ i = j := by
  have := List.append_inj' h rfl
  exact ⟨this.1, by simpa using this.2⟩
theorem rowTo_place {as : List Arc} {s : Nat} {t l : List Nat} {n g n' g' : Nat} (h : RowTo as s t n g l) (k : RowTo as s t n' g' l) (hn : n ≤ t.length) (hn' : n' ≤ t.length) : n = n' ∧ g = g' := ⟨by rw [← h.len hn, ← k.len hn'], by rw [← h.2.2, ← k.2.2]⟩
/-- two rows cover, where not just one cover with one row and one arc stands -/
theorem two_rows {as : List Arc} {s : Nat} {t : List Nat} {cs : List CE} (C : Cvr as s t cs) {c : CE} (hc : c ∈ cs) (h : cs.length ≠ 1 ∨ c.al = false ∨ (bgs c.g (t.drop c.n) 0 as).length ≠ 1) : ∃ l m, CovR as s t l ∧ CovR as s t m ∧ l ≠ m := by
  have okc := C.ok c hc
  obtain ⟨e, he⟩ := List.exists_mem_of_ne_nil _ okc.2.2
  obtain ⟨q, hq⟩ := okc.2.1.1.1
  rcases h with h | h | h
  · have : ∃ d ∈ cs, ¬ (c.n = d.n ∧ c.g = d.g) := by
      apply Classical.byContradiction
      intro z
      have z' : ∀ d ∈ cs, c.n = d.n ∧ c.g = d.g := fun d hd => Classical.byContradiction fun k => z ⟨d, hd, k⟩
      match cs, h, C.ne, z' with
      | [], _, _, _ => cases hc
      | [x], h, _, _ => exact h rfl
      | x :: y :: r, _, hp, z' =>
        have h1 := (List.pairwise_cons.mp hp).1 y (List.mem_cons_self ..)
        have h2 := z' x (List.mem_cons_self ..)
        have h3 := z' y (List.mem_cons_of_mem _ (List.mem_cons_self ..))
        exact h1 ⟨by rw [← h2.1, ← h3.1], by rw [← h2.2, ← h3.2]⟩
    obtain ⟨d, hd, nd⟩ := this
    have okd := C.ok d hd
    obtain ⟨e', he'⟩ := List.exists_mem_of_ne_nil _ okd.2.2
    obtain ⟨q', hq'⟩ := okd.2.1.1.1
    refine ⟨_, _, (covR_iff C).mpr ⟨c, hc, e, he, q, hq, rfl⟩, (covR_iff C).mpr ⟨d, hd, e', he', q', hq', rfl⟩, fun z => nd ?_⟩
    have := (snoc_ne z).1
    exact rowTo_place hq (this ▸ hq') (Nat.le_of_lt okc.1) (Nat.le_of_lt okd.1)
  · obtain ⟨l, l', h1, h2, n⟩ := okc.2.1.2.2 h
    exact ⟨_, _, (covR_iff C).mpr ⟨c, hc, e, he, l, h1, rfl⟩, (covR_iff C).mpr ⟨c, hc, e, he, l', h2, rfl⟩, fun z => n (snoc_ne z).1⟩
  · have hp := bgs_nodup c.g (t.drop c.n) as 0
    match hb : bgs c.g (t.drop c.n) 0 as with
    | [] => rw [hb] at he; cases he
    | [x] => rw [hb] at h; exact absurd rfl h
    | x :: y :: r =>
      rw [hb] at hp
      have h1 := (List.pairwise_cons.mp hp).1 y (List.mem_cons_self ..)
      exact ⟨_, _, (covR_iff C).mpr ⟨c, hc, x, by rw [hb]; exact List.mem_cons_self .., q, hq, rfl⟩, (covR_iff C).mpr ⟨c, hc, y, by rw [hb]; exact List.mem_cons_of_mem _ (List.mem_cons_self ..), q, hq, rfl⟩, fun z => by have := (snoc_ne z).2; omega⟩
/-! ### the rows to the end of the text, by covers and arcs -/
/-- the rows that go on with the arc i from the rows to a place -/
def Step6 (as : List Arc) (s : Nat) (t : List Nat) (n g i : Nat) (l : List Nat) : Prop := ∃ q, RowTo as s t n g q ∧ l = q ++ [i]
theorem step_lcp {as : List Arc} (hw : Wd6 as) {s : Nat} {t : List Nat} {n g i : Nat} {a : Arc} {q : List Nat} {al : Bool} (hn : n < t.length) (h : Ent6 as s t n g q al) (ha : as[i]? = some a) : LcpOf (Step6 as s t n g i) (if al = true then q ++ [i] else q) := by
  obtain ⟨l0, hl0⟩ := h.1.1
  cases al with
  | true =>
    rw [if_pos rfl]
    refine (LcpOf.one (q ++ [i])).congr fun l => ⟨fun z => ⟨q, h.own, z⟩, ?_⟩
    rintro ⟨r, hr, rfl⟩
    rw [h.2.1 rfl r hr]
  | false =>
    rw [if_neg (by decide)]
    obtain ⟨l1, l2, h1, h2, n12⟩ := h.2.2 rfl
    refine ⟨⟨_, l0, hl0, rfl⟩, fun l ⟨r, hr, e⟩ => by rw [e]; exact (h.1.2.1 r hr).trans (List.prefix_append _ _), fun w hw' => ?_⟩
    refine h.1.2.2 w fun r hr => ?_
    have p := hw' _ ⟨r, hr, rfl⟩
    rcases List.prefix_concat_iff.mp p with z | z
    · exfalso
      rw [z] at hw'
      have key : ∀ m, RowTo as s t n g m → m = r := fun m hm => by
        have p2 := hw' _ ⟨m, hm, rfl⟩
        rcases List.prefix_concat_iff.mp p2 with z2 | z2
        · exact (snoc_ne z2).1.symm
        · have p3 : r <+: m := (List.prefix_append r [i]).trans z2
          exact (wd_pre hw hm.1 p3 (by rw [hm.len (Nat.le_of_lt hn), hr.len (Nat.le_of_lt hn)]; exact Nat.le_refl _)).symm
      exact n12 ((key l1 h1).trans (key l2 h2).symm)
    · exact z
theorem step_oneY {as : List Arc} {s : Nat} {t : List Nat} {n g i : Nat} {q : List Nat} {al : Bool} (h : Ent6 as s t n g q al) : (al = true → ∀ l, Step6 as s t n g i l → l = q ++ [i]) ∧ (al = false → ∃ l l', Step6 as s t n g i l ∧ Step6 as s t n g i l' ∧ l ≠ l') := by
  refine ⟨fun e l ⟨r, hr, z⟩ => by rw [z, h.2.1 e r hr], fun e => ?_⟩
  obtain ⟨l, l', h1, h2, n⟩ := h.2.2 e
  exact ⟨_, _, ⟨l, h1, rfl⟩, ⟨l', h2, rfl⟩, fun z => n (snoc_ne z).1⟩
/-- the rows to the end are these -/
theorem end_iff {as : List Arc} (hw : Wd6 as) {s : Nat} {t : List Nat} {cs : List CE} (C : Cvr as s t cs) (ht : t ≠ []) {b : Nat} {l : List Nat} : RowTo as s t t.length b l ↔ ∃ c ∈ cs, ∃ e ∈ bgs c.g (t.drop c.n) 0 as, e.2.1.length = (t.drop c.n).length ∧ e.2.2 = b ∧ Step6 as s t c.n c.g e.1 l := by
  constructor
  · rintro ⟨h1, h2, h3⟩
    rw [List.take_length] at h2
    rcases List.eq_nil_or_concat l with rfl | ⟨q, i, rfl⟩
    · rw [txA_nil] at h2
      exact absurd h2.symm ht
    · rw [List.concat_eq_append] at *
      obtain ⟨k1, a, ha, ea⟩ := rw_snocY.mp h1
      rw [txA_appY, txA_oneY ha] at h2
      rw [rowEnd_snocY ha] at h3
      have wl := hw a (List.mem_of_getElem? ha)
      have hl := congrArg List.length h2
      rw [List.length_append] at hl
      have hr : RowTo as s t (txA as q).length (rowEnd as s q) q := ⟨k1, by rw [← h2, List.take_left], rfl⟩
      have hd : t.drop (txA as q).length = a.2.1 := by rw [← h2, List.drop_left]
      have hb := at_bgs (u := t.drop (txA as q).length) ha (by rw [hd]; exact List.prefix_refl _)
      rw [ea] at hb
      obtain ⟨c, hc, e1, e2⟩ := C.all _ _ q (by omega) hr (fun z => by rw [z] at hb; cases hb)
      refine ⟨c, hc, (i, a.2.1, a.2.2), by rw [e1, e2]; exact hb, by rw [e1, hd], h3, q, by rw [e1, e2]; exact hr, rfl⟩
  · rintro ⟨c, hc, e, he, hl, rfl, q, hr, rfl⟩
    obtain ⟨h1, h2⟩ := bgs_at he
    have ew : t.drop c.n = e.2.1 := h2.eq_of_length hl.symm
    refine ⟨rw_snocY.mpr ⟨hr.1, _, h1, hr.2.2.symm⟩, ?_, (rowEnd_snocY h1 : rowEnd as s (q ++ [e.1]) = (c.g, e.2.1, e.2.2).2.2)⟩
    rw [txA_appY, txA_oneY h1, hr.2.1, List.take_length]
    show t.take c.n ++ e.2.1 = t
    rw [← ew, List.take_append_drop]
end J


set_option Elab.async false
set_option linter.all false
set_option maxRecDepth 100000
set_option maxHeartbeats 4000000
namespace J
open PySem L2
/-! ### a reader's state -/
def rdF (q : Addr) (s : Nat) (d : Addr) (t : List Nat) (tl pl : Addr) : List (Str × V) := putF "_places" (.ref pl) (putF "_told" (.ref tl) (putF "_text" (.str (SX.S t)) (putF "_arcs" (.ref d) (putF "_state" (.int (s : Int)) (putF "_loom" (.ref q) [])))))
theorem rdF_loom (q : Addr) (s : Nat) (d : Addr) (t : List Nat) (tl pl : Addr) : (rdF q s d t tl pl).lookup ("_loom" : Str) = some (.ref q) := by rfl
theorem rdF_state (q : Addr) (s : Nat) (d : Addr) (t : List Nat) (tl pl : Addr) : (rdF q s d t tl pl).lookup ("_state" : Str) = some (.int (s : Int)) := by rfl
theorem rdF_arcs (q : Addr) (s : Nat) (d : Addr) (t : List Nat) (tl pl : Addr) : (rdF q s d t tl pl).lookup ("_arcs" : Str) = some (.ref d) := by rfl
theorem rdF_text (q : Addr) (s : Nat) (d : Addr) (t : List Nat) (tl pl : Addr) : (rdF q s d t tl pl).lookup ("_text" : Str) = some (.str (SX.S t)) := by rfl
theorem rdF_told (q : Addr) (s : Nat) (d : Addr) (t : List Nat) (tl pl : Addr) : (rdF q s d t tl pl).lookup ("_told" : Str) = some (.ref tl) := by rfl
theorem rdF_places (q : Addr) (s : Nat) (d : Addr) (t : List Nat) (tl pl : Addr) : (rdF q s d t tl pl).lookup ("_places" : Str) = some (.ref pl) := by rfl
theorem rdF_put_text (q : Addr) (s : Nat) (d : Addr) (t u : List Nat) (tl pl : Addr) : putF "_text" (.str (SX.S u)) (rdF q s d t tl pl) = rdF q s d u tl pl := by rfl
theorem rdF_put_places (q : Addr) (s : Nat) (d : Addr) (t : List Nat) (tl pl pl' : Addr) : putF "_places" (.ref pl') (rdF q s d t tl pl) = rdF q s d t tl pl' := by rfl
theorem rdF_len (q : Addr) (s : Nat) (d : Addr) (t : List Nat) (tl pl : Addr) : (rdF q s d t tl pl).length = 6 := by rfl
/-- the table of the arcs, its lists apart from tl -/
def TbR (H : Hp) (d tl : Addr) (as : List Arc) : Prop := ∃ (kvs : List (List Key × V)) (at_ : Ky → Addr), H d = some (.dT kvs) ∧ (∀ q, ctL (prsAll 0 as) q = [] → valV kvs (bgk q) = none) ∧
  (∀ q, ctL (prsAll 0 as) q ≠ [] → valV kvs (bgk q) = some (.ref (at_ q)) ∧ at_ q ≠ tl ∧ ∃ us, H (at_ q) = some (.lst us) ∧ Lv H us (ctL (prsAll 0 as) q))
/-- a change of the lists and objects of a reader alone -/
def Up2 (r tl : Addr) (H H' : Hp) : Prop := ∀ b o, b ≠ r → b ≠ tl → H b = some o → H' b = some o
theorem TbR.up {H H' : Hp} {d tl r : Addr} {as : List Arc} {C : Addr} {dr : Addr} {f : List (Str × V)} {ys : List V} (h : TbR H d tl as) (hr : H r = some (.ins C dr f)) (ht : H tl = some (.lst ys)) (u : Up2 r tl H H') : TbR H' d tl as := by
  obtain ⟨kvs, at_, h1, h2, h3⟩ := h
  refine ⟨kvs, at_, u _ _ (fun z => by rw [z, hr] at h1; cases h1) (fun z => by rw [z, ht] at h1; cases h1) h1, h2, fun q hq => ?_⟩
  obtain ⟨e1, e2, us, e3, e4⟩ := h3 q hq
  exact ⟨e1, e2, us, u _ _ (fun z => by rw [z, hr] at e3; cases e3) e2 e3, e4.to fun t xs e => u _ _ (fun z => by rw [z, hr] at e; cases e) (fun z => by rw [z, ht] at e; cases e) e⟩
theorem TbR.same {H H' : Hp} {d tl : Addr} {as : List Arc} (h : TbR H d tl as) (s : Same H H') : TbR H' d tl as := by
  obtain ⟨kvs, at_, h1, h2, h3⟩ := h
  refine ⟨kvs, at_, s _ _ h1, h2, fun q hq => ?_⟩
  obtain ⟨e1, e2, us, e3, e4⟩ := h3 q hq
  exact ⟨e1, e2, us, s _ _ e3, e4.same s⟩
/-- the entries of a place -/
def EnV (C : Addr) (H : Hp) (S : Addr → Prop) (as : List Arc) (s : Nat) (t : List Nat) (n : Nat) (c : CE) (v : V) : Prop := c.n = n ∧ c.g ≤ 63 ∧ S c.x ∧ Tr C H c.x c.q ∧ Ent6 as s t n c.g c.q c.al ∧ ∃ tp, v = .ref tp ∧ H tp = some (.tup [.ref c.x, .bl c.al])
def Plc (C : Addr) (H : Hp) (S : Addr → Prop) (as : List Arc) (s : Nat) (t : List Nat) (n : Nat) (d : Addr) : Prop := ∃ (kvs : List (Key × V)) (es : List CE), H d = some (.dK kvs) ∧ kvs.length = es.length ∧ es.length ≤ 64 ∧ (∀ (j : Nat) c, es[j]? = some c → ∃ v, kvs[j]? = some (.inl (c.g : Int), v) ∧ EnV C H S as s t n c v) ∧
  es.Pairwise (fun a b => a.g ≠ b.g) ∧ ∀ g l, RowTo as s t n g l → ∃ c ∈ es, c.g = g
theorem EnV.to {C : Addr} {H H' : Hp} {S S' : Addr → Prop} {as : List Arc} {s : Nat} {t : List Nat} {n : Nat} {c : CE} {v : V} (h : EnV C H S as s t n c v) (k1 : ∀ y dx ah num m z, H y = some (.ins C dx (trF ah num m z)) → H' y = some (.ins C dx (trF ah num m z))) (k2 : ∀ b xs, H b = some (.tup xs) → H' b = some (.tup xs)) (k3 : ∀ x, S x → S' x) : EnV C H' S' as s t n c v := by
  obtain ⟨h1, h2, h3, h4, h5, tp, h6, h7⟩ := h
  exact ⟨h1, h2, k3 _ h3, h4.to k1, h5, tp, h6, k2 _ _ h7⟩
theorem Plc.to {C : Addr} {H H' : Hp} {S S' : Addr → Prop} {as : List Arc} {s : Nat} {t : List Nat} {n : Nat} {d : Addr} (h : Plc C H S as s t n d) (k1 : ∀ y dx ah num m z, H y = some (.ins C dx (trF ah num m z)) → H' y = some (.ins C dx (trF ah num m z))) (k2 : ∀ b xs, H b = some (.tup xs) → H' b = some (.tup xs)) (k4 : ∀ b xs, H b = some (.dK xs) → H' b = some (.dK xs)) (k3 : ∀ x, S x → S' x) : Plc C H' S' as s t n d := by
  obtain ⟨kvs, es, h1, h2, h3, h4, h5, h6⟩ := h
  refine ⟨kvs, es, k4 _ _ h1, h2, h3, fun j c hc => ?_, h5, h6⟩
  obtain ⟨v, e1, e2⟩ := h4 j c hc
  exact ⟨v, e1, e2.to k1 k2 k3⟩
theorem rowTo_app {as : List Arc} {s : Nat} {t u : List Nat} {n g : Nat} {l : List Nat} (hn : n ≤ t.length) : RowTo as s (t ++ u) n g l ↔ RowTo as s t n g l := by
  unfold RowTo
  rw [List.take_append_of_le_length hn]
theorem ent6_app {as : List Arc} {s : Nat} {t u : List Nat} {n g : Nat} {q : List Nat} {al : Bool} (hn : n ≤ t.length) (h : Ent6 as s t n g q al) : Ent6 as s (t ++ u) n g q al := by
  refine ⟨h.1.congr fun l => (rowTo_app hn).symm, fun e l hl => h.2.1 e l ((rowTo_app hn).mp hl), fun e => ?_⟩
  obtain ⟨l, l', h1, h2, n'⟩ := h.2.2 e
  exact ⟨l, l', (rowTo_app hn).mpr h1, (rowTo_app hn).mpr h2, n'⟩
theorem plc_app {C : Addr} {H : Hp} {S : Addr → Prop} {as : List Arc} {s : Nat} {t u : List Nat} {n : Nat} {d : Addr} (hn : n ≤ t.length) (h : Plc C H S as s t n d) : Plc C H S as s (t ++ u) n d := by
  obtain ⟨kvs, es, h1, h2, h3, h4, h5, h6⟩ := h
  refine ⟨kvs, es, h1, h2, h3, fun j c hc => ?_, h5, fun g l hl => h6 g l ((rowTo_app hn).mp hl)⟩
  obtain ⟨v, e1, p1, p2, p3, p4, p5, p6⟩ := h4 j c hc
  exact ⟨v, e1, p1, p2, p3, p4, ent6_app hn p5, p6⟩
/-- a reader that has taken t -/
structure RdS (C CT CR : Addr) (as : List Arc) (s : Nat) (H : Hp) (r q d tl pl : Addr) (sg : List Nat) (us : List V) (t told : List Nat) (ds : List Addr) (S : Addr → Prop) : Prop where
  obj : ∃ dr, H r = some (.ins CR dr (rdF q s d t tl pl))
  loom : LoomAt C H q sg us as
  tab : TbR H d tl as
  tl_ : H tl = some (.lst (nats told))
  pl_ : H pl = some (.lst (ds.map V.ref))
  np : pl ≠ tl
  dl : ds.length = min 12 (t.length + 1)
  pc : ∀ (k : Nat) dd, ds.reverse[k]? = some dd → Plc CT H S as s t (t.length - k) dd
  fo : Fo CT H S
  old : ∀ x l, S x → Tr CT H x l → (txA as l).length ≤ t.length
  lcp : (t = [] ∧ told = []) ∨ (t ≠ [] ∧ LcpOf (CovR as s t) told)
  s63 : s ≤ 63
  ch : ∀ c ∈ t, c ∈ sg
theorem RdS.same {C CT CR : Addr} {as : List Arc} {s : Nat} {H H' : Hp} {r q d tl pl : Addr} {sg : List Nat} {us : List V} {t told : List Nat} {ds : List Addr} {S : Addr → Prop} (h : RdS C CT CR as s H r q d tl pl sg us t told ds S) (sm : Same H H') : RdS C CT CR as s H' r q d tl pl sg us t told ds S where
  obj := h.obj.imp fun _ e => sm _ _ e
  loom := h.loom.same sm
  tab := h.tab.same sm
  tl_ := sm _ _ h.tl_
  pl_ := sm _ _ h.pl_
  np := h.np
  dl := h.dl
  pc := fun k dd e => (h.pc k dd e).to (fun _ _ _ _ _ _ e => sm _ _ e) (fun _ _ e => sm _ _ e) (fun _ _ e => sm _ _ e) fun _ z => z
  fo := h.fo.same sm
  old := fun x l hx hl => by
    obtain ⟨l', hl'⟩ := h.fo.tr x hx
    rw [← (hl'.same sm).det hl]
    exact h.old x l' hx hl'
  lcp := h.lcp
  s63 := h.s63
  ch := h.ch
/-- covers as objects -/
def CvAt (CT : Addr) (H : Hp) (S : Addr → Prop) (as : List Arc) (t : List Nat) (cv : List V) (cs : List CE) : Prop := cv.length = cs.length ∧ ∀ (i : Nat) c, cs[i]? = some c → ∃ (tp la : Addr) (us : List V), cv[i]? = some (.ref tp) ∧ H tp = some (.tup [.ref c.x, .bl c.al, .ref la, .int ((t.drop c.n).length : Nat)]) ∧ H la = some (.lst us) ∧ Lv H us (bgs c.g (t.drop c.n) 0 as) ∧ S c.x ∧ Tr CT H c.x c.q
def spCovers (C CT CR : Addr) : Sp := fun vs H Q _ => ∃ (as : List Arc) (s : Nat) (r q d tl pl : Addr) (sg : List Nat) (us : List V) (t told : List Nat) (ds : List Addr) (S : Addr → Prop) (c : Nat), vs = [.ref r, .str (SX.S [c])] ∧ RdS C CT CR as s H r q d tl pl sg us t told ds S ∧ t.length < 2000 ∧
  ∀ (H' : Hp) (L : Addr) (cv : List V) (cs : List CE), Same H H' → H L = none → H' L = some (.lst cv) → CvAt CT H' S as (t ++ [c]) cv cs → Cvr as s (t ++ [c]) cs → cs.length ≤ 800 → Q (.ref L) H'
end J


set_option Elab.async false
set_option linter.all false
set_option maxRecDepth 100000
set_option maxHeartbeats 4000000
namespace J
open PySem L2
/-- covers as objects; the lists of arcs stood there before -/
def CvX (CT : Addr) (H0 H : Hp) (S : Addr → Prop) (as : List Arc) (t : List Nat) (cv : List V) (cs : List CE) : Prop := cv.length = cs.length ∧ ∀ (i : Nat) c, cs[i]? = some c → ∃ (tp la : Addr) (us : List V), cv[i]? = some (.ref tp) ∧ H tp = some (.tup [.ref c.x, .bl c.al, .ref la, .int ((t.drop c.n).length : Nat)]) ∧ H0 la ≠ none ∧ H la = some (.lst us) ∧ Lv H us (bgs c.g (t.drop c.n) 0 as) ∧ S c.x ∧ Tr CT H c.x c.q
theorem CvX.to {CT L : Addr} {H0 H H' : Hp} {S : Addr → Prop} {as : List Arc} {t : List Nat} {cv xs : List V} {cs : List CE} (h : CvX CT H0 H S as t cv cs) (hL : H L = some (.lst xs)) (hL0 : H0 L = none) (k : ∀ b o, b ≠ L → (∀ kk, o ≠ .dK kk) → (∀ od kk, o ≠ .frz od (.dK kk)) → H b = some o → H' b = some o) : CvX CT H0 H' S as t cv cs := ⟨h.1, fun i c hc => by
  obtain ⟨tp, la, us, a1, a2, a3, a4, a5, a6, a7⟩ := h.2 i c hc
  have kt : ∀ b xs, H b = some (.tup xs) → H' b = some (.tup xs) := fun b xs e => k b (.tup xs) (fun z => by rw [z, hL] at e; cases e) (fun _ z => HO.noConfusion z) (fun _ _ z => HO.noConfusion z) e
  have ki : ∀ y dx ah num m z, H y = some (.ins CT dx (trF ah num m z)) → H' y = some (.ins CT dx (trF ah num m z)) := fun y dx ah num m z e => k y (.ins CT dx (trF ah num m z)) (fun z => by rw [z, hL] at e; cases e) (fun _ z => HO.noConfusion z) (fun _ _ z => HO.noConfusion z) e
  have kl : H' la = some (.lst us) := k la (.lst us) (fun z => a3 (by rw [z]; exact hL0)) (fun _ z => HO.noConfusion z) (fun _ _ z => HO.noConfusion z) a4
  exact ⟨tp, la, us, a1, kt _ _ a2, a3, kl, a5.to kt, a6, a7.to ki⟩⟩
theorem CvX.at_ {CT : Addr} {H0 H : Hp} {S : Addr → Prop} {as : List Arc} {t : List Nat} {cv : List V} {cs : List CE} (h : CvX CT H0 H S as t cv cs) : CvAt CT H S as t cv cs := ⟨h.1, fun i c hc => by
  obtain ⟨tp, la, us, a1, a2, a3, a4, a5, a6, a7⟩ := h.2 i c hc
  exact ⟨tp, la, us, a1, a2, a4, a5, a6, a7⟩⟩
theorem CvX.snoc {CT : Addr} {H0 H : Hp} {S : Addr → Prop} {as : List Arc} {t : List Nat} {cv : List V} {cs : List CE} (h : CvX CT H0 H S as t cv cs) {tp la : Addr} {us : List V} {c : CE} (a2 : H tp = some (.tup [.ref c.x, .bl c.al, .ref la, .int ((t.drop c.n).length : Nat)])) (a3 : H0 la ≠ none) (a4 : H la = some (.lst us)) (a5 : Lv H us (bgs c.g (t.drop c.n) 0 as)) (a6 : S c.x) (a7 : Tr CT H c.x c.q) : CvX CT H0 H S as t (cv ++ [.ref tp]) (cs ++ [c]) := by
  refine ⟨by rw [List.length_append, List.length_append, h.1]; rfl, fun i f hf => ?_⟩
  by_cases q : i < cs.length
  · rw [List.getElem?_append_left q] at hf
    obtain ⟨b1, b2, b3, b4, b5⟩ := h.2 i f hf
    exact ⟨b1, b2, b3, by rw [List.getElem?_append_left (by rw [h.1]; exact q)]; exact b4, b5⟩
  · have hi : i = cs.length := by
      have := (List.getElem?_eq_some_iff.mp hf).1
      rw [List.length_append, List.length_singleton] at this
      omega
    subst hi
    rw [List.getElem?_append_right (Nat.le_refl _)] at hf
    simp at hf
    subst hf
    exact ⟨tp, la, us, by rw [List.getElem?_append_right (by rw [h.1]; exact Nat.le_refl _), h.1]; simp, a2, a3, a4, a5, a6, a7⟩
section
variable {P : Program} {w : World} {K : PySem.W.Frag} {mg : Str → Option Value} {base : Heap}
theorem ok_Reader__covers (T : Tx K mg) : FnOk P w K mg base CX0 1 T.f_Reader__covers T.fd_Reader__covers P_Reader__covers (spCovers T.C_Loom T.C_Trail T.C_Reader) := by
  refine T.F_Reader__covers.ok sc_Reader__covers (fun vs H Q E h => ?_) (fun cdv A outer st0 H vs Q E hr h => ?_)
  · obtain ⟨as, s, r, q, d, tl, pl, sg, us, t, told, ds, S, c, rfl, _⟩ := h
    rfl
  · obtain ⟨as, s, r, q, d, tl, pl, sg, us, t, told, ds, S, c, rfl, R, ht2, k⟩ := h
    refine ⟨_, (pss_cons (ps_set (i := 2) sc_Reader__covers.nd rfl (Or.inl rfl) (pe_op op_add_str (pe_fld (pv 0) rfl) (pv 1)))
        (pss_cons (ps_set (i := 3) sc_Reader__covers.nd rfl (Or.inl rfl) (pe_lst pa_nil))
        (pss_cons (ps_for PassesOwn.never rfl (pi_enum rfl T.n_enumerate (pa_cons (pe_revL (pe_fld (pv 0) rfl)) pa_nil)) (pg_tup rfl (pgs_cons (pg_name (i := 4) sc_Reader__covers.nd rfl (Or.inl rfl)) (pgs_cons (pg_name (i := 5) sc_Reader__covers.nd rfl (Or.inl rfl)) pgs_nil))) (pss_cons (ps_set (i := 6) sc_Reader__covers.nd rfl (Or.inl rfl) (pe_slice sl_str (pv 2) (po_some (pe_op op_sub (pe_op op_sub (pe_callB call_len_str rfl T.n_len (by decide +kernel) (pa_cons (pv 2) pa_nil)) pe_int) (pv 4))) po_none))
        (pss_one (ps_lock (ps_for PassesOwn.never rfl (pi_items (pv 5)) (pg_tup rfl (pgs_cons (pg_name (i := 7) sc_Reader__covers.nd rfl (Or.inl rfl)) (pgs_cons (pg_tup rfl (pgs_cons (pg_name (i := 8) sc_Reader__covers.nd rfl (Or.inl rfl)) (pgs_cons (pg_name (i := 9) sc_Reader__covers.nd rfl (Or.inl rfl)) pgs_nil))) pgs_nil))) (pss_cons (ps_set (i := 10) sc_Reader__covers.nd rfl (Or.inl rfl) (pe_dget2 (hu_of hr) (pe_fld (pv 0) rfl) (pe_tup (pa_cons (pv 7) (pa_cons (pv 6) pa_nil))) (pe_lst pa_nil) ⟨rfl, rfl, rfl, rfl⟩))
        (pss_one (ps_if (pt_cmpR op_gt (pe_callB (call_len_seqK (K := K) rfl) rfl T.n_len (by decide +kernel) (pa_cons (pv 10) pa_nil)) pe_int (nomark _)) (pss_one (ps_expr (pe_bm PySem.F.plainAttrs_list PySem.F.slot_list_append PySem.F.type_list_append mt_append (pv 3) (pa_cons (pe_tup (pa_cons (pv 8) (pa_cons (pv 9) (pa_cons (pv 10) (pa_cons (pe_callB call_len_str rfl T.n_len (by decide +kernel) (pa_cons (pv 6) pa_nil)) pa_nil))))) pa_nil)))) pss_nil))))))))
        (pss_one (ps_ret (pv 3)))))), ?_⟩
    obtain ⟨dr, hobj⟩ := R.obj
    have hds := R.dl
    refine ⟨_, rfl, r, _, dr, _, _, rfl, hobj, T.cl_Reader, T.na_Reader__text, rdF_text _ _ _ _ _ _, _, rfl, SX.S t, SX.S [c], rfl, rfl, le_size (by rw [SX.S_len, SX.S_len, List.length_singleton]; omega), ?_⟩
    rw [SX.S_cat]
    refine ⟨Nat.zero_le _, fun L hL => ?_⟩
    have s1 : Same H (upd H L (.lst [])) := Same.new _ hL
    have g1 : upd H L (.lst []) L = some (.lst []) := upd_same
    generalize upd H L (.lst []) = H1 at *
    refine ⟨_, rfl, r, _, dr, _, _, rfl, s1 _ _ hobj, T.cl_Reader, T.na_Reader__places, rdF_places _ _ _ _ _ _, pl, _, rfl, SqL.of (s1 _ _ R.pl_), fun RL hRL => ?_⟩
    have s2 : Same H1 (upd H1 RL (.lst (ds.map V.ref).reverse)) := Same.new _ hRL
    have g2 : upd H1 RL (.lst (ds.map V.ref).reverse) RL = some (.lst (ds.reverse.map V.ref)) := by rw [upd_same, List.map_reverse]
    have gL2 := s2 _ _ g1
    have nRL : RL ≠ L := hp_ne g1 hRL
    generalize upd H1 RL (.lst (ds.map V.ref).reverse) = H2 at *
    have S2 := s1.trans s2
    have l12 : ds.length ≤ 12 := by omega
    have t1 : (t ++ [c]).length = t.length + 1 := by rw [List.length_append, List.length_singleton]
    refine ⟨RL, _, rfl, SqL.of g2, for_it (walk_enum (K := K) (a := RL) (xs := ds.reverse.map V.ref)) (fun i σ H' => ∃ (v4 v5 v6 v7 v8 v9 v10 : Option V) (cv : List V) (cs : List CE), σ = [some (.ref r), some (.str (SX.S [c])), some (.str (SX.S (t ++ [c]))), some (.ref L), v4, v5, v6, v7, v8, v9, v10] ∧ H' L = some (.lst cv) ∧ CvX T.C_Trail H H' S as (t ++ [c]) cv cs ∧ Ex L H2 H' ∧ (∀ x ∈ cs, OkC as s (t ++ [c]) x) ∧ cs.Pairwise (fun a b => ¬ (a.n = b.n ∧ a.g = b.g)) ∧ (∀ x ∈ cs, t.length < x.n + i) ∧ (∀ n g l, t.length < n + i → n < (t ++ [c]).length → RowTo as s (t ++ [c]) n g l → bgs g ((t ++ [c]).drop n) 0 as ≠ [] → ∃ x ∈ cs, x.n = n ∧ x.g = g) ∧ cs.length ≤ 64 * i) ?_ ?_ ?_ ?_⟩
    · exact ⟨none, none, none, none, none, none, none, [], [], rfl, gL2, ⟨rfl, fun i c h => by simp at h⟩, Ex.refl _ _, fun x h => (nomatch h), List.Pairwise.nil, fun x h => (nomatch h), fun n g l h1 h2 => by omega, Nat.le_refl _⟩
    · rintro i σ H' _ ⟨_, _, _, _, _, _, _, _, _, _, _, _, x3, _⟩
      exact SqL.of (x3 _ _ nRL g2)
    · rintro i x σ H3 H4 hi ⟨v4, v5, v6, v7, v8, v9, v10, cv, cs, rfl, gL3, hcv, x3, hok, hpw, hlo, hall, hcl⟩ ⟨tp, x1, y1, rfl, htp, rfl, hx1, hy1⟩
      cases hx1
      have hil : i < ds.length := by rw [List.length_map, List.length_reverse] at hi; exact hi
      obtain ⟨dd, hdd, rfl⟩ : ∃ dd, ds.reverse[i]? = some dd ∧ y1 = .ref dd := by
        have hy1 : (ds.reverse.map V.ref)[i]? = some y1 := hy1
        rw [List.getElem?_map] at hy1
        obtain ⟨dd, h1, h2⟩ := Option.map_eq_some_iff.mp hy1
        exact ⟨dd, h1, h2.symm⟩
      have hit : i ≤ t.length := by omega
      have sn := Same.new (.tup [V.int (i : Int), .ref dd]) htp
      have gtp : upd H3 tp (.tup [V.int (i : Int), .ref dd]) tp = some (.tup [V.int (i : Int), .ref dd]) := upd_same
      have gL4 := sn _ _ gL3
      have x4 := x3.trans (Same.ex (p := L) sn)
      have hcv4 : CvX T.C_Trail H (upd H3 tp (.tup [V.int (i : Int), .ref dd])) S as (t ++ [c]) cv cs := hcv.to gL3 hL fun b o _ _ _ e => sn _ _ e
      generalize upd H3 tp (.tup [V.int (i : Int), .ref dd]) = H5 at *
      refine ⟨tp, _, rfl, SqT.of gtp, rfl, _, _, rfl, _, _, rfl, rfl, ?_⟩
      refine ⟨_, rfl, _, rfl, _, rfl, le_size (by rw [SX.S_len, t1]; omega), _, _, rfl, rfl, _, rfl, _, _, rfl, rfl, _, rfl, _, rfl, le_size (by rw [SX.S_len, t1]; omega), ?_⟩
      obtain ⟨n, hn⟩ : ∃ n, t.length - i = n := ⟨_, rfl⟩
      have hnt : n ≤ t.length := by omega
      have eleft : cutS (SX.S (t ++ [c])) (some (((SX.S (t ++ [c])).length : Int) - 1 - (i : Int))) none = SX.S ((t ++ [c]).drop n) := by
        rw [SX.S_len, t1, show ((t.length + 1 : Nat) : Int) - 1 - (i : Int) = ((n : Nat) : Int) by omega]
        exact cutS_from _ _
      rw [eleft]
      obtain ⟨left, hleft⟩ : ∃ u, (t ++ [c]).drop n = u := ⟨_, rfl⟩
      rw [hleft]
      have lleft : left.length = i + 1 := by rw [← hleft, List.length_drop, t1]; omega
      have lne : left ≠ [] := fun z => by rw [z] at lleft; cases lleft
      have S5 : Same H H5 := fun b o e => x4 _ _ (fun z => by rw [z, hL] at e; cases e) (S2 _ _ e)
      have R5 := R.same S5
      have hP := plc_app (u := [c]) (show n ≤ t.length from hnt) (hn ▸ R5.pc i dd hdd)
      obtain ⟨kvs, es, hd5, hkl, he64, hent, hpe, hcomp⟩ := hP
      have nLd : L ≠ dd := fun z => by rw [← z, gL4] at hd5; cases hd5
      refine ⟨dd, .dK kvs, hd5, trivial, fun od => ?_⟩
      have gf : upd H5 dd (.frz od (.dK kvs)) dd = some (.frz od (.dK kvs)) := upd_same
      have k6 : ∀ b o, b ≠ dd → H5 b = some o → upd H5 dd (.frz od (.dK kvs)) b = some o := fun b o nb e => by rw [upd_ne nb]; exact e
      have hcv6 : CvX T.C_Trail H (upd H5 dd (.frz od (.dK kvs))) S as (t ++ [c]) cv cs := hcv4.to gL4 hL fun b o _ h1 _ e => k6 _ _ (fun z => by rw [z, hd5] at e; exact h1 kvs (Option.some.inj e).symm) e
      generalize upd H5 dd (.frz od (.dK kvs)) = H6 at *
      refine ⟨_, rfl, dd, od, kvs, rfl, gf, for_it walk_items (fun j σ H' => ∃ (v7 v8 v9 v10 : Option V) (cv : List V) (cs : List CE), σ = [some (.ref r), some (.str (SX.S [c])), some (.str (SX.S (t ++ [c]))), some (.ref L), some (.int (i : Int)), some (.ref dd), some (.str (SX.S left)), v7, v8, v9, v10] ∧ H' dd = some (.frz od (.dK kvs)) ∧ H' L = some (.lst cv) ∧ CvX T.C_Trail H H' S as (t ++ [c]) cv cs ∧ (∀ b o, b ≠ L → b ≠ dd → H5 b = some o → H' b = some o) ∧ (∀ x ∈ cs, OkC as s (t ++ [c]) x) ∧ cs.Pairwise (fun a b => ¬ (a.n = b.n ∧ a.g = b.g)) ∧ (∀ x ∈ cs, t.length < x.n + i ∨ x.n = n ∧ ∃ y ∈ es.take j, y.g = x.g) ∧ (∀ m g l, t.length < m + i ∨ m = n ∧ (∃ y ∈ es.take j, y.g = g) → m < (t ++ [c]).length → RowTo as s (t ++ [c]) m g l → bgs g ((t ++ [c]).drop m) 0 as ≠ [] → ∃ x ∈ cs, x.n = m ∧ x.g = g) ∧ cs.length ≤ 64 * i + j) ?_ ?_ ?_ ?_⟩
      · exact ⟨v7, v8, v9, v10, cv, cs, rfl, gf, k6 _ _ nLd gL4, hcv6, fun b o _ n2 e => k6 _ _ n2 e, hok, hpw, fun x hx => .inl (hlo x hx), fun m g l h => hall m g l (h.elim id fun ⟨_, y, hy, _⟩ => by simp at hy), hcl⟩
      · rintro j σ H' _ ⟨_, _, _, _, _, _, _, g, _⟩
        exact g
      · rintro j x σ H7 H8 hj ⟨v7, v8, v9, v10, cv, cs, rfl, gd7, gL7, hcv7, x7, hok7, hpw7, hlo7, hall7, hcl7⟩ ⟨tp2, x2, y2, rfl, htp2, rfl, hx2, hy2⟩
        have hje : j < es.length := by omega
        obtain ⟨e, hee⟩ : ∃ e, es[j]? = some e := ⟨_, List.getElem?_eq_getElem hje⟩
        obtain ⟨v, hkv, en, eg63, eS, eT, eE, tp3, rfl, htp3⟩ := hent j e hee
        have hx2 : Option.map (fun kv : Key × V => kV kv.1) kvs[j]? = some x2 := hx2
        have hy2 : Option.map Prod.snd kvs[j]? = some y2 := hy2
        rw [hkv] at hx2 hy2
        cases hx2
        cases hy2
        have tk : es.take (j + 1) = es.take j ++ [e] := by rw [List.take_add_one, hee]; rfl
        have n3L : tp3 ≠ L := fun z => by rw [z, gL4] at htp3; cases htp3
        have n3d : tp3 ≠ dd := fun z => by rw [z, hd5] at htp3; cases htp3
        have q8 := Same.new (.tup [kV (.inl (e.g : Int)), .ref tp3]) htp2
        have g8 : upd H7 tp2 (.tup [kV (.inl (e.g : Int)), .ref tp3]) tp2 = some (.tup [.int (e.g : Int), .ref tp3]) := upd_same
        have gd8 := q8 _ _ gd7
        have gL8 := q8 _ _ gL7
        have hcv8 : CvX T.C_Trail H (upd H7 tp2 (.tup [kV (.inl (e.g : Int)), .ref tp3])) S as (t ++ [c]) cv cs := hcv7.to gL7 hL fun b o _ _ _ z => q8 _ _ z
        have x8 : ∀ b o, b ≠ L → b ≠ dd → H5 b = some o → upd H7 tp2 (.tup [kV (.inl (e.g : Int)), .ref tp3]) b = some o := fun b o n1 n2 z => q8 _ _ (x7 b o n1 n2 z)
        generalize upd H7 tp2 (.tup [kV (.inl (e.g : Int)), .ref tp3]) = H8 at *
        obtain ⟨dr5, hobj5⟩ := R5.obj
        have nrL : r ≠ L := fun z => by rw [z, gL4] at hobj5; cases hobj5
        have nrd : r ≠ dd := fun z => by rw [z, hd5] at hobj5; cases hobj5
        obtain ⟨kt, at_, hk5, hnone, hsome⟩ := R5.tab
        have ndL : d ≠ L := fun z => by rw [z, gL4] at hk5; cases hk5
        have ndd : d ≠ dd := fun z => by rw [z, hd5] at hk5; cases hk5
        have ecl : ctL (prsAll 0 as) (e.g, left) = bgs e.g left 0 as := ctL_all e.g left lne as 0
        refine ⟨tp2, _, rfl, SqT.of g8, rfl, _, _, rfl, _, _, rfl, tp3, _, rfl, SqT.of (x8 _ _ n3L n3d htp3), rfl, _, _, rfl, _, _, rfl, rfl, rfl, ?_⟩
        refine ⟨_, rfl, r, _, dr5, _, _, rfl, x8 _ _ nrL nrd hobj5, T.cl_Reader, T.na_Reader__arcs, rdF_arcs _ _ _ _ _ _, d, rfl, .inr ⟨kt, .inl (x8 _ _ ndL ndd hk5)⟩, _, rfl, _, rfl, le_size (by simp), fun ka hka => ⟨Nat.zero_le _, fun Z hZ => ?_⟩⟩
        have q9 : Same H8 (upd H8 ka (.tup [V.int (e.g : Int), V.str (SX.S left)])) := Same.new _ hka
        have g9 : upd H8 ka (.tup [V.int (e.g : Int), V.str (SX.S left)]) ka = some (.tup ((bgk (e.g, left)).map kV)) := upd_same
        generalize upd H8 ka (.tup [V.int (e.g : Int), V.str (SX.S left)]) = H9 at *
        have q10 : Same H9 (upd H9 Z (.lst [])) := Same.new _ hZ
        have gZ : upd H9 Z (.lst []) Z = some (.lst []) := upd_same
        generalize upd H9 Z (.lst []) = H10 at *
        have q810 := q9.trans q10
        refine ⟨_, .inr ⟨kt, bgk (e.g, left), ka, .inl (q810 _ _ (x8 _ _ ndL ndd hk5)), rfl, q10 _ _ g9, rfl⟩, ?_⟩
        have gd10 := q810 _ _ gd8
        have gL10 := q810 _ _ gL8
        have hcv10 : CvX T.C_Trail H H10 S as (t ++ [c]) cv cs := hcv8.to gL8 hL fun b o _ _ _ z => q810 _ _ z
        have x10 : ∀ b o, b ≠ L → b ≠ dd → H5 b = some o → H10 b = some o := fun b o n1 n2 z => q810 _ _ (x8 b o n1 n2 z)
        have hlo' : ∀ x ∈ cs, t.length < x.n + i ∨ x.n = n ∧ ∃ y ∈ es.take (j + 1), y.g = x.g := fun x hx => (hlo7 x hx).imp id fun ⟨h1, y, hy, h2⟩ => ⟨h1, y, by rw [tk]; exact List.mem_append_left _ hy, h2⟩
        by_cases hb : bgs e.g left 0 as = []
        · rw [hnone (e.g, left) (by rw [ecl]; exact hb)]
          refine ⟨_, rfl, Z, _, rfl, .inl (SqL.of gZ), _, _, rfl, rfl, _, rfl, ite2 (fun z => absurd z (by decide)) fun _ => ?_⟩
          refine ⟨_, _, _, _, cv, cs, rfl, gd10, gL10, hcv10, x10, hok7, hpw7, hlo', fun m g l h hm hrow hne => ?_, by omega⟩
          refine hall7 m g l (h.imp id fun ⟨h1, y, hy, h2⟩ => ⟨h1, ?_⟩) hm hrow hne
          rw [tk] at hy
          rcases List.mem_append.mp hy with hy | hy
          · exact ⟨y, hy, h2⟩
          · rw [List.mem_singleton.mp hy] at h2
            subst h2
            rw [h1, hleft] at hne
            exact absurd hb hne
        · obtain ⟨s1', s2', us2, s3', s4'⟩ := hsome (e.g, left) (by rw [ecl]; exact hb)
          rw [s1', Option.getD_some]
          rw [ecl] at s4'
          have la0 : H (at_ (e.g, left)) ≠ none := fun z => by
            obtain ⟨kt0, at0, hk0, hn0, hs0⟩ := R.tab
            rw [S5 _ _ hk0] at hk5
            cases hk5
            obtain ⟨p1, _, us0, p3, _⟩ := hs0 (e.g, left) (by rw [ecl]; exact hb)
            have e0 : at0 (e.g, left) = at_ (e.g, left) := by
              have e1 := p1.symm.trans s1'
              injection e1 with e1
              injection e1
            rw [e0, z] at p3
            cases p3
          have nlL : at_ (e.g, left) ≠ L := fun z => la0 (by rw [z]; exact hL)
          have nld : at_ (e.g, left) ≠ dd := fun z => by rw [z, hd5] at s3'; cases s3'
          have gla := x10 _ _ nlL nld s3'
          have tkx : ∀ b xs, H5 b = some (.tup xs) → H10 b = some (.tup xs) := fun b xs z => x10 _ _ (fun y => by rw [y, gL4] at z; cases z) (fun y => by rw [y, hd5] at z; cases z) z
          have tki : ∀ y dx ah num m z, H5 y = some (.ins T.C_Trail dx (trF ah num m z)) → H10 y = some (.ins T.C_Trail dx (trF ah num m z)) := fun y dx ah num m z q => x10 _ _ (fun y => by rw [y, gL4] at q; cases q) (fun y => by rw [y, hd5] at q; cases q) q
          have ll : 0 < us2.length := by
            rw [s4'.1]
            exact Nat.pos_of_ne_zero fun z => hb (List.eq_nil_of_length_eq_zero z)
          refine ⟨_, rfl, at_ (e.g, left), us2, rfl, .inl (SqL.of gla), _, _, rfl, rfl, _, rfl, ite2 (fun _ => ?_) fun z => absurd (decide_eq_true (by omega)) z⟩
          refine ⟨_, rfl, .inl ⟨rfl, _, SqL.of gL10⟩, _, rfl, _, rfl, _, rfl, _, rfl, _, rfl, le_size (by rw [SX.S_len, lleft]; omega), le_size (by simp), fun tq htq => ?_⟩
          have q11 := Same.new (.tup [V.ref e.x, V.bl e.al, V.ref (at_ (e.g, left)), V.int ((SX.S left).length : Int)]) htq
          have g11 : upd H10 tq (.tup [V.ref e.x, V.bl e.al, V.ref (at_ (e.g, left)), V.int ((SX.S left).length : Int)]) tq = some (.tup [V.ref e.x, V.bl e.al, V.ref (at_ (e.g, left)), V.int (((t ++ [c]).drop e.n).length : Nat)]) := by rw [upd_same, SX.S_len, en, hleft]
          have hcv11 : CvX T.C_Trail H (upd H10 tq (.tup [V.ref e.x, V.bl e.al, V.ref (at_ (e.g, left)), V.int ((SX.S left).length : Int)])) S as (t ++ [c]) cv cs := hcv10.to gL10 hL fun b o _ _ _ z => q11 _ _ z
          have gL11 := q11 _ _ gL10
          have gd11 := q11 _ _ gd10
          have gla11 := q11 _ _ gla
          have x11 : ∀ b o, b ≠ L → b ≠ dd → H5 b = some o → upd H10 tq (.tup [V.ref e.x, V.bl e.al, V.ref (at_ (e.g, left)), V.int ((SX.S left).length : Int)]) b = some o := fun b o n1 n2 z => q11 _ _ (x10 b o n1 n2 z)
          have lv11 := (s4'.to tkx).same q11
          have tr11 := (eT.to tki).same q11
          generalize upd H10 tq (.tup [V.ref e.x, V.bl e.al, V.ref (at_ (e.g, left)), V.int ((SX.S left).length : Int)]) = H11 at *
          refine ⟨L, _, _, rfl, rfl, gL11, lt_size (by rw [hcv11.1]; omega), ?_⟩
          have hsn := hcv11.snoc (c := e) g11 la0 gla11 (by rw [en, hleft]; exact lv11) eS tr11
          have nLt : ∀ b xs, H11 b = some (.tup xs) → b ≠ L := fun b xs z y => by rw [y, gL11] at z; cases z
          refine ⟨_, _, _, _, cv ++ [.ref tq], cs ++ [e], rfl, by rw [upd_ne (Ne.symm nLd)]; exact gd11, upd_same, hsn.to gL11 hL fun b o nb _ _ z => by rw [upd_ne nb]; exact z, fun b o n1 n2 z => by rw [upd_ne n1]; exact x11 b o n1 n2 z, fun x hx => ?_, List.pairwise_append.mpr ⟨hpw7, List.pairwise_singleton _ _, fun x hx y hy => ?_⟩, fun x hx => ?_, fun m g l h hm hrow hne => ?_, by rw [List.length_append, List.length_singleton]; omega⟩
          · rcases List.mem_append.mp hx with hx | hx
            · exact hok7 x hx
            · rw [List.mem_singleton.mp hx]
              exact ⟨by rw [en, t1]; omega, by rw [en]; exact eE, by rw [en, hleft]; exact hb⟩
          · rw [List.mem_singleton.mp hy]
            rintro ⟨z1, z2⟩
            rcases hlo7 x hx with z | ⟨_, y', hy', z⟩
            · rw [z1, en] at z
              omega
            · obtain ⟨jj, hjj⟩ := List.getElem?_of_mem hy'
              rw [List.getElem?_take] at hjj
              split at hjj
              · rename_i hlt
                have hp2 := List.pairwise_iff_getElem.mp hpe jj j (by omega) hje hlt
                rw [List.getElem?_eq_getElem (by omega)] at hjj hee
                rw [Option.some.inj hjj, Option.some.inj hee] at hp2
                exact hp2 (z.trans z2)
              · cases hjj
          · rcases List.mem_append.mp hx with hx | hx
            · exact hlo' x hx
            · rw [List.mem_singleton.mp hx]
              exact .inr ⟨en, e, by rw [tk]; exact List.mem_append_right _ (List.mem_singleton.mpr rfl), rfl⟩
          · have keyp : (∃ x ∈ cs, x.n = m ∧ x.g = g) ∨ (m = n ∧ e.g = g) := by
              rcases h with h | ⟨h1, y, hy, h2⟩
              · exact .inl (hall7 m g l (.inl h) hm hrow hne)
              · rw [tk] at hy
                rcases List.mem_append.mp hy with hy | hy
                · exact .inl (hall7 m g l (.inr ⟨h1, y, hy, h2⟩) hm hrow hne)
                · rw [List.mem_singleton.mp hy] at h2
                  exact .inr ⟨h1, h2⟩
            rcases keyp with ⟨x, hx, z⟩ | ⟨z1, z2⟩
            · exact ⟨x, List.mem_append_left _ hx, z⟩
            · exact ⟨e, List.mem_append_right _ (List.mem_singleton.mpr rfl), by rw [en, z1], z2⟩
      · rintro σ H7 ⟨v7, v8, v9, v10, cv, cs, rfl, gd7, gL7, hcv7, x7, hok7, hpw7, hlo7, hall7, hcl7⟩
        refine ⟨gd7, _, _, _, _, _, _, _, cv, cs, rfl, by rw [upd_ne nLd]; exact gL7, hcv7.to gL7 hL fun b o nb h1 h2 z => ?_, fun b o nb z => ?_, hok7, hpw7, fun x hx => ?_, fun m g l h hm hrow hne => ?_, by omega⟩
        · rw [upd_ne (fun y => by rw [y, gd7] at z; exact h2 od kvs (Option.some.inj z).symm)]
          exact z
        · have z5 := x4 _ _ nb z
          by_cases y : b = dd
          · rw [y] at z5 ⊢
            rw [upd_same, ← z5, hd5]
          · rw [upd_ne y]
            exact x7 b o nb y z5
        · rcases hlo7 x hx with z | ⟨z, _⟩
          · omega
          · omega
        · refine hall7 m g l ?_ hm hrow hne
          by_cases z : t.length < m + i
          · exact .inl z
          · have em : m = n := by omega
            obtain ⟨y, hy, hg⟩ := hcomp g l (em ▸ hrow)
            exact .inr ⟨em, y, by rw [hkl, List.take_length]; exact hy, hg⟩
    · rintro σ H3 ⟨v4, v5, v6, v7, v8, v9, v10, cv, cs, rfl, gL3, hcv, x3, hok, hpw, hlo, hall, hcl⟩
      have S3 : Same H H3 := fun b o e => x3 _ _ (fun z => by rw [z, hL] at e; cases e) (S2 _ _ e)
      rw [List.length_map, List.length_reverse] at hall hcl
      obtain ⟨_, _, _, _, _, hokw, _⟩ := R.loom
      have oka := hokw.all
      refine ⟨_, rfl, k H3 L cv cs S3 hL gL3 hcv.at_ ⟨hok, fun n g l hn hrow hne => ?_, hpw⟩ (by omega)⟩
      by_cases z : t.length < n + ds.length
      · exact hall n g l z hn hrow hne
      · exfalso
        obtain ⟨e, he⟩ := List.exists_mem_of_ne_nil _ hne
        obtain ⟨h1, h2⟩ := bgs_at he
        have h3 := (oka.2 _ (List.mem_of_getElem? h1)).2.2.1
        have h4 := h2.length_le
        rw [List.length_drop, t1] at h4
        have h5 : e.2.1.length ≤ 12 := h3
        omega
end
end J


set_option Elab.async false
set_option linter.all false
set_option maxRecDepth 100000
set_option maxHeartbeats 4000000
namespace J
open PySem L2
theorem Wd6.of {as : List Arc} (h : OkAll as) : Wd6 as := fun a ha => (h.2 a ha).2.1
/-- a new object changes nothing that stood there -/
theorem same_made {H H' : Hp} {x dx C : Addr} (hx : H x = none) (hdx : H dx = none) (e : Ex x (upd (upd H dx (.own x)) x (.ins C dx [])) H') : Same H H' := fun b o h => by
  have n1 : b ≠ x := fun z => by rw [z, hx] at h; cases h
  have n2 : b ≠ dx := fun z => by rw [z, hdx] at h; cases h
  refine e _ _ n1 ?_
  rw [upd_ne n1, upd_ne n2]
  exact h
theorem same_new2 {H : Hp} {x dx C : Addr} (hx : H x = none) (hdx : H dx = none) : Same H (upd (upd H dx (.own x)) x (.ins C dx [])) := same_made (C := C) hx hdx (Ex.refl _ _)
def spSureT (CT : Addr) : Sp := fun vs H Q _ => ∃ (L : Addr) (as : List Arc) (s : Nat) (t : List Nat) (cv : List V) (cs : List CE) (S : Addr → Prop), vs = [.ref L] ∧ H L = some (.lst cv) ∧ CvAt CT H S as t cv cs ∧ Cvr as s t cs ∧ cs ≠ [] ∧ cs.length ≤ 800 ∧ Fo CT H S ∧ Wd6 as ∧
  ∀ H' x r, Same H H' → Tr CT H' x r → LcpOf (CovR as s t) r → Q (.ref x) H'
section
variable {P : Program} {w : World} {K : PySem.W.Frag} {mg : Str → Option Value} {base : Heap}
theorem ok_sure_trail (T : Tx K mg) : FnOk P w K mg base CX0 3 T.f_sure_trail T.fd_sure_trail P_sure_trail (spSureT T.C_Trail) := by
  have G_shared : FnOk P w K mg base CX0 2 T.f_shared T.fd_shared P_shared (spShared T.C_Trail) := ok_shared T
  have G_Trail_init : FnOk P w K mg base CX0 1 T.f_Trail_init T.fd_Trail_init P_Trail_init (spTrail T.C_Trail) := ok_Trail_init T
  refine T.F_sure_trail.ok sc_sure_trail (fun vs H Q E h => ?_) (fun cdv A outer st0 H vs Q E hr h => ?_)
  · obtain ⟨L, as, s, t, cv, cs, S, rfl, _⟩ := h
    rfl
  · obtain ⟨L, as, s, t, cv, cs, S, rfl, hL, hcv, C, hne, hcl, F, hw, k⟩ := h
    refine ⟨_, (pss_cons (ps_asg (pe_ix (ix_listK (K := K) rfl) (pv 0) pe_int (fun _ _ => rfl)) (pg_tup rfl (pgs_cons (pg_name (i := 1) sc_sure_trail.nd rfl (Or.inl rfl)) (pgs_cons (pg_name (i := 2) sc_sure_trail.nd rfl (Or.inl rfl)) (pgs_cons (pg_name (i := 3) sc_sure_trail.nd rfl (Or.inl rfl)) (pgs_cons (pg_name (i := 4) sc_sure_trail.nd rfl (Or.inl rfl)) pgs_nil))))))
        (pss_cons (ps_if (PW.pt (pw_and (pt_cmpR op_eq (pe_callB (call_len_seqK (K := K) rfl) rfl T.n_len (by decide +kernel) (pa_cons (pv 0) pa_nil)) pe_int (nomark _)) (pw_and (pt_val (pv 2)) (pw_and1 (pt_cmpR op_eq (pe_callB (call_len_seqK (K := K) rfl) rfl T.n_len (by decide +kernel) (pa_cons (pv 3) pa_nil)) pe_int (nomark _)))))) (pss_one (ps_ret (pe_make T.M_Trail G_Trail_init (hr.mono (by decide)) rfl T.g_Trail T.b_Trail_init .nil pass0 (pa_cons (pv 1) (pa_cons (pe_ix (ix_tupK (K := K) rfl) (pe_ix (ix_listK (K := K) rfl) (pv 3) pe_int (fun _ _ => rfl)) pe_int (fun _ _ => rfl)) pa_nil))))) pss_nil)
        (pss_cons (ps_for PassesOwn.never rfl (pi_list (pv 0)) (pg_tup rfl (pgs_cons (pg_name (i := 5) sc_sure_trail.nd rfl (Or.inl rfl)) (pgs_cons (pg_name (i := 4) sc_sure_trail.nd rfl (Or.inl rfl)) (pgs_cons (pg_name (i := 4) sc_sure_trail.nd rfl (Or.inl rfl)) (pgs_cons (pg_name (i := 4) sc_sure_trail.nd rfl (Or.inl rfl)) pgs_nil))))) (pss_one (ps_set (i := 1) sc_sure_trail.nd rfl (Or.inl rfl) (pe_call G_shared (hr.mono (by decide)) rfl T.m_shared T.F_shared.kp T.b_shared .nil pass0 (pa_cons (pv 1) (pa_cons (pv 5) pa_nil))))))
        (pss_one (ps_ret (pv 1)))))), ?_⟩
    obtain ⟨c0, rest, rfl⟩ := List.exists_cons_of_ne_nil hne
    obtain ⟨tp0, la0, us0, a1, a2, a3, a4, a5, a6⟩ := hcv.2 0 c0 rfl
    have cvl : cv.length = rest.length + 1 := hcv.1
    have hc0 : c0 ∈ c0 :: rest := List.mem_cons_self ..
    refine ⟨_, rfl, L, _, _, _, rfl, rfl, SqL.of hL, atI_nat (j := 0) a1, ?_⟩
    refine ⟨tp0, _, rfl, SqT.of a2, rfl, _, _, rfl, _, _, rfl, _, _, rfl, _, _, rfl, rfl, ?_⟩
    have ul : us0.length = (bgs c0.g (t.drop c0.n) 0 as).length := a4.1
    have comb : ∀ {G P0 : Prop} {H0 : Hp} (Z : Hp → Prop), ((P0 → ∀ H', Same H0 H' → Z H') → G) → (P0 → ∀ H', Same H0 H' → Z H') → G := fun Z f g => f g
    refine' comb (P0 := ∃ l m, CovR as s t l ∧ CovR as s t m ∧ l ≠ m) (H0 := H) _ (fun hZ => ?_) ?_
    rotate_left
    · refine ⟨_, rfl, L, _, rfl, .inl (SqL.of hL), rfl, _, rfl, ?_⟩
      refine ite2 (fun c1 => ?_) fun c1 => iteF ?_
      · refine ⟨_, rfl, _, rfl, ?_⟩
        refine ite2 (fun c2 => ?_) fun c2 => iteF ?_
        · refine ⟨_, rfl, la0, _, rfl, .inl (SqL.of a3), rfl, _, rfl, ?_⟩
          refine ite2 (fun c3 => ?_) fun c3 => ?_
          · have e1 : cv.length = 1 := by have := of_decide_eq_true c1; injection this with this; omega
            have e3 : us0.length = 1 := by have := of_decide_eq_true c3; injection this with this; omega
            have er : rest = [] := List.eq_nil_of_length_eq_zero (by omega)
            subst er
            obtain ⟨e, he⟩ : ∃ e, bgs c0.g (t.drop c0.n) 0 as = [e] := by
              match hb : bgs c0.g (t.drop c0.n) 0 as with
              | [] =>
                rw [hb] at ul
                have u0 : us0.length = 0 := ul
                omega
              | [e] => exact ⟨e, rfl⟩
              | x1 :: x2 :: xr =>
                rw [hb] at ul
                have u0 : us0.length = xr.length + 1 + 1 := ul
                omega
            rw [he] at a4
            obtain ⟨et, b1, b2⟩ := a4.2 0 e rfl
            refine ⟨_, rfl, _, rfl, la0, _, _, _, rfl, rfl, SqL.of a3, atI_nat (j := 0) b1, et, _, _, _, rfl, rfl, SqT.of b2, rfl, ?_⟩
            refine fun x dx hx hdx nxd => .inr ⟨x, dx, c0.x, e.1, c0.q, rfl, upd_same, a6.same (same_new2 hx hdx), fun H' z ex hx' tz _ => ⟨rfl, ?_⟩⟩
            have sm : Same H H' := same_made hx hdx ex
            exact k H' x (c0.q ++ [e.1]) sm (.node hx' (a6.same sm) tz) (sure_one C c2 he)
          · exact hZ (two_rows C hc0 (.inr (.inr (by rw [← ul]; exact fun z => c3 (decide_eq_true (by rw [z]; rfl)))))) _ (Same.refl _)
        · exact hZ (two_rows C hc0 (.inr (.inl (by cases h : c0.al with | false => rfl | true => exact absurd h c2)))) _ (Same.refl _)
      · exact hZ (two_rows C hc0 (.inl (by show rest.length + 1 ≠ 1; exact fun z => c1 (decide_eq_true (by rw [cvl, z]; rfl))))) _ (Same.refl _)
    intro two H1 s1
    have F1 := F.same s1
    have hL1 := s1 _ _ hL
    refine ⟨_, rfl, L, rfl, ⟨_, SqL.of hL1⟩, ?_⟩
    refine for_list (K := K) (a := L) (xs := cv) (fun i σ H' => ∃ (x : Addr) (q : List Nat) (v2 v3 v4 v5 : Option V), σ = [some (.ref L), some (.ref x), v2, v3, v4, v5] ∧ H' = H1 ∧ S x ∧ Tr T.C_Trail H1 x q ∧ LcpOf (fun l => RowTo as s t c0.n c0.g l ∨ ∃ c ∈ (c0 :: rest).take i, RowTo as s t c.n c.g l) q) ?_ ?_ ?_ ?_
    · exact ⟨c0.x, c0.q, _, _, _, _, rfl, rfl, a5, a6.same s1, (C.ok c0 hc0).2.1.1.congr fun l => ⟨.inl, fun h => h.elim id fun ⟨c, hc, _⟩ => by simp at hc⟩⟩
    · rintro i σ H' _ ⟨_, _, _, _, _, _, _, rfl, _⟩
      exact SqL.of hL1
    · rintro i y σ H' hy ⟨x, q, v2, v3, v4, v5, rfl, rfl, Sx, Tx, hq⟩
      have hil : i < (c0 :: rest).length := by
        have := (List.getElem?_eq_some_iff.mp hy).1
        rw [← hcv.1]
        exact this
      obtain ⟨ci, hci⟩ : ∃ ci, (c0 :: rest)[i]? = some ci := ⟨_, List.getElem?_eq_getElem hil⟩
      obtain ⟨tp, la, us, b1, b2, b3, b4, b5, b6⟩ := hcv.2 i ci hci
      rw [hy] at b1
      cases b1
      have hcm := List.mem_of_getElem? hci
      refine ⟨tp, _, rfl, SqT.of (s1 _ _ b2), rfl, _, _, rfl, _, _, rfl, _, _, rfl, _, _, rfl, rfl, ?_⟩
      refine ⟨_, rfl, _, rfl, x, ci.x, q, ci.q, S, rfl, F1, Sx, b5, Tx, b6.same s1, fun z Sz Tz => ?_⟩
      refine ⟨z, lcp q ci.q, _, _, _, _, rfl, rfl, Sz, Tz, (hq.or (C.ok ci hcm).2.1.1).congr fun l => ?_⟩
      rw [List.take_add_one, hci]
      constructor
      · rintro ((h | ⟨c, hc, h⟩) | h)
        · exact .inl h
        · exact .inr ⟨c, List.mem_append_left _ hc, h⟩
        · exact .inr ⟨ci, List.mem_append_right _ (List.mem_singleton.mpr rfl), h⟩
      · rintro (h | ⟨c, hc, h⟩)
        · exact .inl (.inl h)
        · rcases List.mem_append.mp hc with hc | hc
          · exact .inl (.inr ⟨c, hc, h⟩)
          · rw [show c = ci from List.mem_singleton.mp hc] at h
            exact .inr h
    · rintro σ H' ⟨x, q, v2, v3, v4, v5, rfl, rfl, Sx, Tx, hq⟩
      rw [show cv.length = (c0 :: rest).length from hcv.1, List.take_length] at hq
      refine ⟨_, rfl, k H' x q s1 Tx (sure_many hw C (hq.congr fun l => ⟨fun h => ?_, fun h => .inr h⟩) two)⟩
      exact h.elim (fun z => ⟨c0, hc0, z⟩) id
end
end J


set_option Elab.async false
set_option linter.all false
set_option maxRecDepth 100000
set_option maxHeartbeats 4000000
namespace J
open PySem L2
/-! ### where rows end -/
def PD (as : List Arc) (s : Nat) (t : List Nat) (pr : List (CE × En)) (b : Nat) (l : List Nat) : Prop := ∃ p ∈ pr, p.2.2.1.length = (t.drop p.1.n).length ∧ p.2.2.2 = b ∧ Step6 as s t p.1.n p.1.g p.2.1 l
theorem pd_snoc {as : List Arc} {s : Nat} {t : List Nat} {pr : List (CE × En)} {p : CE × En} {b : Nat} {l : List Nat} : PD as s t (pr ++ [p]) b l ↔ PD as s t pr b l ∨ (p.2.2.1.length = (t.drop p.1.n).length ∧ p.2.2.2 = b ∧ Step6 as s t p.1.n p.1.g p.2.1 l) := by
  constructor
  · rintro ⟨x, hx, h⟩
    rcases List.mem_append.mp hx with hx | hx
    · exact .inl ⟨x, hx, h⟩
    · rw [List.mem_singleton.mp hx] at h
      exact .inr h
  · rintro (⟨x, hx, h⟩ | h)
    · exact ⟨x, List.mem_append_left _ hx, h⟩
    · exact ⟨p, List.mem_append_right _ (List.mem_singleton.mpr rfl), h⟩
def EnD (CT : Addr) (H : Hp) (S : Addr → Prop) (as : List Arc) (s : Nat) (t : List Nat) (pr : List (CE × En)) (c : CE) (v : V) : Prop := c.n = t.length ∧ c.g ≤ 63 ∧ S c.x ∧ Tr CT H c.x c.q ∧ LcpOf (PD as s t pr c.g) c.q ∧ (c.al = true → ∀ l, PD as s t pr c.g l → l = c.q) ∧ (c.al = false → ∃ l l', PD as s t pr c.g l ∧ PD as s t pr c.g l' ∧ l ≠ l') ∧ ∃ tp, v = .ref tp ∧ H tp = some (.tup [.ref c.x, .bl c.al])
theorem EnD.to {CT : Addr} {H H' : Hp} {S S' : Addr → Prop} {as : List Arc} {s : Nat} {t : List Nat} {pr pr' : List (CE × En)} {c : CE} {v : V} (h : EnD CT H S as s t pr c v) (k1 : ∀ y dx ah num m z, H y = some (.ins CT dx (trF ah num m z)) → H' y = some (.ins CT dx (trF ah num m z))) (k2 : ∀ b xs, H b = some (.tup xs) → H' b = some (.tup xs)) (k3 : ∀ x, S x → S' x) (k4 : ∀ l, PD as s t pr c.g l ↔ PD as s t pr' c.g l) : EnD CT H' S' as s t pr' c v := by
  obtain ⟨h1, h2, h3, h4, h5, h6, h7, tp, h8, h9⟩ := h
  refine ⟨h1, h2, k3 _ h3, h4.to k1, h5.congr k4, fun e l hl => h6 e l ((k4 l).mpr hl), fun e => ?_, tp, h8, k2 _ _ h9⟩
  obtain ⟨l, l', a1, a2, a3⟩ := h7 e
  exact ⟨l, l', (k4 l).mp a1, (k4 l').mp a2, a3⟩
structure Fnd (CT : Addr) (H : Hp) (S : Addr → Prop) (as : List Arc) (s : Nat) (t : List Nat) (pr : List (CE × En)) (kvs : List (Key × V)) (es : List CE) : Prop where
  len : kvs.length = es.length
  en : ∀ (j : Nat) c, es[j]? = some c → ∃ v, kvs[j]? = some (.inl (c.g : Int), v) ∧ EnD CT H S as s t pr c v
  nd : (es.map (·.g)).Nodup
  all : ∀ b l, PD as s t pr b l → ∃ c ∈ es, c.g = b
theorem nodup_sub6 {α : Type} [DecidableEq α] : ∀ (l m : List α), l.Nodup → (∀ x ∈ l, x ∈ m) → l.length ≤ m.length
  | [], m, _, _ => Nat.zero_le _
  | a :: r, m, hn, hs => by
    rw [List.nodup_cons] at hn
    have ha : a ∈ m := hs a (by simp)
    have ih := nodup_sub6 r (m.erase a) hn.2 fun x hx => (List.mem_erase_of_ne (fun z => hn.1 (by rw [← z]; exact hx))).mpr (hs x (List.mem_cons_of_mem _ hx))
    rw [List.length_erase_of_mem ha] at ih
    have : 0 < m.length := List.length_pos_of_mem ha
    rw [List.length_cons]
    omega
theorem Fnd.few {CT : Addr} {H : Hp} {S : Addr → Prop} {as : List Arc} {s : Nat} {t : List Nat} {pr : List (CE × En)} {kvs : List (Key × V)} {es : List CE} (h : Fnd CT H S as s t pr kvs es) : es.length ≤ 64 := by
  have := nodup_sub6 (es.map (·.g)) (List.range 64) h.nd fun g hg => by
    obtain ⟨c, hc, rfl⟩ := List.mem_map.mp hg
    obtain ⟨j, hj⟩ := List.getElem?_of_mem hc
    obtain ⟨v, _, e⟩ := h.en j c hj
    have := e.2.1
    exact List.mem_range.mpr (by omega)
  rwa [List.length_map, List.length_range] at this
theorem Fnd.to {CT : Addr} {H H' : Hp} {S S' : Addr → Prop} {as : List Arc} {s : Nat} {t : List Nat} {pr pr' : List (CE × En)} {kvs : List (Key × V)} {es : List CE} (h : Fnd CT H S as s t pr kvs es) (k1 : ∀ y dx ah num m z, H y = some (.ins CT dx (trF ah num m z)) → H' y = some (.ins CT dx (trF ah num m z))) (k2 : ∀ b xs, H b = some (.tup xs) → H' b = some (.tup xs)) (k3 : ∀ x, S x → S' x) (k4 : ∀ b l, PD as s t pr b l ↔ PD as s t pr' b l) : Fnd CT H' S' as s t pr' kvs es where
  len := h.len
  en := fun j c hc => (h.en j c hc).imp fun v e => ⟨e.1, e.2.to k1 k2 k3 (k4 c.g)⟩
  nd := h.nd
  all := fun b l hl => h.all b l ((k4 b l).mpr hl)
theorem fnd_none {CT : Addr} {H : Hp} {S : Addr → Prop} {as : List Arc} {s : Nat} {t : List Nat} {pr : List (CE × En)} {kvs : List (Key × V)} {es : List CE} (h : Fnd CT H S as s t pr kvs es) {b : Nat} (n : ∀ c ∈ es, c.g ≠ b) : valV kvs (Sum.inl (b : Int)) = none := by
  unfold valV
  rw [Option.map_eq_none_iff, List.find?_eq_none]
  intro kv hkv
  obtain ⟨j, hj⟩ := List.getElem?_of_mem hkv
  have hjl : j < es.length := by rw [← h.len]; exact (List.getElem?_eq_some_iff.mp hj).1
  obtain ⟨v, e1, _⟩ := h.en j _ (List.getElem?_eq_getElem hjl)
  rw [hj] at e1
  rw [Option.some.inj e1]
  have := n _ (List.getElem_mem hjl)
  simp only [decide_eq_true_eq]
  intro z
  injection z with z
  exact this (by omega)
theorem fnd_some {CT : Addr} {H : Hp} {S : Addr → Prop} {as : List Arc} {s : Nat} {t : List Nat} {pr : List (CE × En)} {kvs : List (Key × V)} {es : List CE} (h : Fnd CT H S as s t pr kvs es) {j : Nat} {c : CE} {v : V} (hj : es[j]? = some c) (hv : kvs[j]? = some (.inl (c.g : Int), v)) : valV kvs (Sum.inl (c.g : Int)) = some v := by
  unfold valV
  have hm : (Sum.inl (c.g : Int), v) ∈ kvs := List.mem_of_getElem? hv
  cases hf : kvs.find? (fun kv => decide (kv.1 = (Sum.inl (c.g : Int) : Key))) with
  | none =>
    have := (List.find?_eq_none.mp hf) _ hm
    simp at this
  | some kv =>
    have h1 := List.find?_some hf
    have h2 := List.mem_of_find?_eq_some hf
    obtain ⟨i, hi⟩ := List.getElem?_of_mem h2
    have hil : i < es.length := by rw [← h.len]; exact (List.getElem?_eq_some_iff.mp hi).1
    obtain ⟨v', e1, _⟩ := h.en i _ (List.getElem?_eq_getElem hil)
    rw [hi] at e1
    have e2 := Option.some.inj e1
    rw [e2] at h1
    have h1 := of_decide_eq_true h1
    injection h1 with h1
    have hjl := (List.getElem?_eq_some_iff.mp hj).1
    have hg : es[i].g = c.g := by omega
    have hij : i = j := by
      have n := List.pairwise_iff_getElem.mp (List.pairwise_map.mp h.nd)
      have hjc : es[j] = c := (List.getElem?_eq_some_iff.mp hj).2
      rcases Nat.lt_trichotomy i j with q | q | q
      · exact absurd (by rw [hg, hjc]) (n i j hil hjl q)
      · exact q
      · exact absurd (by rw [hg, hjc]) (n j i hjl hil q)
    subst hij
    rw [hi] at hv
    rw [Option.some.inj hv]
    rfl
/-- a new goal -/
theorem Fnd.new {CT : Addr} {H : Hp} {S : Addr → Prop} {as : List Arc} {s : Nat} {t : List Nat} {pr : List (CE × En)} {p : CE × En} {kvs : List (Key × V)} {es : List CE} {c : CE} {v : V} (h : Fnd CT H S as s t pr kvs es) (n : ∀ x ∈ es, x.g ≠ c.g) (hp : p.2.2.2 = c.g) (hv : EnD CT H S as s t (pr ++ [p]) c v) : Fnd CT H S as s t (pr ++ [p]) (putK kvs (Sum.inl (c.g : Int)) v) (es ++ [c]) := by
  have e : putK kvs (Sum.inl (c.g : Int)) v = kvs ++ [(Sum.inl (c.g : Int), v)] := by
    unfold putK
    rw [if_neg]
    intro z
    have := fnd_none h n
    obtain ⟨kv, h1, h2⟩ := List.any_eq_true.mp z
    unfold valV at this
    rw [Option.map_eq_none_iff, List.find?_eq_none] at this
    exact this kv h1 h2
  rw [e]
  have k4 : ∀ x ∈ es, ∀ l, PD as s t pr x.g l ↔ PD as s t (pr ++ [p]) x.g l := fun x hx l => by
    rw [pd_snoc]
    exact ⟨.inl, fun z => z.elim id fun ⟨_, z, _⟩ => absurd (hp.symm.trans z).symm (n x hx)⟩
  refine ⟨by rw [List.length_append, List.length_append, h.len]; rfl, fun j x hx => ?_, ?_, fun b l hl => ?_⟩
  · by_cases q : j < es.length
    · rw [List.getElem?_append_left q] at hx
      obtain ⟨v', e1, e2⟩ := h.en j x hx
      exact ⟨v', by rw [List.getElem?_append_left (by rw [h.len]; exact q)]; exact e1, e2.to (fun _ _ _ _ _ _ z => z) (fun _ _ z => z) (fun _ z => z) (k4 x (List.mem_of_getElem? hx))⟩
    · have hj : j = es.length := by
        have := (List.getElem?_eq_some_iff.mp hx).1
        rw [List.length_append, List.length_singleton] at this
        omega
      subst hj
      rw [List.getElem?_append_right (Nat.le_refl _)] at hx
      simp at hx
      subst hx
      exact ⟨v, by rw [List.getElem?_append_right (by rw [h.len]; exact Nat.le_refl _), h.len]; simp, hv⟩
  · rw [List.map_append]
    refine List.nodup_append.mpr ⟨h.nd, by simp, fun a ha b hb => ?_⟩
    obtain ⟨x, hx, rfl⟩ := List.mem_map.mp ha
    have hb : b = c.g := List.mem_singleton.mp hb
    rw [hb]
    exact n x hx
  · rcases pd_snoc.mp hl with z | ⟨_, z, _⟩
    · obtain ⟨x, hx, e⟩ := h.all b l z
      exact ⟨x, List.mem_append_left _ hx, e⟩
    · exact ⟨c, List.mem_append_right _ (List.mem_singleton.mpr rfl), by rw [← z, hp]⟩
/-- a goal that stands there -/
theorem Fnd.old {CT : Addr} {H : Hp} {S : Addr → Prop} {as : List Arc} {s : Nat} {t : List Nat} {pr : List (CE × En)} {p : CE × En} {kvs : List (Key × V)} {es : List CE} {c c' : CE} {v : V} {j : Nat} (h : Fnd CT H S as s t pr kvs es) (hj : es[j]? = some c') (hg : c'.g = c.g) (hp : p.2.2.2 = c.g) (hv : EnD CT H S as s t (pr ++ [p]) c v) : Fnd CT H S as s t (pr ++ [p]) (putK kvs (Sum.inl (c.g : Int)) v) (es.set j c) := by
  have hjl := (List.getElem?_eq_some_iff.mp hj).1
  obtain ⟨v0, k0, _⟩ := h.en j c' hj
  have e : putK kvs (Sum.inl (c.g : Int)) v = kvs.map fun kv => if kv.1 = (Sum.inl (c.g : Int) : Key) then (kv.1, v) else kv := by
    unfold putK
    rw [if_pos]
    exact List.any_eq_true.mpr ⟨_, List.mem_of_getElem? k0, by rw [hg]; simp⟩
  rw [e]
  have n := List.pairwise_iff_getElem.mp (List.pairwise_map.mp h.nd)
  have hjc : es[j] = c' := (List.getElem?_eq_some_iff.mp hj).2
  have eg : (es.set j c).map (·.g) = es.map (·.g) := by
    rw [List.map_set]
    refine List.ext_getElem? fun i => ?_
    rw [List.getElem?_set]
    by_cases q : j = i
    · subst q
      rw [if_pos rfl, if_pos (by rw [List.length_map]; exact hjl), List.getElem?_map, hj]
      show some c.g = some c'.g
      rw [hg]
    · rw [if_neg q]
  refine ⟨by rw [List.length_map, List.length_set]; exact h.len, fun i x hx => ?_, by rw [eg]; exact h.nd, fun b l hl => ?_⟩
  · rw [List.getElem?_set] at hx
    by_cases q : j = i
    · subst q
      rw [if_pos rfl, if_pos hjl] at hx
      rw [← Option.some.inj hx]
      refine ⟨v, ?_, hv⟩
      rw [List.getElem?_map, k0]
      show some (if (Sum.inl (c'.g : Int) : Key) = Sum.inl (c.g : Int) then ((Sum.inl (c'.g : Int) : Key), v) else _) = _
      rw [hg, if_pos rfl]
    · rw [if_neg q] at hx
      have hil := (List.getElem?_eq_some_iff.mp hx).1
      have hix : es[i] = x := (List.getElem?_eq_some_iff.mp hx).2
      obtain ⟨v', e1, e2⟩ := h.en i x hx
      have nx : x.g ≠ c.g := by
        rw [← hg, ← hix, ← hjc]
        rcases Nat.lt_trichotomy i j with z | z | z
        · exact n i j hil hjl z
        · exact absurd z.symm q
        · exact fun y => n j i hjl hil z y.symm
      refine ⟨v', ?_, e2.to (fun _ _ _ _ _ _ z => z) (fun _ _ z => z) (fun _ z => z) fun l => ?_⟩
      · rw [List.getElem?_map, e1]
        show some (if (Sum.inl (x.g : Int) : Key) = Sum.inl (c.g : Int) then _ else ((Sum.inl (x.g : Int) : Key), v')) = _
        rw [if_neg]
        intro z
        injection z with z
        exact nx (by omega)
      · rw [pd_snoc]
        exact ⟨.inl, fun z => z.elim id fun ⟨_, z, _⟩ => absurd (z.symm.trans hp) nx⟩
  · rcases pd_snoc.mp hl with z | ⟨_, z, _⟩
    · obtain ⟨x, hx, e⟩ := h.all b l z
      have : b ∈ (es.set j c).map (·.g) := by rw [eg]; exact List.mem_map.mpr ⟨x, hx, e⟩
      obtain ⟨y, hy, e2⟩ := List.mem_map.mp this
      exact ⟨y, hy, e2⟩
    · exact ⟨c, List.mem_of_getElem? (i := j) (by rw [List.getElem?_set, if_pos rfl, if_pos hjl]), by rw [← z, hp]⟩
end J


set_option Elab.async false
set_option linter.all false
set_option maxRecDepth 100000
set_option maxHeartbeats 4000000
namespace J
open PySem L2
def SB (CT : Addr) (H : Hp) (S : Addr → Prop) (as : List Arc) (t : List Nat) (pr : List (CE × En)) : Prop := ∀ x l, S x → Tr CT H x l → (txA as l).length < t.length ∨ ∃ p ∈ pr, p.1.al = true ∧ p.2.2.1.length = (t.drop p.1.n).length ∧ l = p.1.q ++ [p.2.1]
def prC (as : List Arc) (t : List Nat) (c : CE) : List (CE × En) := (bgs c.g (t.drop c.n) 0 as).map fun e => (c, e)
def prI (as : List Arc) (t : List Nat) (cs : List CE) (i : Nat) : List (CE × En) := (cs.take i).flatMap (prC as t)
theorem mem_prI {as : List Arc} {t : List Nat} {cs : List CE} {i : Nat} {p : CE × En} : p ∈ prI as t cs i ↔ p.1 ∈ cs.take i ∧ p.2 ∈ bgs p.1.g (t.drop p.1.n) 0 as := by
  unfold prI prC
  rw [List.mem_flatMap]
  constructor
  · rintro ⟨c, hc, h⟩
    obtain ⟨e, he, rfl⟩ := List.mem_map.mp h
    exact ⟨hc, he⟩
  · rintro ⟨h1, h2⟩
    exact ⟨p.1, h1, List.mem_map.mpr ⟨p.2, h2, rfl⟩⟩
theorem prI_succ {as : List Arc} {t : List Nat} {cs : List CE} {i : Nat} {c : CE} (h : cs[i]? = some c) : prI as t cs (i + 1) = prI as t cs i ++ prC as t c := by
  unfold prI
  rw [List.take_add_one, h, List.flatMap_append]
  simp
/-- what is under way is apart from what was -/
theorem apart6 {as : List Arc} {s : Nat} {t : List Nat} {cs : List CE} (C : Cvr as s t cs) {i j : Nat} {c : CE} {e : En} (hc : cs[i]? = some c) (he : (bgs c.g (t.drop c.n) 0 as)[j]? = some e) {p : CE × En} (hp : p ∈ prI as t cs i ++ ((bgs c.g (t.drop c.n) 0 as).take j).map fun e => (c, e)) : p.1 ∈ cs ∧ p.2 ∈ bgs p.1.g (t.drop p.1.n) 0 as ∧ ∀ q r, RowTo as s t p.1.n p.1.g q → RowTo as s t c.n c.g r → q ++ [p.2.1] ≠ r ++ [e.1] := by
  have hcm := List.mem_of_getElem? hc
  rcases List.mem_append.mp hp with h | h
  · obtain ⟨h1, h2⟩ := mem_prI.mp h
    have h1m := List.mem_of_mem_take h1
    refine ⟨h1m, h2, fun q r hq hr z => ?_⟩
    have e1 := (snoc_ne z).1
    subst e1
    have pl := rowTo_place hq hr (Nat.le_of_lt (C.ok _ h1m).1) (Nat.le_of_lt (C.ok _ hcm).1)
    obtain ⟨k, hk⟩ := List.getElem?_of_mem h1
    rw [List.getElem?_take] at hk
    split at hk
    · rename_i hki
      have hil := (List.getElem?_eq_some_iff.mp hc).1
      have hkl := (List.getElem?_eq_some_iff.mp hk).1
      have n := List.pairwise_iff_getElem.mp C.ne k i hkl hil hki
      rw [(List.getElem?_eq_some_iff.mp hk).2, (List.getElem?_eq_some_iff.mp hc).2] at n
      exact n pl
    · cases hk
  · obtain ⟨e', he', rfl⟩ := List.mem_map.mp h
    refine ⟨hcm, List.mem_of_mem_take he', fun q r hq hr z => ?_⟩
    have e1 := (snoc_ne z).2
    obtain ⟨k, hk⟩ := List.getElem?_of_mem he'
    rw [List.getElem?_take] at hk
    split at hk
    · rename_i hkj
      have hjl := (List.getElem?_eq_some_iff.mp he).1
      have hkl := (List.getElem?_eq_some_iff.mp hk).1
      have n := List.pairwise_iff_getElem.mp (bgs_nodup c.g (t.drop c.n) as 0) k j hkl hjl hkj
      rw [(List.getElem?_eq_some_iff.mp hk).2, (List.getElem?_eq_some_iff.mp he).2] at n
      exact absurd e1 (Nat.ne_of_lt n)
    · cases hk
def spEnds (CT : Addr) : Sp := fun vs H Q _ => ∃ (L : Addr) (as : List Arc) (s : Nat) (t : List Nat) (cv : List V) (cs : List CE) (S : Addr → Prop), vs = [.ref L] ∧ H L = some (.lst cv) ∧ CvAt CT H S as t cv cs ∧ Cvr as s t cs ∧ cs.length ≤ 800 ∧ Fo CT H S ∧ OkAll as ∧ as.length ≤ 200 ∧ t ≠ [] ∧ (∀ x l, S x → Tr CT H x l → (txA as l).length < t.length) ∧
  ∀ H' d S', Same H H' → H d = none → (∀ x, S x → S' x) → Fo CT H' S' → (∀ x l, S' x → Tr CT H' x l → (txA as l).length ≤ t.length) → Plc CT H' S' as s t t.length d → Q (.ref d) H'
section
variable {P : Program} {w : World} {K : PySem.W.Frag} {mg : Str → Option Value} {base : Heap}
theorem ok_ends (T : Tx K mg) : FnOk P w K mg base CX0 3 T.f_ends T.fd_ends P_ends (spEnds T.C_Trail) := by
  have G_shared : FnOk P w K mg base CX0 2 T.f_shared T.fd_shared P_shared (spShared T.C_Trail) := ok_shared T
  have G_Trail_init : FnOk P w K mg base CX0 1 T.f_Trail_init T.fd_Trail_init P_Trail_init (spTrail T.C_Trail) := ok_Trail_init T
  refine T.F_ends.ok sc_ends (fun vs H Q E h => ?_) (fun cdv A outer st0 H vs Q E hr h => ?_)
  · obtain ⟨L, as, s, t, cv, cs, S, rfl, _⟩ := h
    rfl
  · obtain ⟨L, as, s, t, cv, cs, S, rfl, hL, hcv, C, hcl, F, oka, hal, hte, hold, k⟩ := h
    refine ⟨_, (pss_cons (ps_set (i := 1) sc_ends.nd rfl (Or.inl rfl) pe_dnewK)
        (pss_cons (ps_for PassesOwn.never rfl (pi_list (pv 0)) (pg_tup rfl (pgs_cons (pg_name (i := 2) sc_ends.nd rfl (Or.inl rfl)) (pgs_cons (pg_name (i := 3) sc_ends.nd rfl (Or.inl rfl)) (pgs_cons (pg_name (i := 4) sc_ends.nd rfl (Or.inl rfl)) (pgs_cons (pg_name (i := 5) sc_ends.nd rfl (Or.inl rfl)) pgs_nil))))) (pss_one (ps_for PassesOwn.never rfl (pi_list (pv 4)) (pg_tup rfl (pgs_cons (pg_name (i := 6) sc_ends.nd rfl (Or.inl rfl)) (pgs_cons (pg_name (i := 7) sc_ends.nd rfl (Or.inl rfl)) (pgs_cons (pg_name (i := 8) sc_ends.nd rfl (Or.inl rfl)) pgs_nil)))) (pss_one (ps_if (pt_cmpR op_eq (pe_callB call_len_str rfl T.n_len (by decide +kernel) (pa_cons (pv 7) pa_nil)) (pv 5) (nomark _)) (pss_cons (ps_set (i := 9) sc_ends.nd rfl (Or.inl rfl) (pe_ifExp (pt_val (pv 3)) (pe_make T.M_Trail G_Trail_init (hr.mono (by decide)) rfl T.g_Trail T.b_Trail_init .nil pass0 (pa_cons (pv 2) (pa_cons (pv 6) pa_nil))) (pv 2)))
        (pss_one (ps_if (pt_cmp (pc_din (hu_of hr) (pv 8) (pv 1))) (pss_one (ps_dput (hu_of hr) (pv 1) (pv 8) (pe_tup (pa_cons (pe_call G_shared (hr.mono (by decide)) rfl T.m_shared T.F_shared.kp T.b_shared .nil pass0 (pa_cons (pe_ix (ix_tupK (K := K) rfl) (pe_dget (hu_of hr) (pv 1) (pv 8) (fun _ _ => rfl)) pe_int (fun _ _ => rfl)) (pa_cons (pv 9) pa_nil))) (pa_cons pe_bl pa_nil))) rfl)) (pss_one (ps_dput (hu_of hr) (pv 1) (pv 8) (pe_tup (pa_cons (pv 9) (pa_cons (pv 3) pa_nil))) rfl))))) pss_nil)))))
        (pss_one (ps_ret (pv 1))))), ?_⟩
    have hw := Wd6.of oka
    intro d hd
    have s1 : Same H (upd H d (.dK [])) := Same.new _ hd
    have g1 : upd H d (.dK []) d = some (.dK []) := upd_same
    generalize upd H d (.dK []) = H1 at *
    have hL1 := s1 _ _ hL
    have nLd : L ≠ d := hp_ne hL hd ∘ Eq.symm
    have ex1 : ∀ {H' : Hp}, Ex d H1 H' → Same H H' := fun {H'} x b o e => x _ _ (fun z => by rw [z, hd] at e; cases e) (s1 _ _ e)
    refine ⟨_, rfl, L, rfl, ⟨_, SqL.of hL1⟩, ?_⟩
    refine for_list (K := K) (a := L) (xs := cv) (fun i σ H' => ∃ (S' : Addr → Prop) (kvs : List (Key × V)) (es : List CE) (v2 v3 v4 v5 v6 v7 v8 v9 : Option V), σ = [some (.ref L), some (.ref d), v2, v3, v4, v5, v6, v7, v8, v9] ∧ H' d = some (.dK kvs) ∧ Ex d H1 H' ∧ (∀ x, S x → S' x) ∧ Fo T.C_Trail H' S' ∧ SB T.C_Trail H' S' as t (prI as t cs i) ∧ Fnd T.C_Trail H' S' as s t (prI as t cs i) kvs es) ?_ ?_ ?_ ?_
    · refine ⟨S, [], [], none, none, none, none, none, none, none, none, rfl, g1, Ex.refl _ _, fun x h => h, F.same s1, fun x l hx hl => ?_, rfl, fun j c h => by simp at h, List.nodup_nil, ?_⟩
      · obtain ⟨l', hl'⟩ := F.tr x hx
        rw [← (hl'.same s1).det hl]
        exact .inl (hold x l' hx hl')
      · rintro b l ⟨p, hp, _⟩
        simp [prI] at hp
    · rintro i σ H' _ ⟨_, _, _, _, _, _, _, _, _, _, _, _, _, x, _⟩
      exact SqL.of (x _ _ nLd hL1)
    · rintro i y σ H2 hy ⟨S', kvs, es, v2, v3, v4, v5, v6, v7, v8, v9, rfl, gd, x2, hSS, F2, B2, D2⟩
      have hil : i < cs.length := by
        have := (List.getElem?_eq_some_iff.mp hy).1
        rw [← hcv.1]
        exact this
      obtain ⟨ci, hci⟩ : ∃ ci, cs[i]? = some ci := ⟨_, List.getElem?_eq_getElem hil⟩
      obtain ⟨tp, la, us, b1, b2, b3, b4, b5, b6⟩ := hcv.2 i ci hci
      rw [hy] at b1
      cases b1
      have hcm := List.mem_of_getElem? hci
      have okc := C.ok ci hcm
      have S2 := ex1 x2
      have nlad : la ≠ d := hp_ne b3 hd ∘ Eq.symm
      refine ⟨tp, _, rfl, SqT.of (S2 _ _ b2), rfl, _, _, rfl, _, _, rfl, _, _, rfl, _, _, rfl, rfl, ?_⟩
      refine ⟨_, rfl, la, rfl, ⟨_, SqL.of (S2 _ _ b3)⟩, ?_⟩
      refine for_list (K := K) (a := la) (xs := us) (fun j σ H' => ∃ (S' : Addr → Prop) (kvs : List (Key × V)) (es : List CE) (v6 v7 v8 v9 : Option V), σ = [some (.ref L), some (.ref d), some (.ref ci.x), some (.bl ci.al), some (.ref la), some (.int ((t.drop ci.n).length : Nat)), v6, v7, v8, v9] ∧ H' d = some (.dK kvs) ∧ Ex d H1 H' ∧ (∀ x, S x → S' x) ∧ Fo T.C_Trail H' S' ∧ SB T.C_Trail H' S' as t (prI as t cs i ++ ((bgs ci.g (t.drop ci.n) 0 as).take j).map fun e => (ci, e)) ∧ Fnd T.C_Trail H' S' as s t (prI as t cs i ++ ((bgs ci.g (t.drop ci.n) 0 as).take j).map fun e => (ci, e)) kvs es) ?_ ?_ ?_ ?_
      · exact ⟨S', kvs, es, v6, v7, v8, v9, rfl, gd, x2, hSS, F2, by simpa using B2, by simpa using D2⟩
      · rintro j σ H' _ ⟨_, _, _, _, _, _, _, _, _, x, _⟩
        exact SqL.of ((ex1 x) _ _ b3)
      · rintro j y σ H3 hy3 ⟨S3, kvs, es, v6, v7, v8, v9, rfl, gd3, x3, hSS3, F3, B3, D3⟩
        have hjl : j < (bgs ci.g (t.drop ci.n) 0 as).length := by
          have := (List.getElem?_eq_some_iff.mp hy3).1
          rw [← b4.1]
          exact this
        obtain ⟨e, he⟩ : ∃ e, (bgs ci.g (t.drop ci.n) 0 as)[j]? = some e := ⟨_, List.getElem?_eq_getElem hjl⟩
        obtain ⟨et, c1, c2⟩ := b4.2 j e he
        rw [hy3] at c1
        cases c1
        have hem := List.mem_of_getElem? he
        obtain ⟨hat, hpre⟩ := bgs_at hem
        have oke := oka.2 _ (List.mem_of_getElem? hat)
        have S3s := ex1 x3
        have ap := fun (p : CE × En) => apart6 (p := p) C hci he
        have epr : prI as t cs i ++ ((bgs ci.g (t.drop ci.n) 0 as).take (j + 1)).map (fun e => (ci, e)) = (prI as t cs i ++ ((bgs ci.g (t.drop ci.n) 0 as).take j).map fun e => (ci, e)) ++ [(ci, e)] := by
          rw [List.take_add_one, he, List.map_append, List.append_assoc]
          rfl
        rw [epr]
        obtain ⟨pr, hpr⟩ : ∃ pr, (prI as t cs i ++ ((bgs ci.g (t.drop ci.n) 0 as).take j).map fun e => (ci, e)) = pr := ⟨_, rfl⟩
        rw [hpr] at B3 D3 ⊢
        have ap : ∀ p ∈ pr, p.1 ∈ cs ∧ p.2 ∈ bgs p.1.g (t.drop p.1.n) 0 as ∧ ∀ q r, RowTo as s t p.1.n p.1.g q → RowTo as s t ci.n ci.g r → q ++ [p.2.1] ≠ r ++ [e.1] := fun p hp => ap p (by rw [hpr]; exact hp)
        refine ⟨et, _, rfl, SqT.of (S3s _ _ c2), rfl, _, _, rfl, _, _, rfl, _, _, rfl, rfl, ?_⟩
        refine ⟨_, rfl, _, rfl, le_size (by rw [SX.S_len]; have h5 : e.2.1.length ≤ 12 := oke.2.2.1; omega), _, rfl, rfl, _, rfl, ?_⟩
        have edec : decide (V.int ((SX.S e.2.1).length : Int) = V.int ((t.drop ci.n).length : Nat)) = decide (e.2.1.length = (t.drop ci.n).length) := by
          rw [SX.S_len]
          exact decide_eq_decide.mpr ⟨fun h => by injection h with h; omega, fun h => by rw [h]⟩
        rw [edec]
        refine ite2 (fun cl => ?_) fun cl => ?_
        · have cl := of_decide_eq_true cl
          have comb : ∀ {G : Prop} {P0 : Addr → Hp → Prop} (Z : Addr → Hp → Prop), ((∀ y H', P0 y H' → Z y H') → G) → (∀ y H', P0 y H' → Z y H') → G := fun Z f g => f g
          refine' comb (P0 := fun y H' => ∃ S4, (∀ x, S x → S4 x) ∧ (∀ x, S3 x → S4 x) ∧ S4 y ∧ Fo T.C_Trail H' S4 ∧ Tr T.C_Trail H' y (if ci.al = true then ci.q ++ [e.1] else ci.q) ∧ Same H3 H' ∧ SB T.C_Trail H' S4 as t (pr ++ [(ci, e)])) _ (fun hZ => ?_) ?_
          rotate_left
          · refine ⟨_, rfl, _, rfl, ?_⟩
            refine ite2 (fun ca => ?_) fun ca => ?_
            · refine ⟨_, rfl, _, rfl, fun x dx hx hdx nxd => .inr ⟨x, dx, ci.x, e.1, ci.q, rfl, upd_same, (b6.same S3s).same (same_new2 hx hdx), fun H' z ex hx' tz zc => ⟨rfl, ?_⟩⟩⟩
              have sm : Same H3 H' := same_made hx hdx ex
              have ty' := (b6.same S3s).same sm
              have F4 := F3.same sm
              have Sy := hSS3 _ b5
              have hq := okc.2.1
              rw [ca] at hq
              have F5 : Fo T.C_Trail H' (fun u => S3 u ∨ u = x) := F4.put Sy ty' hx' (.inl (zc S3 (F3.same (same_new2 hx hdx)) Sy)) tz fun u hu htu => by
                obtain ⟨l0, hl0⟩ := F3.tr u hu
                have e0 := (hl0.same sm).det htu
                subst e0
                rcases B3 u _ hu hl0 with z | ⟨p, hp, pal, plen, pe⟩
                · rw [txA_appY, txA_oneY hat, List.length_append, hq.own.len (Nat.le_of_lt okc.1)] at z
                  have z2 : ci.n + e.2.1.length < t.length := z
                  rw [cl, List.length_drop] at z2
                  omega
                · obtain ⟨p1, p2, p3⟩ := ap p hp
                  have hqp := (C.ok p.1 p1).2.1
                  rw [pal] at hqp
                  exact p3 _ _ hqp.own hq.own pe.symm
              refine hZ x H' ⟨_, fun u h => .inl (hSS3 u h), fun u h => .inl h, .inr rfl, F5, by rw [if_pos ca]; exact .node hx' ty' tz, sm, fun u l hu hl => ?_⟩
              rcases hu with hu | rfl
              · obtain ⟨l0, hl0⟩ := F3.tr u hu
                have e0 := (hl0.same sm).det hl
                subst e0
                exact (B3 u _ hu hl0).imp id fun ⟨p, hp, r⟩ => ⟨p, List.mem_append_left _ hp, r⟩
              · exact .inr ⟨(ci, e), List.mem_append_right _ (List.mem_singleton.mpr rfl), ca, cl, hl.det (.node hx' ty' tz)⟩
            · refine ⟨_, rfl, ?_⟩
              exact hZ ci.x H3 ⟨S3, hSS3, fun u h => h, hSS3 _ b5, F3, by rw [if_neg ca]; exact b6.same S3s, Same.refl _, fun u l hu hl => (B3 u l hu hl).imp id fun ⟨p, hp, r⟩ => ⟨p, List.mem_append_left _ hp, r⟩⟩
          rintro y4 H4 ⟨S4, hSS4, hS34, Sy4, F4, T4, sm4, B4⟩
          have gd4 := sm4 _ _ gd3
          have x4 : Ex d H1 H4 := fun b o n eb => sm4 _ _ (x3 b o n eb)
          have D4 : Fnd T.C_Trail H4 S4 as s t pr kvs es := D3.to (fun _ _ _ _ _ _ h => sm4 _ _ h) (fun _ _ h => sm4 _ _ h) hS34 fun _ _ => Iff.rfl
          have few := D4.few
          have lenk := D4.len
          have hb63 : e.2.2 ≤ 63 := oke.2.2.2
          have stp := step_oneY (i := e.1) okc.2.1
          have slc := step_lcp hw okc.1 okc.2.1 hat
          obtain ⟨ql, hql⟩ : ∃ ql, (if ci.al = true then ci.q ++ [e.1] else ci.q) = ql := ⟨_, rfl⟩
          rw [hql] at T4 slc
          have fin : ∀ (tp : Addr) (o : HO) (kvs' : List (Key × V)) (es' : List CE), H4 tp = none → (∀ H6, (∀ b o, b ≠ d → H4 b = some o → H6 b = some o) → H6 tp = some o → Fnd T.C_Trail H6 S4 as s t (pr ++ [(ci, e)]) kvs' es') → upd (upd H4 tp o) d (.dK kvs') d = some (.dK kvs') ∧ Ex d H1 (upd (upd H4 tp o) d (.dK kvs')) ∧ (∀ x, S x → S4 x) ∧ Fo T.C_Trail (upd (upd H4 tp o) d (.dK kvs')) S4 ∧ SB T.C_Trail (upd (upd H4 tp o) d (.dK kvs')) S4 as t (pr ++ [(ci, e)]) ∧ Fnd T.C_Trail (upd (upd H4 tp o) d (.dK kvs')) S4 as s t (pr ++ [(ci, e)]) kvs' es' := fun tp o kvs' es' htp hF => by
            have s5 := Same.new o htp
            have g5 : upd H4 tp o tp = some o := upd_same
            have nt : tp ≠ d := fun z => by rw [z, gd4] at htp; cases htp
            have k6 : ∀ b u, b ≠ d → H4 b = some u → upd (upd H4 tp o) d (.dK kvs') b = some u := fun b u n hb => by rw [upd_ne n]; exact s5 _ _ hb
            have g6 : upd (upd H4 tp o) d (.dK kvs') tp = some o := by rw [upd_ne nt]; exact g5
            have gd6 : upd (upd H4 tp o) d (.dK kvs') d = some (.dK kvs') := upd_same
            generalize upd (upd H4 tp o) d (.dK kvs') = H6 at *
            have kt : ∀ y dx ah num m z, H4 y = some (.ins T.C_Trail dx (trF ah num m z)) → H6 y = some (.ins T.C_Trail dx (trF ah num m z)) := fun y dx ah num m z h => k6 _ _ (fun q => by rw [q, gd4] at h; cases h) h
            refine ⟨gd6, fun b u n hb => k6 b u n (x4 b u n hb), hSS4, F4.to kt, fun u l hu hl => ?_, hF H6 k6 g6⟩
            obtain ⟨l0, hl0⟩ := F4.tr u hu
            rw [← (hl0.to kt).det hl]
            exact B4 u l0 hu hl0
          by_cases hc : ∃ c ∈ es, c.g = e.2.2
          · obtain ⟨c', hc', hcg⟩ := hc
            obtain ⟨j', hj'⟩ := List.getElem?_of_mem hc'
            obtain ⟨v', e1, e2⟩ := D4.en j' c' hj'
            have ev := fnd_some D4 hj' e1
            obtain ⟨g1, g2, g3, g4, g5, g6, g7, tp', rfl, g9⟩ := e2
            have dg := DGet.k (k := .inl (e.2.2 : Int)) gd4
            rw [← hcg, ev, hcg] at dg
            refine ⟨_, rfl, _, rfl, d, _, rfl, dg, ?_⟩
            refine ⟨_, rfl, iteT ?_⟩
            refine ⟨_, rfl, _, rfl, d, _, rfl, dg, tp', _, _, _, rfl, rfl, SqT.of g9, rfl, _, rfl, c'.x, y4, c'.q, ql, S4, rfl, F4, g3, Sy4, g4, T4, fun z Sz Tz => ?_⟩
            refine ⟨le_size (by simp), fun tp htp => ⟨_, rfl, _, rfl, d, _, rfl, DPut.k (k := .inl (e.2.2 : Int)) (Same.new _ htp _ _ gd4) (lt_size (by omega)), ?_⟩⟩
            refine ⟨S4, _, es.set j' ⟨t.length, e.2.2, z, lcp c'.q ql, false⟩, _, _, _, _, rfl, fin tp _ _ _ htp fun H6 k6 g6' => ?_⟩
            have kt : ∀ y dx ah num m z, H4 y = some (.ins T.C_Trail dx (trF ah num m z)) → H6 y = some (.ins T.C_Trail dx (trF ah num m z)) := fun y dx ah num m z h => k6 _ _ (fun q => by rw [q, gd4] at h; cases h) h
            have ku : ∀ b xs, H4 b = some (.tup xs) → H6 b = some (.tup xs) := fun b xs h => k6 _ _ (fun q => by rw [q, gd4] at h; cases h) h
            have D6 : Fnd T.C_Trail H6 S4 as s t pr kvs es := D4.to kt ku (fun _ h => h) fun _ _ => Iff.rfl
            refine D6.old (c := ⟨t.length, e.2.2, z, lcp c'.q ql, false⟩) (p := (ci, e)) hj' hcg rfl ⟨rfl, hb63, Sz, Tz.to kt, ?_, fun h => Bool.noConfusion h, fun _ => ?_, tp, rfl, g6'⟩
            · refine (g5.or slc).congr fun l => ?_
              rw [pd_snoc, hcg]
              exact ⟨fun h => h.imp id fun h => ⟨cl, rfl, h⟩, fun h => h.imp id fun h => h.2.2⟩
            · obtain ⟨l1, hl1⟩ := g5.1
              obtain ⟨l2, hl2⟩ := slc.1
              rw [hcg] at hl1
              refine ⟨l1, l2, pd_snoc.mpr (.inl hl1), pd_snoc.mpr (.inr ⟨cl, rfl, hl2⟩), ?_⟩
              obtain ⟨p, hp, _, _, q1, r1, rfl⟩ := hl1
              obtain ⟨q2, r2, rfl⟩ := hl2
              exact (ap p hp).2.2 q1 q2 r1 r2
          · have nc : ∀ c ∈ es, c.g ≠ e.2.2 := fun c h1 h2 => hc ⟨c, h1, h2⟩
            have dg := DGet.k (k := .inl (e.2.2 : Int)) gd4
            rw [fnd_none D4 nc] at dg
            refine ⟨_, rfl, _, rfl, d, _, rfl, dg, ?_⟩
            refine ⟨_, rfl, iteF ?_⟩
            refine ⟨_, rfl, _, rfl, le_size (by simp), fun tp htp => ⟨_, rfl, _, rfl, d, _, rfl, DPut.k (k := .inl (e.2.2 : Int)) (Same.new _ htp _ _ gd4) (lt_size (by omega)), ?_⟩⟩
            refine ⟨S4, _, es ++ [⟨t.length, e.2.2, y4, ql, ci.al⟩], _, _, _, _, rfl, fin tp _ _ _ htp fun H6 k6 g6' => ?_⟩
            have kt : ∀ y dx ah num m z, H4 y = some (.ins T.C_Trail dx (trF ah num m z)) → H6 y = some (.ins T.C_Trail dx (trF ah num m z)) := fun y dx ah num m z h => k6 _ _ (fun q => by rw [q, gd4] at h; cases h) h
            have ku : ∀ b xs, H4 b = some (.tup xs) → H6 b = some (.tup xs) := fun b xs h => k6 _ _ (fun q => by rw [q, gd4] at h; cases h) h
            have D6 : Fnd T.C_Trail H6 S4 as s t pr kvs es := D4.to kt ku (fun _ h => h) fun _ _ => Iff.rfl
            have iff : ∀ l, Step6 as s t ci.n ci.g e.1 l ↔ PD as s t (pr ++ [(ci, e)]) e.2.2 l := fun l => by
              rw [pd_snoc]
              refine ⟨fun h => .inr ⟨cl, rfl, h⟩, fun h => h.elim (fun h => ?_) fun h => h.2.2⟩
              obtain ⟨c, h1, h2⟩ := D4.all _ _ h
              exact absurd h2 (nc c h1)
            refine D6.new (c := ⟨t.length, e.2.2, y4, ql, ci.al⟩) (p := (ci, e)) nc rfl ⟨rfl, hb63, Sy4, T4.to kt, slc.congr iff, fun h l hl => ?_, fun h => ?_, tp, rfl, g6'⟩
            · have h : ci.al = true := h
              rw [if_pos h] at hql
              exact (stp.1 h l ((iff l).mpr hl)).trans hql
            · obtain ⟨l, l', h1, h2, n⟩ := stp.2 h
              exact ⟨l, l', (iff l).mp h1, (iff l').mp h2, n⟩
        · have cl : ¬ e.2.1.length = (t.drop ci.n).length := fun z => cl (decide_eq_true z)
          refine ⟨S3, kvs, es, _, _, _, v9, rfl, gd3, x3, hSS3, F3, fun u l hu hl => (B3 u l hu hl).imp id fun ⟨p, hp, r⟩ => ⟨p, List.mem_append_left _ hp, r⟩, D3.to (fun _ _ _ _ _ _ h => h) (fun _ _ h => h) (fun _ h => h) fun b l => ?_⟩
          rw [pd_snoc]
          exact ⟨.inl, fun h => h.elim id fun h => absurd h.1 cl⟩
      · rintro σ H' ⟨S3, kvs, es, v6, v7, v8, v9, rfl, gd3, x3, hSS3, F3, B3, D3⟩
        have ee : prI as t cs i ++ ((bgs ci.g (t.drop ci.n) 0 as).take us.length).map (fun e => (ci, e)) = prI as t cs (i + 1) := by
          rw [b4.1, List.take_length, prI_succ hci]
          rfl
        rw [ee] at B3 D3
        exact ⟨S3, kvs, es, _, _, _, _, _, _, _, _, rfl, gd3, x3, hSS3, F3, B3, D3⟩
    · rintro σ H' ⟨S', kvs, es, v2, v3, v4, v5, v6, v7, v8, v9, rfl, gd, x2, hSS, F2, B2, D2⟩
      have ee : prI as t cs cv.length = prI as t cs cs.length := by rw [hcv.1]
      rw [ee] at B2 D2
      have sH := ex1 x2
      refine ⟨_, rfl, k H' d S' sH hd hSS F2 (fun x l hx hl => ?_) ⟨kvs, es, gd, D2.len, D2.few, fun j c hc => ?_, List.pairwise_map.mp D2.nd, fun g l hl => ?_⟩⟩
      · rcases B2 x l hx hl with z | ⟨p, hp, h1, h2, h3⟩
        · exact Nat.le_of_lt z
        · obtain ⟨m1, m2⟩ := mem_prI.mp hp
          have m1 := List.mem_of_mem_take m1
          have okc := C.ok _ m1
          have hq := okc.2.1
          rw [h1] at hq
          rw [h3, txA_appY, txA_oneY (bgs_at m2).1, List.length_append, hq.own.len (Nat.le_of_lt okc.1)]
          have h2' : p.2.2.1.length = t.length - p.1.n := by rw [h2, List.length_drop]
          have := okc.1
          show p.1.n + p.2.2.1.length ≤ t.length
          omega
      · have iff : ∀ b l, PD as s t (prI as t cs cs.length) b l ↔ RowTo as s t t.length b l := fun b l => by
          rw [end_iff hw C hte]
          constructor
          · rintro ⟨p, hp, h1, h2, h3⟩
            obtain ⟨m1, m2⟩ := mem_prI.mp hp
            exact ⟨p.1, List.mem_of_mem_take m1, p.2, m2, h1, h2, h3⟩
          · rintro ⟨c, hc, e, he, h1, h2, h3⟩
            exact ⟨(c, e), mem_prI.mpr ⟨by rw [List.take_length]; exact hc, he⟩, h1, h2, h3⟩
        obtain ⟨v, e1, h1, h2, h3, h4, h5, h6, h7, tp, h8, h9⟩ := D2.en j c hc
        refine ⟨v, e1, h1, h2, h3, h4, ⟨h5.congr (iff _), fun e l hl => h6 e l ((iff _ l).mpr hl), fun e => ?_⟩, tp, h8, h9⟩
        obtain ⟨l, l', a1, a2, a3⟩ := h7 e
        exact ⟨l, l', (iff _ l).mp a1, (iff _ l').mp a2, a3⟩
      · rw [end_iff hw C hte] at hl
        obtain ⟨c, hc, e, he, h1, h2, h3⟩ := hl
        exact D2.all g l ⟨(c, e), mem_prI.mpr ⟨by rw [List.take_length]; exact hc, he⟩, h1, h2, h3⟩
end
end J


set_option Elab.async false
set_option linter.all false
set_option maxRecDepth 100000
set_option maxHeartbeats 4000000
namespace J
open PySem L2
/-! ### a reader is made -/
theorem exu {x : Addr} {H H' : Hp} {o : HO} (e : Ex x H H') : Ex x H (upd H' x o) := e.trans (Ex.upd _)
theorem LoomAt.exN {C CR : Addr} {H H' : Hp} {x dx q : Addr} {sg : List Nat} {us : List V} {as : List Arc} (h : LoomAt C H q sg us as) (hx : H x = some (.ins CR dx [])) (e : Ex x H H') : LoomAt C H' q sg us as := by
  obtain ⟨dq, Tp, h1, h2, h3, h4, h5⟩ := h
  refine ⟨dq, Tp, e _ _ (fun z => ?_) h1, e _ _ (fun z => by rw [z, hx] at h2; cases h2) h2, ⟨h3.1, fun i a ha => ?_⟩, h4, h5⟩
  · rw [z, hx] at h1
    have := Option.some.inj h1
    unfold lf at this
    injection this with _ _ e3
    cases e3
  · obtain ⟨t, t1, t2⟩ := h3.2 i a ha
    exact ⟨t, t1, e _ _ (fun z => by rw [z, hx] at t2; cases t2) t2⟩
theorem Fo.one {C : Addr} {H : Hp} {x dx : Addr} (hx : H x = some (.ins C dx (trF .non .non 0 x))) : Fo C H (fun u => u = x) where
  tr := fun u hu => ⟨[], by rw [hu]; exact .root hx⟩
  jump := fun u dx' ah num m z hu e => by
    rw [hu, hx] at e
    injection e with e
    injection e with _ _ e
    exact (trF_inj e).2.2.2.symm
  ahead := fun u dx' y num m z hu e => by
    rw [hu, hx] at e
    injection e with e
    injection e with _ _ e
    exact V.noConfusion (trF_inj e).1
  un := fun u v l hu hv _ _ => by rw [hu, hv]
theorem rowTo_zero {as : List Arc} {s g : Nat} {l : List Nat} (hw : Wd6 as) : RowTo as s [] 0 g l ↔ l = [] ∧ g = s := by
  constructor
  · rintro ⟨h1, h2, h3⟩
    rcases List.eq_nil_or_concat l with rfl | ⟨q, i, rfl⟩
    · exact ⟨rfl, h3.symm⟩
    · rw [List.concat_eq_append] at *
      obtain ⟨_, a, ha, _⟩ := rw_snocY.mp h1
      have := hw a (List.mem_of_getElem? ha)
      have h2 : txA as (q ++ [i]) = [] := h2
      have h2 := congrArg List.length h2
      rw [txA_appY, txA_oneY ha, List.length_append] at h2
      have h2 : (txA as q).length + a.2.1.length = 0 := h2
      omega
  · rintro ⟨rfl, rfl⟩
    exact ⟨.nil _, rfl, rfl⟩
def spReader (C CT CR : Addr) : Sp := fun vs H Q _ => ∃ (x dx q : Addr) (sg : List Nat) (us : List V) (as : List Arc) (g : Nat), vs = [.ref x, .ref q, .int (g : Int)] ∧ H x = some (.ins CR dx []) ∧ LoomAt C H q sg us as ∧ g ≤ 63 ∧
  ∀ H' d tl pl ds S, Ex x H H' → H tl = none → H pl = none → RdS C CT CR as g H' x q d tl pl sg us [] [] ds S → Q .non H'
section
variable {P : Program} {w : World} {K : PySem.W.Frag} {mg : Str → Option Value} {base : Heap}
theorem ok_Reader_init (T : Tx K mg) : FnOk P w K mg base CX0 5 T.f_Reader_init T.fd_Reader_init P_Reader_init (spReader T.C_Loom T.C_Trail T.C_Reader) := by
  have G_check_state : FnOk P w K mg base CX0 2 T.f_check_state T.fd_check_state P_check_state spState1 := ok_check_state T
  have G_arcs_by_beginnings : FnOk P w K mg base CX0 1 T.f_arcs_by_beginnings T.fd_arcs_by_beginnings P_arcs_by_beginnings (spTab T.C_Loom) := ok_arcs_by_beginnings T
  have G_Trail_init : FnOk P w K mg base CX0 1 T.f_Trail_init T.fd_Trail_init P_Trail_init (spTrail T.C_Trail) := ok_Trail_init T
  refine T.F_Reader_init.ok sc_Reader_init (fun vs H Q E h => ?_) (fun cdv A outer st0 H vs Q E hr h => ?_)
  · obtain ⟨x, dx, q, sg, us, as, g, rfl, _⟩ := h
    rfl
  · obtain ⟨x, dx, q, sg, us, as, g, rfl, hx, hL, hg, k⟩ := h
    refine ⟨_, (pss_cons (ps_expr (pe_call G_check_state (hr.mono (by decide)) rfl T.m_check_state T.F_check_state.kp T.b_check_state .nil pass0 (pa_cons (pv 2) pa_nil)))
        (pss_cons (ps_fld (pv 0) (pv 1) rfl)
        (pss_cons (ps_fld (pv 0) (pv 2) rfl)
        (pss_cons (ps_fld (pv 0) (pe_call G_arcs_by_beginnings (hr.mono (by decide)) rfl T.m_arcs_by_beginnings T.F_arcs_by_beginnings.kp T.b_arcs_by_beginnings .nil pass0 (pa_cons (pv 1) pa_nil)) rfl)
        (pss_cons (ps_fld (pv 0) pe_str rfl)
        (pss_cons (ps_fld (pv 0) (pe_lst pa_nil) rfl)
        (pss_one (ps_fld (pv 0) (pe_lst (pa_cons (pe_disp (pps_cons (pv 2) (pe_tup (pa_cons (pe_make T.M_Trail G_Trail_init (hr.mono (by decide)) rfl T.g_Trail T.b_Trail_init .nil pass0 (pa_cons pe_non (pa_cons pe_non pa_nil))) (pa_cons pe_bl pa_nil))) pps_nil) rfl rfl (by simp) (by decide)) pa_nil)) rfl)))))))), ?_⟩
    refine ⟨_, rfl, _, rfl, by omega, by omega, ?_⟩
    refine ⟨_, rfl, _, rfl, x, _, dx, _, rfl, hx, T.cl_Reader, T.na_Reader__loom, (by show 0 < 1000; decide), ?_⟩
    have x1 : Ex x H (upd H x (.ins T.C_Reader dx (putF "_loom" (.ref q) []))) := Ex.upd _
    have g1 : upd H x (.ins T.C_Reader dx (putF "_loom" (.ref q) [])) x = some (.ins T.C_Reader dx (putF "_loom" (.ref q) [])) := upd_same
    generalize upd H x (.ins T.C_Reader dx (putF "_loom" (.ref q) [])) = H1 at *
    refine ⟨_, rfl, _, rfl, x, _, dx, _, rfl, g1, T.cl_Reader, T.na_Reader__state, (by show 1 < 1000; decide), ?_⟩
    have x2 := exu (o := .ins T.C_Reader dx (putF "_state" (.int (g : Int)) (putF "_loom" (.ref q) []))) x1
    have g2 : upd H1 x (.ins T.C_Reader dx (putF "_state" (.int (g : Int)) (putF "_loom" (.ref q) []))) x = some (.ins T.C_Reader dx (putF "_state" (.int (g : Int)) (putF "_loom" (.ref q) []))) := upd_same
    generalize upd H1 x (.ins T.C_Reader dx (putF "_state" (.int (g : Int)) (putF "_loom" (.ref q) []))) = H2 at *
    refine ⟨_, rfl, q, sg, us, as, rfl, hL.exN hx x2, fun H3 d s3 htab => ?_⟩
    replace x2 := x2.trans (Same.ex (p := x) s3)
    replace g2 := s3 _ _ g2
    refine ⟨_, rfl, x, _, dx, _, rfl, g2, T.cl_Reader, T.na_Reader__arcs, (by show 2 < 1000; decide), ?_⟩
    have x3 := exu (o := .ins T.C_Reader dx (putF "_arcs" (.ref d) (putF "_state" (.int (g : Int)) (putF "_loom" (.ref q) [])))) x2
    have y3 : Ex x H3 (upd H3 x (.ins T.C_Reader dx (putF "_arcs" (.ref d) (putF "_state" (.int (g : Int)) (putF "_loom" (.ref q) []))))) := Ex.upd _
    have g3 : upd H3 x (.ins T.C_Reader dx (putF "_arcs" (.ref d) (putF "_state" (.int (g : Int)) (putF "_loom" (.ref q) [])))) x = some (.ins T.C_Reader dx (putF "_arcs" (.ref d) (putF "_state" (.int (g : Int)) (putF "_loom" (.ref q) [])))) := upd_same
    generalize upd H3 x (.ins T.C_Reader dx (putF "_arcs" (.ref d) (putF "_state" (.int (g : Int)) (putF "_loom" (.ref q) [])))) = H4 at *
    refine ⟨_, rfl, x, _, dx, _, rfl, g3, T.cl_Reader, T.na_Reader__text, (by show 3 < 1000; decide), ?_⟩
    have x4 := exu (o := .ins T.C_Reader dx (putF "_text" (.str (SX.S [])) (putF "_arcs" (.ref d) (putF "_state" (.int (g : Int)) (putF "_loom" (.ref q) []))))) x3
    have y4 := exu (o := .ins T.C_Reader dx (putF "_text" (.str (SX.S [])) (putF "_arcs" (.ref d) (putF "_state" (.int (g : Int)) (putF "_loom" (.ref q) []))))) y3
    have g4 : upd H4 x (.ins T.C_Reader dx (putF "_text" (.str (SX.S [])) (putF "_arcs" (.ref d) (putF "_state" (.int (g : Int)) (putF "_loom" (.ref q) []))))) x = some (.ins T.C_Reader dx (putF "_text" (.str (SX.S [])) (putF "_arcs" (.ref d) (putF "_state" (.int (g : Int)) (putF "_loom" (.ref q) []))))) := upd_same
    show tSeq _ _ _ _ (upd H4 x (.ins T.C_Reader dx (putF "_text" (.str (SX.S [])) (putF "_arcs" (.ref d) (putF "_state" (.int (g : Int)) (putF "_loom" (.ref q) []))))))
    generalize upd H4 x (.ins T.C_Reader dx (putF "_text" (.str (SX.S [])) (putF "_arcs" (.ref d) (putF "_state" (.int (g : Int)) (putF "_loom" (.ref q) []))))) = H5 at *
    refine ⟨Nat.zero_le _, fun tl htl => ?_⟩
    have htl0 : H tl = none := x4.free htl (hp_ne g4 htl)
    have htl3 : H3 tl = none := y4.free htl (hp_ne g4 htl)
    have x5 := x4.trans (Ex.new (.lst []) htl)
    have y5 := y4.trans (Ex.new (.lst []) htl)
    have g5 := Same.new (.lst []) htl _ _ g4
    have gt5 : upd H5 tl (.lst []) tl = some (.lst []) := upd_same
    generalize upd H5 tl (.lst []) = H6 at *
    refine ⟨_, rfl, x, _, dx, _, rfl, g5, T.cl_Reader, T.na_Reader__told, (by show 4 < 1000; decide), ?_⟩
    have x6 := exu (o := .ins T.C_Reader dx (putF "_told" (.ref tl) (putF "_text" (.str (SX.S [])) (putF "_arcs" (.ref d) (putF "_state" (.int (g : Int)) (putF "_loom" (.ref q) [])))))) x5
    have y6 := exu (o := .ins T.C_Reader dx (putF "_told" (.ref tl) (putF "_text" (.str (SX.S [])) (putF "_arcs" (.ref d) (putF "_state" (.int (g : Int)) (putF "_loom" (.ref q) [])))))) y5
    have g6 : upd H6 x (.ins T.C_Reader dx (putF "_told" (.ref tl) (putF "_text" (.str (SX.S [])) (putF "_arcs" (.ref d) (putF "_state" (.int (g : Int)) (putF "_loom" (.ref q) [])))))) x = some (.ins T.C_Reader dx (putF "_told" (.ref tl) (putF "_text" (.str (SX.S [])) (putF "_arcs" (.ref d) (putF "_state" (.int (g : Int)) (putF "_loom" (.ref q) [])))))) := upd_same
    have nxt : tl ≠ x := (hp_ne g4 htl)
    have gt6 : upd H6 x (.ins T.C_Reader dx (putF "_told" (.ref tl) (putF "_text" (.str (SX.S [])) (putF "_arcs" (.ref d) (putF "_state" (.int (g : Int)) (putF "_loom" (.ref q) [])))))) tl = some (.lst []) := by rw [upd_ne nxt]; exact gt5
    generalize upd H6 x (.ins T.C_Reader dx (putF "_told" (.ref tl) (putF "_text" (.str (SX.S [])) (putF "_arcs" (.ref d) (putF "_state" (.int (g : Int)) (putF "_loom" (.ref q) [])))))) = H7 at *
    intro pd hpd
    have npx : pd ≠ x := hp_ne g6 hpd
    have npt : pd ≠ tl := hp_ne gt6 hpd
    have hpd0 : H pd = none := x6.free hpd npx
    have hpd3 : H3 pd = none := y6.free hpd npx
    have s8 := Same.new (.dK []) hpd
    have gp8 : upd H7 pd (.dK []) pd = some (.dK []) := upd_same
    have x8 := x6.trans (Same.ex (p := x) s8)
    have y8 := y6.trans (Same.ex (p := x) s8)
    have g8 := s8 _ _ g6
    have gt8 := s8 _ _ gt6
    generalize upd H7 pd (.dK []) = H8 at *
    refine ⟨_, rfl, fun tx td htx htd ntd => .inl ⟨tx, td, rfl, upd_same, fun H9 ex9 gx9 => ⟨rfl, ?_⟩⟩⟩
    have s9 : Same H8 H9 := same_made htx htd ex9
    have nxtx : tx ≠ x := hp_ne g8 htx
    have x9 := x8.trans (Same.ex (p := x) s9)
    have y9 := y8.trans (Same.ex (p := x) s9)
    have g9 := s9 _ _ g8
    have gt9 := s9 _ _ gt8
    have gp9 := s9 _ _ gp8
    refine ⟨le_size (by simp), fun tp htp => ?_⟩
    have s10 := Same.new (.tup [V.ref tx, V.bl true]) htp
    have gu10 : upd H9 tp (.tup [V.ref tx, V.bl true]) tp = some (.tup [V.ref tx, V.bl true]) := upd_same
    have x10 := x9.trans (Same.ex (p := x) s10)
    have y10 := y9.trans (Same.ex (p := x) s10)
    have g10 := s10 _ _ g9
    have gt10 := s10 _ _ gt9
    have gp10 := s10 _ _ gp9
    have gx10 := s10 _ _ gx9
    generalize upd H9 tp (.tup [V.ref tx, V.bl true]) = H10 at *
    refine ⟨gp10, [(.inl (g : Int), .ref tp)], rfl, (by show 1 ≤ 15; decide), ?_⟩
    have em : (mergeK [] [((.inl (g : Int) : Key), V.ref tp)]) = [(.inl (g : Int), .ref tp)] := rfl
    rw [em]
    have nb : ∀ b o, b ≠ pd → H10 b = some o → upd H10 pd (.dK [(.inl (g : Int), .ref tp)]) b = some o := fun b o n h => by rw [upd_ne n]; exact h
    have x11 : Ex x H (upd H10 pd (.dK [(.inl (g : Int), .ref tp)])) := fun b o n h => nb b o (fun z => by rw [z, hpd0] at h; cases h) (x10 b o n h)
    have y11 : Ex x H3 (upd H10 pd (.dK [(.inl (g : Int), .ref tp)])) := fun b o n h => nb b o (fun z => by rw [z, hpd3] at h; cases h) (y10 b o n h)
    have gp11 : upd H10 pd (.dK [(.inl (g : Int), .ref tp)]) pd = some (.dK [(.inl (g : Int), .ref tp)]) := upd_same
    have g11 := nb _ _ npx.symm g10
    have gt11 := nb _ _ npt.symm gt10
    have gu11 := nb _ _ (fun z => by rw [z, gp10] at gu10; cases gu10) gu10
    have gx11 := nb _ _ (fun z => by rw [z, gp10] at gx10; cases gx10) gx10
    generalize upd H10 pd (.dK [(.inl (g : Int), .ref tp)]) = H11 at *
    refine ⟨le_size (by simp), fun pl hpl => ?_⟩
    have npl : pl ≠ x := hp_ne g11 hpl
    have nplt : pl ≠ tl := hp_ne gt11 hpl
    have hpl0 : H pl = none := x11.free hpl npl
    have s12 := Same.new (.lst [V.ref pd]) hpl
    have gl12 : upd H11 pl (.lst [V.ref pd]) pl = some (.lst [V.ref pd]) := upd_same
    have x12 := x11.trans (Same.ex (p := x) s12)
    have y12 := y11.trans (Same.ex (p := x) s12)
    have g12 := s12 _ _ g11
    have gt12 := s12 _ _ gt11
    have gp12 := s12 _ _ gp11
    have gu12 := s12 _ _ gu11
    have gx12 := s12 _ _ gx11
    generalize upd H11 pl (.lst [V.ref pd]) = H12 at *
    refine ⟨_, rfl, x, _, dx, _, rfl, g12, T.cl_Reader, T.na_Reader__places, (by show 5 < 1000; decide), ?_⟩
    have x13 := exu (o := .ins T.C_Reader dx (rdF q g d [] tl pl)) x12
    have y13 := exu (o := .ins T.C_Reader dx (rdF q g d [] tl pl)) y12
    have g13 : upd H12 x (.ins T.C_Reader dx (rdF q g d [] tl pl)) x = some (.ins T.C_Reader dx (rdF q g d [] tl pl)) := upd_same
    have m13 : ∀ b o, b ≠ x → H12 b = some o → upd H12 x (.ins T.C_Reader dx (rdF q g d [] tl pl)) b = some o := fun b o n h => by rw [upd_ne n]; exact h
    show Q .non (upd H12 x (.ins T.C_Reader dx (rdF q g d [] tl pl)))
    have gt13 := m13 _ _ nxt gt12
    have gl13 := m13 _ _ npl gl12
    have gp13 := m13 _ _ npx gp12
    have gu13 := m13 _ _ (fun z => by rw [z, g12] at gu12; cases gu12) gu12
    have gx13 := m13 _ _ nxtx gx12
    generalize upd H12 x (.ins T.C_Reader dx (rdF q g d [] tl pl)) = H13 at *
    have hL13 := hL.exN hx x13
    obtain ⟨_, _, _, _, _, ok, sgn⟩ := hL
    have hw : Wd6 as := Wd6.of ok.all
    refine k H13 d tl pl [pd] (fun u => u = tx) x13 htl0 hpl0 ⟨⟨dx, g13⟩, ?_, ?_, gt13, gl13, nplt, rfl, ?_, Fo.one gx13, ?_, .inl ⟨rfl, rfl⟩, hg, fun c hc => by cases hc⟩
    · exact hL13
    · obtain ⟨kvs, at_, h0, h1, h2, h3, h4, h5⟩ := htab
      refine ⟨kvs, at_, y13 _ _ (fun z => by rw [z, g2] at h1; cases h1) h1, h3, fun k hk => ?_⟩
      obtain ⟨e1, e2, us', e3, e4⟩ := h4 k hk
      refine ⟨e1, (fun z => by rw [z, htl3] at e3; cases e3), us', y13 _ _ (fun z => by rw [z, g2] at e3; cases e3) e3, e4.to fun t xs e => y13 _ _ (fun z => by rw [z, g2] at e; cases e) e⟩
    · intro j dd hj
      have hj0 : j = 0 := by
        have := (List.getElem?_eq_some_iff.mp hj).1
        simp at this
        exact this
      subst hj0
      have : dd = pd := (Option.some.inj hj).symm
      subst this
      refine ⟨_, [⟨0, g, tx, [], true⟩], gp13, rfl, by simp, fun j c hc => ?_, List.pairwise_singleton _ _, fun g' l hl => ⟨_, List.mem_singleton.mpr rfl, ((rowTo_zero hw).mp hl).2.symm⟩⟩
      have hj0 : j = 0 := by
        have := (List.getElem?_eq_some_iff.mp hc).1
        simp at this
        exact this
      subst hj0
      have := (Option.some.inj hc).symm
      subst this
      refine ⟨_, rfl, rfl, hg, rfl, .root gx13, ⟨(LcpOf.one []).congr fun l => ?_, fun _ l hl => ((rowTo_zero hw).mp hl).1, fun h => Bool.noConfusion h⟩, tp, rfl, gu13⟩
      exact ⟨fun h => (rowTo_zero hw).mpr ⟨h, rfl⟩, fun h => ((rowTo_zero hw).mp h).1⟩
    · rintro u l rfl hl
      rw [hl.det (.root gx13)]
      exact Nat.le_refl _
end
end J


set_option Elab.async false
set_option linter.all false
set_option maxRecDepth 100000
set_option maxHeartbeats 4000000
namespace J
open PySem L2
/-! ### things that are no sign -/
inductive BadOn (K : PySem.W.Frag) (sg : List Nat) (H : Hp) : V → Prop
  | non {x : V} {tv : Value} (h : TyZ K H x tv) (n : PySem.W.kitOne K tv (.type "str") = some false) : BadOn K sg H x
  | str {t : List Nat} (hl : t.length ≤ 100000) (n : ¬ (t.length = 1 ∧ ∀ c ∈ t, c ∈ sg)) : BadOn K sg H (.str (SX.S t))
def spOver1 (K : PySem.W.Frag) : Sp := fun vs H Q _ => ∃ (sg : List Nat) (x : V), vs = [.str (SX.S sg), x, .int 1, .int 1] ∧ ((BadOn K sg H x ∧ ∀ H', Same H H' → Q (.bl false) H') ∨ ∃ c : Nat, x = .str (SX.S [c]) ∧ c ∈ sg ∧ ∀ H', Same H H' → Q (.bl true) H')
section
variable {P : Program} {w : World} {K : PySem.W.Frag} {mg : Str → Option Value} {base : Heap}
theorem ok_is_string_over1 (T : Tx K mg) : FnOk P w K mg base CX0 1 T.f_is_string_over T.fd_is_string_over P_is_string_over (spOver1 K) := by
  refine T.F_is_string_over.ok sc_is_string_over (fun vs H Q E h => ?_) (fun cdv A outer s H vs Q E hr h => ?_)
  · obtain ⟨sg, x, rfl, _⟩ := h
    rfl
  · obtain ⟨sg, x, rfl, ho⟩ := h
    refine ⟨_, (pss_cons (ps_if (PW.pt (pw_or (pt_not (pt_val (pe_callB (call_isiZ (K := K) rfl) rfl T.n_isinstance (by decide +kernel) (pa_cons (pv 1) (pa_cons (pe_bltn (v := V.ty "str") (u := .type "str") rfl T.n_str (by decide +kernel) rfl) pa_nil))))) (pw_or1 (pt_not (pt_chain op_le op_le (pv 2) (pe_callB call_len_str rfl T.n_len (by decide +kernel) (pa_cons (pv 1) pa_nil)) (pv 3)))))) (pss_one (ps_ret pe_bl)) pss_nil)
        (pss_one (ps_ret (pe_callB (cr_allK (K := K) rfl rfl) rfl T.n_all (by decide +kernel) (pa_cons (pe_lc (own := [("sign", 4)]) (g := (gName 4)) rfl sc_is_string_over.nd (pi_str (pv 1)) (blkOk_by (N := N_is_string_over) (sc := defScope s_is_string_over) (by decide +kernel)) (fun _ _ _ _ _ => (pg_name (i := 4) sc_is_string_over.nd rfl (Or.inl rfl))) (fun _ _ _ _ _ => pts_nil) (fun _ _ _ _ _ => (pe_cmpR op_in_sign (pv 4) (pv 0) rfl))) pa_nil))))), ?_⟩
    have key : (∃ tv, TyZ K H x tv ∧ PySem.W.kitOne K tv (.type "str") = some false ∧ ∀ H', Same H H' → Q (.bl false) H') ∨ ∃ u : List Nat, x = .str (SX.S u) ∧ u.length ≤ 100000 ∧ ∀ H', Same H H' → Q (.bl (decide (u.length = 1) && u.all fun c => decide (c ∈ sg))) H' := by
      rcases ho with ⟨hb, k⟩ | ⟨c, rfl, hc, k⟩
      · cases hb with
        | @non x tv h n => exact .inl ⟨tv, h, n, k⟩
        | @str t hl n =>
          refine .inr ⟨t, rfl, hl, fun H' s => ?_⟩
          have e : (decide (t.length = 1) && t.all fun c => decide (c ∈ sg)) = false := by
            cases q : (decide (t.length = 1) && t.all fun c => decide (c ∈ sg)) with
            | false => rfl
            | true =>
              rw [Bool.and_eq_true, decide_eq_true_iff, List.all_eq_true] at q
              exact absurd ⟨q.1, fun c hc => of_decide_eq_true (q.2 c hc)⟩ n
          rw [e]
          exact k H' s
      · refine .inr ⟨[c], rfl, by simp, fun H' s => ?_⟩
        rw [show (([c] : List Nat).all fun c => decide (c ∈ sg)) = true from List.all_eq_true.mpr fun y hy => decide_eq_true (by rw [List.mem_singleton.mp hy]; exact hc)]
        exact k H' s
    rcases key with ⟨tv, h, n, k⟩ | ⟨u, rfl, hul, k⟩
    · exact ⟨_, rfl, _, _, _, _, false, rfl, .ty "str", h, n, false, rfl, k H (Same.refl H)⟩
    · have hl : (SX.S u).length ≤ sizeLine := le_size (by rw [SX.S_len]; omega)
      refine ⟨_, rfl, _, _, _, _, true, rfl, .ty "str", .x (.base (.str _)), kit_ty (by decide +kernel), true, rfl, ?_⟩
      have e : ((SX.S u).length : Int) = u.length := by rw [SX.S_len]
      refine ⟨_, rfl, _, rfl, _, rfl, hl, _, _, rfl, rfl, decide (1 ≤ u.length), congrArg V.bl (by rw [e]; exact decide_eq_decide.mpr (by omega)), ?_⟩
      by_cases c1 : 1 ≤ u.length
      · rw [decide_eq_true c1]
        refine ⟨_, rfl, _, _, rfl, rfl, decide (u.length ≤ 1), congrArg V.bl (by rw [e]; exact decide_eq_decide.mpr (by omega)), ?_⟩
        by_cases c2 : u.length ≤ 1
        · rw [decide_eq_true (show u.length = 1 by omega), Bool.true_and] at k
          rw [decide_eq_true c2]
          refine ⟨_, rfl, _, rfl, fun D hD => lc_it (walk_str (z := SX.S u)) (fun i H' => H' D = some (.lst (((u.take i).map fun c => decide (c ∈ sg)).map V.bl)) ∧ Same H H') ⟨upd_same, Same.new _ hD⟩ (fun _ _ _ _ => trivial) ?_ ?_⟩
          · rintro i x H1 H2 hi ⟨hDl, sm⟩ ⟨rfl, c, hc, rfl⟩
            have hcu : u[i]? = some c := by simpa using hc
            refine ⟨rfl, _, rfl, _, rfl, c, _, rfl, rfl, _, hDl, lt_size (by simp; omega), ?_, sm.updNew hD⟩
            rw [upd_same, ← take_snoc hcu, List.map_append, List.map_append]
            have e2 : decide (c ∈ (SX.S sg).cps.toList) = decide (c ∈ sg) := by simp
            first | rfl | (rw [e2]; rfl)
          · rintro H1 ⟨hDl, sm⟩
            refine ⟨D, _, rfl, SqL.of hDl, ?_⟩
            have e3 : (SX.S u).cps.size = u.length := SX.S_len u
            rw [e3, List.take_length, List.all_map]
            exact k _ sm
        · rw [decide_eq_false (show ¬ u.length = 1 by omega), Bool.false_and] at k
          rw [decide_eq_false c2]
          exact k _ (Same.refl H)
      · rw [decide_eq_false (show ¬ u.length = 1 by omega), Bool.false_and] at k
        rw [decide_eq_false c1]
        exact iteF ⟨_, rfl, k _ (Same.refl H)⟩
end
end J


set_option Elab.async false
set_option linter.all false
set_option maxRecDepth 100000
set_option maxHeartbeats 4000000
namespace J
open PySem L2
/-! ### one sign more -/
theorem row_few {as : List Arc} (hw : Wd6 as) {s : Nat} : ∀ {l : List Nat}, Rw as s l → l.length ≤ (txA as l).length := by
  intro l
  induction h : l.length generalizing l with
  | zero => intro _; exact Nat.zero_le _
  | succ n ih =>
    intro hr
    rcases List.eq_nil_or_concat l with rfl | ⟨q, i, rfl⟩
    · cases h
    · rw [List.concat_eq_append] at *
      obtain ⟨h1, a, ha, _⟩ := rw_snocY.mp hr
      rw [List.length_append, List.length_singleton] at h
      have := ih (l := q) (by omega) h1
      have wl := hw a (List.mem_of_getElem? ha)
      rw [txA_appY, txA_oneY ha, List.length_append]
      omega
theorem covR_few {as : List Arc} (hw : Wd6 as) {s : Nat} {t l : List Nat} (h : CovR as s t l) : l.length ≤ t.length := by
  obtain ⟨n, g, q, i, a, hn, hr, ha, e, p, rfl⟩ := h
  have := row_few hw hr.1
  rw [hr.len (by omega)] at this
  rw [List.length_append, List.length_singleton]
  omega
/-- what covers more covers what was, or a beginning of it does -/
theorem covR_up {as : List Arc} (hw : Wd6 as) {s : Nat} {t l : List Nat} {c : Nat} (ht : t ≠ []) (h : CovR as s (t ++ [c]) l) : ∃ l', CovR as s t l' ∧ l' <+: l := by
  obtain ⟨n, g, q, i, a, hn, hr, ha, e, p, rfl⟩ := h
  rw [List.length_append, List.length_singleton] at hn
  by_cases c2 : n < t.length
  · refine ⟨_, ⟨n, g, q, i, a, c2, (rowTo_app (Nat.le_of_lt c2)).mp hr, ha, e, ?_, rfl⟩, List.prefix_refl _⟩
    rw [List.drop_append_of_le_length (Nat.le_of_lt c2)] at p
    exact (List.prefix_append _ _).trans p
  · have hnt : n = t.length := by omega
    subst hnt
    have hr := (rowTo_app (Nat.le_refl _)).mp hr
    obtain ⟨k1, k2, k3⟩ := hr
    rw [List.take_length] at k2
    rcases List.eq_nil_or_concat q with rfl | ⟨q', j, rfl⟩
    · exact absurd k2.symm ht
    · rw [List.concat_eq_append] at *
      obtain ⟨m1, b, hb, eb⟩ := rw_snocY.mp k1
      rw [txA_appY, txA_oneY hb] at k2
      have wl := hw b (List.mem_of_getElem? hb)
      have hl := congrArg List.length k2
      rw [List.length_append] at hl
      refine ⟨q' ++ [j], ⟨(txA as q').length, rowEnd as s q', q', j, b, by omega, ⟨m1, by rw [← k2, List.take_left], rfl⟩, hb, eb, ?_, rfl⟩, List.prefix_append _ _⟩
      rw [← k2, List.drop_left]
      exact List.prefix_refl _
theorem tr_ne_rd {ah num : V} {m : Nat} {z q d tl pl : Addr} {s : Nat} {t : List Nat} : trF ah num m z ≠ rdF q s d t tl pl := fun e => by
  have h := rdF_loom q s d t tl pl
  rw [← e] at h
  cases h
theorem CvAt.up {CT : Addr} {H H' : Hp} {S : Addr → Prop} {as : List Arc} {s : Nat} {t told : List Nat} {cv : List V} {cs : List CE} {r tl : Addr} {C dr : Addr} {q d pl : Addr} {t0 : List Nat} (h : CvAt CT H S as t cv cs) (ok : ∀ c ∈ cs, OkC as s t c) (hr : H r = some (.ins C dr (rdF q s d t0 tl pl))) (ht : H tl = some (.lst (nats told))) (u : Up2 r tl H H') : CvAt CT H' S as t cv cs := by
  refine ⟨h.1, fun i c hc => ?_⟩
  obtain ⟨tp, la, us, a1, a2, a3, a4, a5, a6⟩ := h.2 i c hc
  have ku : ∀ b xs, H b = some (.tup xs) → H' b = some (.tup xs) := fun b xs e => u _ _ (fun z => by rw [z, hr] at e; cases e) (fun z => by rw [z, ht] at e; cases e) e
  refine ⟨tp, la, us, a1, ku _ _ a2, u _ _ (fun z => by rw [z, hr] at a3; cases a3) (fun z => ?_) a3, a4.to ku, a5, a6.to fun y dx ah num m w e => u _ _ (fun z => by rw [z, hr] at e; injection e with e; injection e with _ _ e; exact tr_ne_rd e.symm) (fun z => by rw [z, ht] at e; cases e) e⟩
  rw [z, ht] at a3
  have ne := (ok c (List.mem_of_getElem? hc)).2.2
  have pos : 0 < (bgs c.g (t.drop c.n) 0 as).length := List.length_pos_iff.mpr ne
  obtain ⟨et, b1, _⟩ := a4.2 0 _ (List.getElem?_eq_getElem pos)
  injection a3 with a3
  injection a3 with a3
  rw [← a3] at b1
  unfold nats at b1
  rw [List.getElem?_map] at b1
  cases h2 : told[0]? with
  | none => rw [h2] at b1; cases b1
  | some v => rw [h2] at b1; cases b1
theorem LoomAt.up2 {C CR : Addr} {H H' : Hp} {r q tl dr : Addr} {f : List (Str × V)} {ys : List V} {sg : List Nat} {us : List V} {as : List Arc} (h : LoomAt C H q sg us as) (hr : H r = some (.ins CR dr f)) (hf : ∀ T, f ≠ lf sg T) (ht : H tl = some (.lst ys)) (u : Up2 r tl H H') : LoomAt C H' q sg us as := by
  obtain ⟨dq, Tp, h1, h2, h3, h4, h5⟩ := h
  refine ⟨dq, Tp, u _ _ (fun z => ?_) (fun z => by rw [z, ht] at h1; cases h1) h1, u _ _ (fun z => by rw [z, hr] at h2; cases h2) (fun z => by rw [z, ht] at h2; cases h2) h2, ⟨h3.1, fun i a ha => ?_⟩, h4, h5⟩
  · rw [z, hr] at h1
    injection h1 with h1
    injection h1 with _ _ h1
    exact hf _ h1
  · obtain ⟨t, t1, t2⟩ := h3.2 i a ha
    exact ⟨t, t1, u _ _ (fun z => by rw [z, hr] at t2; cases t2) (fun z => by rw [z, ht] at t2; cases t2) t2⟩
theorem rd_ne_lf {q d tl pl T : Addr} {s : Nat} {t sg : List Nat} : rdF q s d t tl pl ≠ lf sg T := fun e => by
  have h := rdF_loom q s d t tl pl
  rw [e] at h
  cases h
theorem cut12 (xs : List V) : cutV xs (some (-12)) none = xs.drop (xs.length - 12) := by
  unfold cutV
  have e1 : HT.sIx xs.length 0 (some (-12)) = xs.length - 12 := by
    show (if (-12 : Int) < 0 then ((-12 : Int) + (xs.length : Int)).toNat else min (-12 : Int).toNat xs.length) = _
    rw [if_pos (by decide)]
    omega
  rw [e1, HT.sIx_none, List.take_of_length_le (by rw [List.length_drop]; exact Nat.le_refl _)]
def spTakeX (K : PySem.W.Frag) (C CT CR CI CS : Addr) : Sp := fun vs H Q E => ∃ (as : List Arc) (s : Nat) (r q d tl pl : Addr) (sg : List Nat) (us : List V) (t told : List Nat) (ds : List Addr) (S : Addr → Prop) (x : V), vs = [.ref r, x] ∧ RdS C CT CR as s H r q d tl pl sg us t told ds S ∧ t.length < 1999 ∧ told.length < 90000 ∧ ((BadOn K sg H x ∧ ∀ H', Same H H' → E (.ref CI) none H') ∨ ∃ c : Nat, x = .str (SX.S [c]) ∧ c ∈ sg ∧ ((¬ ∃ l, CovR as s (t ++ [c]) l) → ∀ H', Same H H' → E (.ref CS) none H') ∧ ((∃ l, CovR as s (t ++ [c]) l) →
  ∀ (H' : Hp) (nl pl' : Addr) (ds' : List Addr) (S' : Addr → Prop) (told' : List Nat), Up2 r tl H H' → H nl = none → H' nl = some (.lst (nats (told'.drop told.length))) → nl ≠ pl' → told <+: told' → RdS C CT CR as s H' r q d tl pl' sg us (t ++ [c]) told' ds' S' → Q (.ref nl) H'))
section
variable {P : Program} {w : World} {K : PySem.W.Frag} {mg : Str → Option Value} {base : Heap}
theorem ok_Reader_take (T : Tx K mg) : FnOk P w K mg base (L2.CX P w) 5 T.f_Reader_take T.fd_Reader_take P_Reader_take (spTakeX K T.C_Loom T.C_Trail T.C_Reader T.C_InvalidText T.C_Stuck) := by
  have G_is_string_over : FnOk P w K mg base CX0 1 T.f_is_string_over T.fd_is_string_over P_is_string_over (spOver1 K) := ok_is_string_over1 T
  have G_Reader__covers : FnOk P w K mg base CX0 1 T.f_Reader__covers T.fd_Reader__covers P_Reader__covers (spCovers T.C_Loom T.C_Trail T.C_Reader) := ok_Reader__covers T
  have G_sure_trail : FnOk P w K mg base CX0 3 T.f_sure_trail T.fd_sure_trail P_sure_trail (spSureT T.C_Trail) := ok_sure_trail T
  have G_ends : FnOk P w K mg base CX0 3 T.f_ends T.fd_ends P_ends (spEnds T.C_Trail) := ok_ends T
  have G_numbers_beyond : FnOk P w K mg base CX0 1 T.f_numbers_beyond T.fd_numbers_beyond P_numbers_beyond (spBeyond T.C_Trail) := ok_numbers_beyond T
  refine T.F_Reader_take.okX sc_Reader_take (fun vs H Q E h => ?_) (fun cdv A outer st0 H vs Q E hr h => ?_)
  · obtain ⟨as, s, r, q, d, tl, pl, sg, us, t, told, ds, S, x, rfl, _⟩ := h
    rfl
  · obtain ⟨as, s, r, q, d, tl, pl, sg, us, t, told, ds, S, xx, rfl, R, ht2, hto, h⟩ := h
    refine ⟨_, (pss_cons (ps_if (pt_not (pt_val (pe_call G_is_string_over (hr.mono (by decide)) rfl T.m_is_string_over T.F_is_string_over.kp T.b_is_string_over .nil pass0 (pa_cons (pe_fld (pe_fld (pv 0) rfl) rfl) (pa_cons (pv 1) (pa_cons pe_int (pa_cons pe_int pa_nil))))))) (pss_one (ps_raise rfl (takes_of rfl rfl rfl rfl) (pmk_own0 PySem.F.excBase_Exception T.in_InvalidText T.g_InvalidText T.kc_InvalidText (raises_own T.E_InvalidText.hs T.ty_InvalidText) rfl))) pss_nil)
        (pss_cons (ps_set (i := 2) sc_Reader_take.nd rfl (Or.inl rfl) (pe_meth (pv 0) T.cl_Reader T.me_Reader__covers G_Reader__covers (hr.mono (by decide)) T.b_Reader__covers .nil pass0 (pa_cons (pv 1) pa_nil)))
        (pss_cons (ps_if (pt_cmpR op_eq (pe_callB (call_len_seqK (K := K) rfl) rfl T.n_len (by decide +kernel) (pa_cons (pv 2) pa_nil)) pe_int (nomark _)) (pss_one (ps_raise rfl (takes_of rfl rfl rfl rfl) (pmk_own0 PySem.F.excBase_Exception T.in_Stuck T.g_Stuck T.kc_Stuck (raises_own T.E_Stuck.hs T.ty_Stuck) rfl))) pss_nil)
        (pss_cons (ps_set (i := 3) sc_Reader_take.nd rfl (Or.inl rfl) (pe_call G_numbers_beyond (hr.mono (by decide)) rfl T.m_numbers_beyond T.F_numbers_beyond.kp T.b_numbers_beyond .nil pass0 (pa_cons (pe_call G_sure_trail (hr.mono (by decide)) rfl T.m_sure_trail T.F_sure_trail.kp T.b_sure_trail .nil pass0 (pa_cons (pv 2) pa_nil)) (pa_cons (pe_callB (call_len_seqK (K := K) rfl) rfl T.n_len (by decide +kernel) (pa_cons (pe_fld (pv 0) rfl) pa_nil)) pa_nil))))
        (pss_cons (ps_fldaug (pv 0) (pv 1) in_addS)
        (pss_cons (ps_expr (pe_bm PySem.F.plainAttrs_list PySem.F.slot_list_extend PySem.F.type_list_extend mt_extend (pe_fld (pv 0) rfl) (pa_cons (pv 3) pa_nil)))
        (pss_cons (ps_fld (pv 0) (pe_slice (sl_listK (K := K) rfl) (pe_lst (StX.pa_star (pe_fld (pv 0) rfl) (pa_cons (pe_call G_ends (hr.mono (by decide)) rfl T.m_ends T.F_ends.kp T.b_ends .nil pass0 (pa_cons (pv 2) pa_nil)) pa_nil))) (po_some (pe_un un_neg (pe_glob (v := V.int 12) rfl T.g_LONGEST_WORD ⟨_, rfl⟩))) po_none) rfl)
        (pss_one (ps_ret (pv 3)))))))))), ?_⟩
    obtain ⟨dr, hobj⟩ := R.obj
    have hL := R.loom
    obtain ⟨dq, Tp, hq, hT, hA, okq, sgq⟩ := R.loom
    have hw : Wd6 as := Wd6.of okq.all
    refine ⟨_, rfl, r, _, dr, _, _, rfl, hobj, T.cl_Reader, T.na_Reader__loom, rdF_loom _ _ _ _ _ _, q, _, dq, _, _, rfl, hq, T.cl_Loom, T.na_Loom_signs, lf_signs _ _, _, rfl, sg, xx, rfl, ?_⟩
    rcases h with ⟨hbad, kE⟩ | ⟨c, rfl, hc, kS, k⟩
    · refine .inl ⟨hbad, fun H1 s1 => ⟨_, rfl, ?_⟩⟩
      refine ite2 (fun _ => ?_) fun z => by cases z rfl

      exact kE H1 s1
    refine .inr ⟨c, rfl, hc, fun H1 s1 => ⟨_, rfl, ?_⟩⟩
    refine ite2 (fun z => by cases z) fun _ => ?_
    refine ⟨_, rfl, r, dr, _, rfl, s1 _ _ hobj, rfl, _, rfl, as, s, r, q, d, tl, pl, sg, us, t, told, ds, S, c, rfl, R.same s1, by omega, fun H2 L cv cs s2 hLn hLv hcv C hcl => ?_⟩
    refine ⟨_, rfl, L, _, rfl, .inl (SqL.of hLv), ?_⟩
    refine ⟨rfl, _, rfl, ?_⟩
    by_cases hne : cs = []
    · have h0 : cv.length = 0 := by rw [hcv.1, hne]; rfl
      have hnc : ¬ ∃ l, CovR as s (t ++ [c]) l := fun ⟨l, hl⟩ => by
        obtain ⟨x, hx, _⟩ := (covR_iff C).mp hl
        rw [hne] at hx
        cases hx
      rw [h0]
      refine iteT ?_
      exact kS hnc H2 (s1.trans s2)
    have hcov : ∃ l, CovR as s (t ++ [c]) l := by
      obtain ⟨c0, hc0⟩ := List.exists_mem_of_ne_nil cs hne
      obtain ⟨k1, k2, k3⟩ := C.ok c0 hc0
      obtain ⟨l0, hl0⟩ := k2.1.1
      obtain ⟨e0, he0⟩ := List.exists_mem_of_ne_nil _ k3
      exact ⟨_, (covR_iff C).mpr ⟨c0, hc0, e0, he0, l0, hl0, rfl⟩⟩
    replace k := k hcov
    refine ite2 (fun z => ?_) fun _ => ?_
    · have z := of_decide_eq_true z
      injection z with z
      have h0 : cv.length = 0 := by omega
      rw [hcv.1] at h0
      exact absurd (List.length_eq_zero_iff.mp h0) hne
    have S2 := s1.trans s2
    have R2 := R.same S2
    have cl1 : (t ++ [c]).length = t.length + 1 := by rw [List.length_append, List.length_singleton]
    refine ⟨_, rfl, L, as, s, t ++ [c], cv, cs, S, rfl, hLv, hcv, C, hne, hcl, R2.fo, hw, fun H3 x rr s3 Tx lc => ?_⟩
    have R3 := R2.same s3
    have hfew : rr.length ≤ 2000 := by
      obtain ⟨l, hl⟩ := lc.1
      have := covR_few hw hl
      have := (lc.2.1 l hl).length_le
      omega
    have hpre : told <+: rr := by
      rcases R.lcp with ⟨_, rfl⟩ | ⟨hte, lt⟩
      · exact List.nil_prefix
      · refine lc.2.2 told fun l hl => ?_
        obtain ⟨l', h1, h2⟩ := covR_up hw hte hl
        exact (lt.2.1 l' h1).trans h2
    refine ⟨_, rfl, r, _, dr, _, _, rfl, (S2.trans s3) _ _ hobj, T.cl_Reader, T.na_Reader__told, rdF_told _ _ _ _ _ _, tl, _, rfl, .inl (SqL.of R3.tl_), x, rr, (nats told).length, rfl, Tx, hfew, fun H4 nl s4 hn4 hl4 => ?_⟩
    rw [nats_lenY] at hl4
    have S4 := (S2.trans s3).trans s4
    have R4 := R.same S4
    have g4 := S4 _ _ hobj
    have gt4 := S4 _ _ R.tl_
    have n4r : nl ≠ r := hp_ne ((S2.trans s3) _ _ hobj) hn4
    have n4t : nl ≠ tl := hp_ne R3.tl_ hn4
    refine ⟨_, rfl, r, _, dr, _, _, rfl, g4, T.cl_Reader, T.na_Reader__text, rdF_text _ _ _ _ _ _, _, rfl, SX.S t, SX.S [c], rfl, rfl, le_size (by rw [SX.S_len, SX.S_len, List.length_singleton]; omega), dr, _, g4, (by rw [rdF_len]; decide), ?_⟩
    rw [SX.S_cat, rdF_put_text]
    have u5 : ∀ b o, b ≠ r → H4 b = some o → upd H4 r (.ins T.C_Reader dr (rdF q s d (t ++ [c]) tl pl)) b = some o := fun b o n h => by rw [upd_ne n]; exact h
    have g5 : upd H4 r (.ins T.C_Reader dr (rdF q s d (t ++ [c]) tl pl)) r = some (.ins T.C_Reader dr (rdF q s d (t ++ [c]) tl pl)) := upd_same
    have nrt : tl ≠ r := fun z => by rw [z, g4] at gt4; cases gt4
    have gt5 := u5 _ _ nrt gt4
    have hl5 := u5 _ _ n4r hl4
    generalize upd H4 r (.ins T.C_Reader dr (rdF q s d (t ++ [c]) tl pl)) = H5 at *
    have en : nats told ++ nats (rr.drop told.length) = nats rr := by
      obtain ⟨z, hz⟩ := hpre
      rw [← hz, List.drop_left]
      exact (List.map_append).symm
    refine ⟨_, rfl, r, _, dr, _, _, rfl, g5, T.cl_Reader, T.na_Reader__told, rdF_told _ _ _ _ _ _, .inl ⟨rfl, _, SqL.of gt5⟩, _, rfl, tl, nl, _, _, rfl, rfl, gt5, hl5, le_size (by rw [nats_lenY, nats_lenY, List.length_drop]; omega), ?_⟩
    rw [en]
    have u6 : Up2 r tl H4 (upd H5 tl (.lst (nats rr))) := fun b o n1 n2 h => by rw [upd_ne n2]; exact u5 b o n1 h
    have g6 : upd H5 tl (.lst (nats rr)) r = some (.ins T.C_Reader dr (rdF q s d (t ++ [c]) tl pl)) := by rw [upd_ne nrt.symm]; exact g5
    have gt6 : upd H5 tl (.lst (nats rr)) tl = some (.lst (nats rr)) := upd_same
    generalize upd H5 tl (.lst (nats rr)) = H6 at *
    have kt6 : ∀ y dx ah num m z, H4 y = some (.ins T.C_Trail dx (trF ah num m z)) → H6 y = some (.ins T.C_Trail dx (trF ah num m z)) := fun y dx ah num m w e => u6 _ _ (fun z => by rw [z, g4] at e; injection e with e; injection e with _ _ e; exact tr_ne_rd e.symm) (fun z => by rw [z, gt4] at e; cases e) e
    have F6 := R4.fo.to kt6
    have u26 : Up2 r tl H2 H6 := fun b o n1 n2 h => u6 b o n1 n2 ((s3.trans s4) _ _ h)
    have hcv6 := hcv.up C.ok (S2 _ _ hobj) R2.tl_ u26
    have npl : pl ≠ r := fun z => by have := R4.pl_; rw [z, g4] at this; cases this
    have gpl6 := u6 _ _ npl R.np R4.pl_
    have hLr : L ≠ r := fun z => by rw [z, s1 _ _ hobj] at hLn; cases hLn
    have hLt : L ≠ tl := fun z => by rw [z, s1 _ _ R.tl_] at hLn; cases hLn
    have hL6 := u26 _ _ hLr hLt hLv
    have nl6 := u6 _ _ n4r n4t hl4
    refine ⟨_, rfl, r, _, dr, _, _, rfl, g6, T.cl_Reader, T.na_Reader__places, rdF_places _ _ _ _ _ _, pl, _, rfl, .inr (SqL.of gpl6), _, rfl, L, as, s, t ++ [c], cv, cs, S, rfl, hL6, hcv6, C, hcl, F6, okq.all, by have := okq.2.1; omega, by simp, fun y l hy hl => ?_, fun H7 dd S' s7 hdd hSS F7 hold7 plc => ?_⟩
    · obtain ⟨l0, hl0⟩ := R4.fo.tr y hy
      rw [← (hl0.to kt6).det hl]
      have := R4.old y l0 hy hl0
      omega
    have hdl := R.dl
    refine ⟨le_size (by rw [List.length_append, List.length_map]; simp; omega), fun p hp => ?_⟩
    have s8 := Same.new (.lst (ds.map V.ref ++ [V.ref dd])) hp
    have gp8 : upd H7 p (.lst (ds.map V.ref ++ [V.ref dd])) p = some (.lst (ds.map V.ref ++ [V.ref dd])) := upd_same
    generalize upd H7 p (.lst (ds.map V.ref ++ [V.ref dd])) = H8 at *
    refine ⟨_, rfl, _, rfl, p, _, rfl, SqL.of gp8, fun pl' hpl' => ?_⟩
    rw [show (some (-12 : Int)) = some (-12) from rfl, cut12]
    obtain ⟨ds', hds'⟩ : ∃ ds', (ds ++ [dd]).drop (ds.length + 1 - 12) = ds' := ⟨_, rfl⟩
    have eds : (ds.map V.ref ++ [V.ref dd]).drop ((ds.map V.ref ++ [V.ref dd]).length - 12) = ds'.map V.ref := by
      rw [show ds.map V.ref ++ [V.ref dd] = (ds ++ [dd]).map V.ref by rw [List.map_append]; rfl, List.length_map, ← List.map_drop, List.length_append, List.length_singleton, hds']
    rw [eds]
    have S8 : Same H6 H8 := s7.trans s8
    have g8 := S8 _ _ g6
    have gt8 := S8 _ _ gt6
    have nl8 := S8 _ _ nl6
    have s9 := Same.new (.lst (ds'.map V.ref)) hpl'
    have gp9 : upd H8 pl' (.lst (ds'.map V.ref)) pl' = some (.lst (ds'.map V.ref)) := upd_same
    have npr : pl' ≠ r := hp_ne g8 hpl'
    have npt : pl' ≠ tl := hp_ne gt8 hpl'
    have npn : pl' ≠ nl := hp_ne nl8 hpl'
    generalize upd H8 pl' (.lst (ds'.map V.ref)) = H9 at *
    have g9 := s9 _ _ g8
    refine ⟨_, rfl, r, _, dr, _, rfl, g9, T.cl_Reader, T.na_Reader__places, (by rw [rdF_len]; decide), ?_⟩
    rw [rdF_put_places]
    have m9 : ∀ b o, b ≠ r → H9 b = some o → upd H9 r (.ins T.C_Reader dr (rdF q s d (t ++ [c]) tl pl')) b = some o := fun b o n h => by rw [upd_ne n]; exact h
    have g10 : upd H9 r (.ins T.C_Reader dr (rdF q s d (t ++ [c]) tl pl')) r = some (.ins T.C_Reader dr (rdF q s d (t ++ [c]) tl pl')) := upd_same
    generalize upd H9 r (.ins T.C_Reader dr (rdF q s d (t ++ [c]) tl pl')) = H10 at *
    have s79 : Same H7 H9 := s8.trans s9
    have u10 : Up2 r tl H H10 := fun b o n1 n2 h => m9 _ _ n1 (s79 _ _ (s7 _ _ (u6 b o n1 n2 (S4 _ _ h))))
    have m7 : ∀ b o, b ≠ r → H7 b = some o → H10 b = some o := fun b o n h => m9 b o n (s79 b o h)
    have g7 := s7 _ _ g6
    have kt7 : ∀ y dx ah num m z, H7 y = some (.ins T.C_Trail dx (trF ah num m z)) → H10 y = some (.ins T.C_Trail dx (trF ah num m z)) := fun y dx ah num m w e => m7 _ _ (fun z => by rw [z, g7] at e; injection e with e; injection e with _ _ e; exact tr_ne_rd e.symm) e
    have ku7 : ∀ b xs, H7 b = some (.tup xs) → H10 b = some (.tup xs) := fun b xs e => m7 _ _ (fun z => by rw [z, g7] at e; cases e) e
    have kd7 : ∀ b xs, H7 b = some (.dK xs) → H10 b = some (.dK xs) := fun b xs e => m7 _ _ (fun z => by rw [z, g7] at e; cases e) e
    have ktH : ∀ y dx ah num m z, H y = some (.ins T.C_Trail dx (trF ah num m z)) → H10 y = some (.ins T.C_Trail dx (trF ah num m z)) := fun y dx ah num m w e => kt7 _ _ _ _ _ _ (s7 _ _ (kt6 _ _ _ _ _ _ (S4 _ _ e)))
    have kuH : ∀ b xs, H b = some (.tup xs) → H10 b = some (.tup xs) := fun b xs e => u10 _ _ (fun z => by rw [z, hobj] at e; cases e) (fun z => by rw [z, R.tl_] at e; cases e) e
    have kdH : ∀ b xs, H b = some (.dK xs) → H10 b = some (.dK xs) := fun b xs e => u10 _ _ (fun z => by rw [z, hobj] at e; cases e) (fun z => by rw [z, R.tl_] at e; cases e) e
    have hnl : H nl = none := (S2.trans s3).free hn4
    refine ⟨_, rfl, k H10 nl pl' ds' S' rr u10 hnl (m9 _ _ n4r (s9 _ _ nl8)) npn.symm hpre ⟨⟨dr, g10⟩, hL.up2 hobj (fun _ => rd_ne_lf) R.tl_ u10, R.tab.up hobj R.tl_ u10, m9 _ _ nrt (s9 _ _ gt8), m9 _ _ npr gp9, npt, ?_, fun j x hx => ?_, F7.to kt7, fun y l hy hl => ?_, .inr ⟨by simp, lc⟩, R.s63, fun x hx => ?_⟩⟩
    · rw [← hds', List.length_drop, List.length_append, List.length_singleton, cl1]
      omega
    · rw [← hds', List.reverse_drop, List.getElem?_take] at hx
      split at hx
      · rename_i hj
        rw [List.reverse_append] at hx
        cases j with
        | zero =>
          have : x = dd := (Option.some.inj hx).symm
          subst this
          exact plc.to kt7 ku7 kd7 fun _ h => h
        | succ j =>
          have hx : ds.reverse[j]? = some x := hx
          have e : (t ++ [c]).length - (j + 1) = t.length - j := by omega
          rw [e]
          exact (plc_app (Nat.sub_le _ _) (R.pc j x hx)).to ktH kuH kdH hSS
      · cases hx
    · obtain ⟨l0, hl0⟩ := F7.tr y hy
      rw [← (hl0.to kt7).det hl]
      exact hold7 y l0 hy hl0
    · rcases List.mem_append.mp hx with h | h
      · exact R.ch x h
      · rw [List.mem_singleton.mp h]
        exact hc
end
end J


set_option Elab.async false
set_option linter.all false
set_option maxRecDepth 100000
set_option maxHeartbeats 4000000
namespace J
open PySem L2
def spTold (C CT CR : Addr) : Sp := fun vs H Q _ => ∃ (as : List Arc) (s : Nat) (r q d tl pl : Addr) (sg : List Nat) (us : List V) (t told : List Nat) (ds : List Addr) (S : Addr → Prop), vs = [.ref r] ∧ RdS C CT CR as s H r q d tl pl sg us t told ds S ∧ ∀ H' nl, Same H H' → H nl = none → H' nl = some (.lst (nats told)) → Q (.ref nl) H'
def spTextR (C CT CR : Addr) : Sp := fun vs H Q _ => ∃ (as : List Arc) (s : Nat) (r q d tl pl : Addr) (sg : List Nat) (us : List V) (t told : List Nat) (ds : List Addr) (S : Addr → Prop), vs = [.ref r] ∧ RdS C CT CR as s H r q d tl pl sg us t told ds S ∧ Q (.str (SX.S t)) H
/-- a list of its own does not touch a reader -/
theorem RdS.nl {C CT CR : Addr} {as : List Arc} {s : Nat} {H H1 H' : Hp} {r q d tl pl pl1 : Addr} {sg : List Nat} {us us1 : List V} {t told t1 told1 : List Nat} {ds ds1 : List Addr} {S S1 : Addr → Prop} {nl : Addr} {xs : List V} (h : RdS C CT CR as s H1 r q d tl pl sg us t told ds S) (h0 : RdS C CT CR as s H r q d tl pl1 sg us1 t1 told1 ds1 S1) (u : Up2 r tl H H1) (hn : H nl = none) (g : H1 nl = some (.lst xs)) (np : nl ≠ pl) (e : Ex nl H1 H') : RdS C CT CR as s H' r q d tl pl sg us t told ds S := by
  obtain ⟨dr, hobj⟩ := h0.obj
  have nr : nl ≠ r := fun z => by rw [z, hobj] at hn; cases hn
  have nt : nl ≠ tl := fun z => by rw [z, h0.tl_] at hn; cases hn
  have k1 : ∀ y dx ah num m z, H1 y = some (.ins CT dx (trF ah num m z)) → H' y = some (.ins CT dx (trF ah num m z)) := fun y dx ah num m z k => e _ _ (fun w => by rw [w, g] at k; cases k) k
  have k2 : ∀ b xs, H1 b = some (.tup xs) → H' b = some (.tup xs) := fun b xs k => e _ _ (fun w => by rw [w, g] at k; cases k) k
  have k4 : ∀ b xs, H1 b = some (.dK xs) → H' b = some (.dK xs) := fun b xs k => e _ _ (fun w => by rw [w, g] at k; cases k) k
  have uu : Up2 r tl H H' := fun b o n1 n2 k => e _ _ (fun w => by rw [w, hn] at k; cases k) (u b o n1 n2 k)
  refine ⟨h.obj.imp fun _ k => e _ _ nr.symm k, ?_, h0.tab.up hobj h0.tl_ uu, e _ _ nt.symm h.tl_, e _ _ np.symm h.pl_, h.np, h.dl, fun k dd hk => (h.pc k dd hk).to k1 k2 k4 fun _ z => z, h.fo.to k1, fun x l hx hl => ?_, h.lcp, h.s63, h.ch⟩
  · obtain ⟨dq, Tp, h1, h2, h3, h4, h5⟩ := h.loom
    refine ⟨dq, Tp, e _ _ (fun w => by rw [w] at h1; rw [g] at h1; cases h1) h1, k2 _ _ h2, ⟨h3.1, fun i a ha => ?_⟩, h4, h5⟩
    obtain ⟨t, t1, t2⟩ := h3.2 i a ha
    exact ⟨t, t1, k2 _ _ t2⟩
  · obtain ⟨l', hl'⟩ := h.fo.tr x hx
    rw [← (hl'.to k1).det hl]
    exact h.old x l' hx hl'
section
variable {P : Program} {w : World} {K : PySem.W.Frag} {mg : Str → Option Value} {base : Heap}
theorem ok_Reader_told (T : Tx K mg) : FnOk P w K mg base CX0 1 T.f_Reader_told T.fd_Reader_told P_Reader_told (spTold T.C_Loom T.C_Trail T.C_Reader) := by
  refine T.F_Reader_told.ok sc_Reader_told (fun vs H Q E h => ?_) (fun cdv A outer st0 H vs Q E hr h => ?_)
  · obtain ⟨as, s, r, q, d, tl, pl, sg, us, t, told, ds, S, rfl, _⟩ := h
    rfl
  · obtain ⟨as, s, r, q, d, tl, pl, sg, us, t, told, ds, S, rfl, R, k⟩ := h
    refine ⟨_, (pss_one (ps_ret (pe_callTy (call_list_ofK (K := K) rfl) rfl T.n_list (by decide +kernel) (pa_cons (pe_fld (pv 0) rfl) pa_nil)))), ?_⟩
    obtain ⟨dr, hobj⟩ := R.obj
    refine ⟨_, rfl, r, _, dr, _, _, rfl, hobj, T.cl_Reader, T.na_Reader__told, rdF_told _ _ _ _ _ _, ?_⟩
    exact ⟨tl, _, rfl, .inl (SqL.of R.tl_), fun p hp => k _ p (Same.new _ hp) hp upd_same⟩
theorem ok_Reader_text (T : Tx K mg) : FnOk P w K mg base CX0 1 T.f_Reader_text T.fd_Reader_text P_Reader_text (spTextR T.C_Loom T.C_Trail T.C_Reader) := by
  refine T.F_Reader_text.ok sc_Reader_text (fun vs H Q E h => ?_) (fun cdv A outer st0 H vs Q E hr h => ?_)
  · obtain ⟨as, s, r, q, d, tl, pl, sg, us, t, told, ds, S, rfl, _⟩ := h
    rfl
  · obtain ⟨as, s, r, q, d, tl, pl, sg, us, t, told, ds, S, rfl, R, k⟩ := h
    refine ⟨_, (pss_one (ps_ret (pe_fld (pv 0) rfl))), ?_⟩
    obtain ⟨dr, hobj⟩ := R.obj
    exact ⟨_, rfl, r, _, dr, _, _, rfl, hobj, T.cl_Reader, T.na_Reader__text, rdF_text _ _ _ _ _ _, k⟩
end
end J


set_option Elab.async false
set_option linter.all false
set_option maxRecDepth 100000
set_option maxHeartbeats 4000000
namespace J
open PySem L2
/-! ### what sure tells is what a reader tells -/
def Cov0 (as : List Arc) (g : Nat) (u : List Nat) (l : List Nat) : Prop := Rw as g l ∧ u <+: txA as l
theorem cov0_of {as : List Arc} {s : Nat} {t l : List Nat} (h : CovR as s t l) : Cov0 as s t l := by
  obtain ⟨n, g, q, i, a, hn, hr, ha, e, p, rfl⟩ := h
  refine ⟨rw_snocY.mpr ⟨hr.1, a, ha, e.trans hr.2.2.symm⟩, ?_⟩
  rw [txA_appY, txA_oneY ha, hr.2.1]
  have := (List.prefix_append_right_inj (t.take n)).mpr p
  rwa [List.take_append_drop] at this
theorem cov0_down {as : List Arc} {s : Nat} {t : List Nat} (ht : t ≠ []) : ∀ {l : List Nat}, Cov0 as s t l → ∃ l', CovR as s t l' ∧ l' <+: l := by
  intro l
  induction hn : l.length generalizing l with
  | zero =>
    intro h
    have : l = [] := List.length_eq_zero_iff.mp hn
    subst this
    have := h.2
    rw [txA_nil, List.prefix_nil] at this
    exact absurd this ht
  | succ n ih =>
    intro h
    rcases List.eq_nil_or_concat l with rfl | ⟨q, i, rfl⟩
    · cases hn
    · rw [List.concat_eq_append] at *
      rw [List.length_append, List.length_singleton] at hn
      by_cases c : t <+: txA as q
      · obtain ⟨k1, _⟩ := rw_snocY.mp h.1
        obtain ⟨l', a1, a2⟩ := ih (l := q) (by omega) ⟨k1, c⟩
        exact ⟨l', a1, a2.trans (List.prefix_append _ _)⟩
      · obtain ⟨k1, a, ha, ea⟩ := rw_snocY.mp h.1
        have p := h.2
        rw [txA_appY, txA_oneY ha] at p
        have hlt : (txA as q).length < t.length := by
          apply Classical.byContradiction
          intro z
          exact c (List.prefix_of_prefix_length_le p (List.prefix_append _ _) (by omega))
        have hq : txA as q <+: t := List.prefix_of_prefix_length_le (List.prefix_append _ _) p (by omega)
        have ht' : t = txA as q ++ t.drop (txA as q).length := (cat_drop hq).symm
        refine ⟨_, ⟨(txA as q).length, rowEnd as s q, q, i, a, hlt, ⟨k1, (List.prefix_iff_eq_take.mp hq), rfl⟩, ha, ea, ?_, rfl⟩, List.prefix_refl _⟩
        rw [ht'] at p
        exact (List.prefix_append_right_inj _).mp p
theorem lcp_cov0 {as : List Arc} {s : Nat} {t q : List Nat} (ht : t ≠ []) : LcpOf (CovR as s t) q ↔ LcpOf (Cov0 as s t) q := by
  constructor
  · rintro ⟨⟨l, hl⟩, h2, h3⟩
    refine ⟨⟨l, cov0_of hl⟩, fun m hm => ?_, fun w hw => h3 w fun m hm => hw m (cov0_of hm)⟩
    obtain ⟨m', a1, a2⟩ := cov0_down ht hm
    exact (h2 m' a1).trans a2
  · rintro ⟨⟨l, hl⟩, h2, h3⟩
    obtain ⟨l', a1, _⟩ := cov0_down ht hl
    refine ⟨⟨l', a1⟩, fun m hm => h2 m (cov0_of hm), fun w hw => h3 w fun m hm => ?_⟩
    obtain ⟨m', b1, b2⟩ := cov0_down ht hm
    exact (hw m' b1).trans b2
theorem pre_cons {i : Nat} {u v : List Nat} : i :: u <+: i :: v ↔ u <+: v := by
  rw [List.cons_prefix_cons]
  exact ⟨fun h => h.2, fun h => ⟨rfl, h⟩⟩
theorem srr_lcp {as : List Arc} {t : List Nat} {n g : Nat} {row : List Nat} (h : Srr as t n g row) (nd : ∀ u g, (liv as true u g).Nodup) : (∃ l, Cov0 as g (t.drop n) l) → LcpOf (Cov0 as g (t.drop n)) row := by
  induction h with
  | @stop n g hz =>
    rintro ⟨l, hl⟩
    refine ⟨⟨l, hl⟩, fun _ _ => List.nil_prefix, fun w hw => ?_⟩
    by_cases e : t.drop n = []
    · exact hw [] ⟨.nil _, by rw [e]; exact List.nil_prefix⟩
    · have hz : (liv as true (t.drop n) g).length ≠ 1 := hz.resolve_left fun z => e (List.drop_eq_nil_of_le z)
      cases w with
      | nil => exact List.nil_prefix
      | cons i0 w =>
        exfalso
        have key : ∀ i ∈ liv as true (t.drop n) g, i = i0 := fun i hi => by
          obtain ⟨r, h1, h2⟩ := (liv_cov e).mp hi
          have := hw (i :: r) ⟨h1, h2⟩
          exact (List.cons_prefix_cons.mp this).1.symm
        have nn := nd (t.drop n) g
        match hL : liv as true (t.drop n) g with
        | [] =>
          cases l with
          | nil =>
            have := hl.2
            rw [txA_nil, List.prefix_nil] at this
            exact e this
          | cons i r =>
            have := (liv_cov e).mpr ⟨r, hl.1, hl.2⟩
            rw [hL] at this
            cases this
        | [x] => rw [hL] at hz; exact hz rfl
        | x :: y :: z =>
          rw [hL] at nn key
          have e1 := key x (by simp)
          have e2 := key y (by simp)
          rw [List.nodup_cons] at nn
          exact nn.1 (by rw [e1, ← e2]; simp)
  | @go n g i a row hn hi ha hs ih =>
    rintro _
    have e : t.drop n ≠ [] := fun z => by
      have := congrArg List.length z
      rw [List.length_drop, List.length_nil] at this
      omega
    have hil : i ∈ liv as true (t.drop n) g := by rw [hi]; exact List.mem_singleton.mpr rfl
    obtain ⟨r0, k1, k2⟩ := (liv_cov e).mp hil
    obtain ⟨a', ha', ea, k3⟩ := Rw.of k1
    rw [ha] at ha'
    cases ha'
    rw [txA_cons, wdA_at ha] at k2
    have dd : t.drop (n + a.2.1.length) = (t.drop n).drop a.2.1.length := by rw [List.drop_drop]
    have tail : ∀ r, Cov0 as a.2.2 (t.drop (n + a.2.1.length)) r ↔ Cov0 as g (t.drop n) (i :: r) := fun r => by
      unfold Cov0
      rw [txA_cons, wdA_at ha, dd]
      have hR : Rw as a.2.2 r ↔ Rw as g (i :: r) := ⟨fun h => Rw.mk ha ea h, fun h => by
        obtain ⟨a2, h1, _, h3⟩ := Rw.of h
        rw [ha] at h1
        cases h1
        exact h3⟩
      rw [hR]
      refine and_congr Iff.rfl ?_
      rcases Nat.le_total a.2.1.length (t.drop n).length with hle | hle
      · have hp : a.2.1 <+: t.drop n := List.prefix_of_prefix_length_le (List.prefix_append _ _) k2 hle
        have := cat_drop hp
        constructor
        · intro h
          rw [← this]
          exact (List.prefix_append_right_inj _).mpr h
        · intro h
          rw [← this] at h
          exact (List.prefix_append_right_inj _).mp h
      · have hp : t.drop n <+: a.2.1 := List.prefix_of_prefix_length_le k2 (List.prefix_append _ _) hle
        rw [List.drop_eq_nil_of_le hle]
        exact ⟨fun _ => hp.trans (List.prefix_append _ _), fun _ => List.nil_prefix⟩
    have IH := ih ⟨r0, (tail r0).mpr ⟨k1, by rw [txA_cons, wdA_at ha]; exact k2⟩⟩
    have first : ∀ l, Cov0 as g (t.drop n) l → ∃ r, l = i :: r ∧ Cov0 as a.2.2 (t.drop (n + a.2.1.length)) r := fun l hl => by
      cases l with
      | nil =>
        have := hl.2
        rw [txA_nil, List.prefix_nil] at this
        exact absurd this e
      | cons j r =>
        have hj := (liv_cov e).mpr ⟨r, hl.1, hl.2⟩
        rw [hi, List.mem_singleton] at hj
        subst hj
        exact ⟨r, rfl, (tail r).mpr hl⟩
    refine ⟨⟨_, (tail r0).mp ((tail r0).mpr ⟨k1, by rw [txA_cons, wdA_at ha]; exact k2⟩)⟩, fun l hl => ?_, fun w hw => ?_⟩
    · obtain ⟨r, rfl, hr⟩ := first l hl
      exact pre_cons.mpr (IH.2.1 r hr)
    · cases w with
      | nil => exact List.nil_prefix
      | cons j w =>
        have h0 := hw _ ((tail r0).mp ((tail r0).mpr ⟨k1, by rw [txA_cons, wdA_at ha]; exact k2⟩))
        have ej := (List.cons_prefix_cons.mp h0).1
        subst ej
        exact pre_cons.mpr (IH.2.2 w fun r hr => pre_cons.mp (hw _ ((tail r).mp hr)))
theorem liv_nodup {as : List Arc} {b : Bool} {u : List Nat} {g : Nat} : (liv as b u g).Nodup := by
  classical
  unfold liv livI
  exact List.nodup_range.filter _
/-- what a reader has told is what sure tells -/
theorem told_sure {as : List Arc} {s : Nat} {t told row : List Nat} (ht : t ≠ []) (h : LcpOf (CovR as s t) told) (k : Srr as t 0 s row) : told = row := by
  have h0 := (lcp_cov0 ht).mp h
  have e : t.drop 0 = t := rfl
  have k0 := srr_lcp k (fun _ _ => liv_nodup) (by rw [e]; exact h0.1)
  rw [e] at k0
  exact h0.uniq k0
/-- a row that covers: no sign is refused -/
theorem covR_liv {as : List Arc} {s : Nat} {t : List Nat} (ht : t ≠ []) : liv as true t s ≠ [] ↔ ∃ l, CovR as s t l := by
  constructor
  · intro h
    obtain ⟨i, hi⟩ := List.exists_mem_of_ne_nil _ h
    obtain ⟨r, h1, h2⟩ := (liv_cov ht).mp hi
    obtain ⟨l', a1, _⟩ := cov0_down ht ⟨h1, h2⟩
    exact ⟨l', a1⟩
  · rintro ⟨l, hl⟩ z
    have h0 := cov0_of hl
    cases l with
    | nil =>
      have := h0.2
      rw [txA_nil, List.prefix_nil] at this
      exact ht this
    | cons i r =>
      have := (liv_cov ht).mpr ⟨r, h0.1, h0.2⟩
      rw [z] at this
      cases this
/-- a beginning of a text that is covered is covered -/
theorem cov_take {as : List Arc} {s : Nat} {t l : List Nat} {k : Nat} (hk : t.take k ≠ []) (h : Cov0 as s t l) : ∃ l', CovR as s (t.take k) l' := by
  obtain ⟨l', a, _⟩ := cov0_down hk ⟨h.1, (List.take_prefix k t).trans h.2⟩
  exact ⟨l', a⟩
end J


set_option Elab.async false
set_option linter.all false
set_option maxRecDepth 100000
set_option maxHeartbeats 4000000
/-! o.m(k = e, ..): a method called by keywords alone -/
namespace L2
open PySem PySem.Spec PyProof.Rows
def tMethN (C : Addr) (m : Str) (n : Nat) (sp : Sp) (gV : List V → List V → List V) (E : XK) (ta : TE) (tk : TA) : TE := fun σ H Q => ta σ H fun x H1 => ∃ a dx fs, x = .ref a ∧ H1 a = some (.ins C dx fs) ∧ fs.lookup m = none ∧
  tk σ H1 fun zs H2 => zs.length = n ∧ sp (gV [.ref a] zs) H2 Q E
theorem Fun.kbinds1 {K : PySem.W.Frag} {x qual : Str} {st : Stmt} {f : Addr} {fd : FuncData} {ps ks : List Str} (F : Fun K x qual st f fd) (g : {α : Type} → α → List α → List α)
    (h : ∀ (kV doc pm : Value) (an : Option Addr) (cdv ct u : Value) (ws : List Value), ws.length = ks.length → bindArgs (PySem.W.fnOf x qual (defArgs st) (defBody st) (defScope st) .none kV doc pm an cdv ct) ⟨[u], ks.zip ws⟩ = pure (ps.zip (g u ws)))
    (hrel : ∀ {z : V} {w : Value} {zs : List V} {ws : List Value}, Vals [z] [w] → Vals zs ws → Vals (g z zs) (g w ws)) : KBn K fd ps 1 ks (fun us ws => match us with | [u] => g u ws | _ => []) (fun vs zs => match vs with | [v] => g v zs | _ => []) := by
  obtain ⟨oc, od, kV, doc, pm, an, cdv, ct, osl, rfl, lk, hcd⟩ := F.ex
  refine ⟨fun s us ws _ h0 hl => ?_, fun {vs us zs ws} r rz => ?_⟩
  · match us, h0 with
    | [u], _ => exact BindsTo.of_eq (h kV doc pm an cdv ct u ws hl)
  · cases r with
    | nil => exact .nil
    | cons r1 r2 =>
      cases r2 with
      | nil => exact hrel (.cons r1 .nil) rz
      | cons _ _ => exact .nil
section
variable {X : Cx} {CX : CXT} {k : Nat} {f C : Addr} {fd : FuncData} {ps ks : List Str} {sp : Sp} {E : XK} {m : Str} {apos pos : Pos} {o : Expr} {ta : TE} {kws : List Keyword} {tk : TA} {g : List Value → List Value → List Value} {gV : List V → List V → List V}
theorem pe_methN0 {pl : Sem Bool} (he : PE X o ta) (c : Cls X.K C) (hm : Meth X.K C m f) (F : FnOk X.prog X.w X.K X.mg X.base CX k f fd ps sp) (hr : Room k X.A) (hb : KBn X.K fd ps 1 ks g gV) (hx : Passes CX X E)
    (hkw : PK X kws tk) (hall : (backToKw pos (keywordEach kws X.env)).all (·.1.isSome) = true := by rfl) (hks : (backToKw pos (keywordEach kws X.env)).filterMap (·.1) = ks := by rfl)
    (hpl : ((backTo pos (starEach [] X.env)).any (·.1) || (backToKw pos (keywordEach kws X.env)).any (·.1.isNone)) = false := by rfl)
    (ht : eval (.Call (.Attribute o m apos) [] kws pos) X.env = (do
      let ov ← eval o X.env
      standAt apos.atName
      let (f, first) ← holding [ov] (getMethod ov m pl)
      callWith pos f first (backTo pos (starEach [] X.env)) (backToKw pos (keywordEach kws X.env))) := by rfl) :
    PE X (.Call (.Attribute o m apos) [] kws pos) (tMethN C m ks.length sp gV E ta tk) := by
  refine ⟨fun pins s σ H Q I h => ?_⟩
  refine PySem.W.methodCall_KW (pl := pl) (thn (he.run pins s σ H _ I h) fun u s1 ⟨x, H1, I1, rx, a, dx, fs, ex, ea, l, q⟩ => ?_) ht
  subst ex
  obtain rfl : u = Value.ref a := rx
  refine getmeth_ok I1 ea c hm l ?_
  refine PySem.W.callWith_KW0 (first := [.ref a]) (h₀ := X.base) I.ok.mod.kin hm.kp hall ?_ hpl
  refine thn (hkw.run pos pins s1 σ H1 _ I1 q) fun ws s2 ⟨zs, H2, I2, rz, l2, q2⟩ => ⟨I2.kIn, ?_⟩
  rw [hks]
  exact run_fnN (us := [.ref a]) (vs := [.ref a]) F hr hb hx I2 (.cons rfl .nil) rz rfl l2 q2
end
end L2

set_option Elab.async false
set_option linter.all false
set_option maxRecDepth 100000
set_option maxHeartbeats 4000000
namespace J
open PySem L2
theorem KB_take_sign {P : Program} {w : World} {K : PySem.W.Frag} {mg : Str → Option Value} (T : Tx K mg) : KBn K T.fd_Reader_take P_Reader_take 1 ["sign"] (fun us ws => match us with | [u] => u :: ws | _ => []) (fun vs zs => match vs with | [v] => v :: zs | _ => []) :=
  T.F_Reader_take.kbinds1 (fun u ws => u :: ws) (fun _ _ _ _ _ _ _ ws hl => match ws, hl with | [_], _ => rfl) (fun h1 h2 => by
    cases h1 with
    | cons a _ => exact .cons a h2)
end J


set_option Elab.async false
set_option linter.all false
set_option maxRecDepth 100000
set_option maxHeartbeats 4000000
namespace J
open PySem L2
theorem mem_leav {as : List Arc} {g i : Nat} : i ∈ leav as g ↔ ∃ a, as[i]? = some a ∧ a.1 = g := by
  refine ⟨leav_mem, fun ⟨a, ha, e⟩ => ?_⟩
  unfold leav leavTo
  exact List.mem_filter.mpr ⟨List.mem_range.mpr (List.getElem?_eq_some_iff.mp ha).1, by rw [ha, decide_eq_true_eq]; exact congrArg some e⟩

def spJoined : Sp := fun vs H Q _ => ∃ (a r : Addr) (as : List Arc) (row : List Nat), vs = [.ref a, .ref r] ∧ ArcL H a as ∧ OkAll as ∧ H r = some (.lst (nats row)) ∧ RowIn as row ∧ row.length ≤ 10000 ∧
  ∀ H' : Hp, Same H H' → Q (.str (SX.S (rowText as row))) H'
def spEnd : Sp := fun vs H Q _ => ∃ (a r : Addr) (as : List Arc) (g : Nat) (row : List Nat), vs = [.ref a, .int (g : Int), .ref r] ∧ ArcL H a as ∧ H r = some (.lst (nats row)) ∧ RowIn as row ∧
  Q (.int (rowEnd as g row : Nat)) H

theorem wordAt_wdA (as : List Arc) : wordAt as = wdA as := by
  funext i
  unfold wordAt wdA
  rw [List.getD_eq_getElem?_getD]
  cases as[i]? <;> rfl
theorem rowText_txA (as : List Arc) (r : List Nat) : rowText as r = txA as r := by
  unfold rowText txA
  rw [wordAt_wdA]
theorem Rw.rowIn {as : List Arc} {g : Nat} {r : List Nat} (h : Rw as g r) : RowIn as r := by
  induction h with
  | nil => exact fun i hi => (nomatch hi)
  | cons h _ ih =>
    intro i hi
    rcases List.mem_cons.mp hi with rfl | q
    · exact (List.getElem?_eq_some_iff.mp h).1
    · exact ih i q
theorem rowEnd_cons {as : List Arc} {g i : Nat} {a : Arc} (h : as[i]? = some a) (r : List Nat) : rowEnd as g (i :: r) = rowEnd as a.2.2 r := by
  unfold rowEnd
  cases r with
  | nil => exact goalAt_eq h
  | cons j r =>
    rw [List.getLast?_cons_cons]
    cases e : (j :: r).getLast? with
    | none => simp at e
    | some k => rfl
theorem Rw.snoc_iff {as : List Arc} {j : Nat} : ∀ {r : List Nat} {g : Nat}, Rw as g (r ++ [j]) ↔ Rw as g r ∧ j ∈ leav as (rowEnd as g r)
  | [], g => by
    rw [mem_leav]
    constructor
    · intro h
      obtain ⟨a, h1, h2, _⟩ := Rw.of (i := j) (r := []) h
      exact ⟨Rw.nil g, a, h1, h2⟩
    · rintro ⟨_, a, h1, h2⟩
      exact Rw.mk h1 h2 (Rw.nil _)
  | i :: r, g => by
    constructor
    · intro h
      obtain ⟨a, h1, h2, h3⟩ := Rw.of (i := i) (r := r ++ [j]) h
      obtain ⟨h4, h5⟩ := Rw.snoc_iff.mp h3
      exact ⟨Rw.mk h1 h2 h4, by rw [rowEnd_cons h1]; exact h5⟩
    · rintro ⟨h, h5⟩
      obtain ⟨a, h1, h2, h3⟩ := h.of
      rw [rowEnd_cons h1] at h5
      exact Rw.mk (r := r ++ [j]) h1 h2 (Rw.snoc_iff.mpr ⟨h3, h5⟩)

end J


set_option Elab.async false
set_option linter.all false
set_option maxRecDepth 100000
set_option maxHeartbeats 4000000
namespace J
open PySem L2
/-! ### the rows that cover, found by breadth -/
def Und (as : List Arc) (g : Nat) (t r : List Nat) : Prop := Rw as g r ∧ (r = [] ∨ ∃ q i, r = q ++ [i] ∧ txA as q <+: t ∧ (txA as q).length < t.length)
structure Cvg (as : List Arc) (g : Nat) (t : List Nat) (fr tr : List (List Nat)) (turn : Nat) : Prop where
  un : ∀ r ∈ tr, Und as g t r
  fo : ∀ l, l ∈ fr ↔ ∃ k, k < turn ∧ tr[k]? = some l ∧ t <+: txA as l
  cl : ∀ k q, k < turn → tr[k]? = some q → txA as q <+: t → (txA as q).length < t.length → ∀ i ∈ leav as (rowEnd as g q), q ++ [i] ∈ tr
  nil : [] ∈ tr
theorem Cvg.zero (as : List Arc) (g : Nat) (t : List Nat) : Cvg as g t [] [[]] 0 := ⟨fun r hr => by rw [List.mem_singleton.mp hr]; exact ⟨.nil _, .inl rfl⟩, fun l => ⟨fun h => (nomatch h), fun ⟨k, h, _⟩ => absurd h (Nat.not_lt_zero k)⟩, fun k q h => absurd h (Nat.not_lt_zero k), List.mem_singleton.mpr rfl⟩
/-- a row that covers -/
theorem Cvg.hit {as : List Arc} {g : Nat} {t : List Nat} {fr tr : List (List Nat)} {turn : Nat} {q : List Nat} (h : Cvg as g t fr tr turn) (hq : tr[turn]? = some q) (hc : t <+: txA as q) : Cvg as g t (fr ++ [q]) tr (turn + 1) where
  un := h.un
  fo := fun l => by
    rw [List.mem_append, h.fo, List.mem_singleton]
    constructor
    · rintro (⟨k, h1, h2⟩ | rfl)
      · exact ⟨k, by omega, h2⟩
      · exact ⟨turn, by omega, hq, hc⟩
    · rintro ⟨k, h1, h2, h3⟩
      by_cases e : k < turn
      · exact .inl ⟨k, e, h2, h3⟩
      · have : k = turn := by omega
        subst this
        rw [hq] at h2
        exact .inr (Option.some.inj h2).symm
  cl := fun k r h1 h2 h3 h4 => by
    by_cases e : k < turn
    · exact h.cl k r e h2 h3 h4
    · have : k = turn := by omega
      subst this
      rw [hq] at h2
      have := Option.some.inj h2
      subst this
      have := hc.length_le
      omega
  nil := h.nil
/-- a row that does not go with the text -/
theorem Cvg.skip {as : List Arc} {g : Nat} {t : List Nat} {fr tr : List (List Nat)} {turn : Nat} {q : List Nat} (h : Cvg as g t fr tr turn) (hq : tr[turn]? = some q) (hc : ¬ t <+: txA as q) (hn : ¬ txA as q <+: t) : Cvg as g t fr tr (turn + 1) where
  un := h.un
  fo := fun l => by
    rw [h.fo]
    constructor
    · rintro ⟨k, h1, h2⟩
      exact ⟨k, by omega, h2⟩
    · rintro ⟨k, h1, h2, h3⟩
      by_cases e : k < turn
      · exact ⟨k, e, h2, h3⟩
      · have : k = turn := by omega
        subst this
        rw [hq] at h2
        rw [← Option.some.inj h2] at h3
        exact absurd h3 hc
  cl := fun k r h1 h2 h3 h4 => by
    by_cases e : k < turn
    · exact h.cl k r e h2 h3 h4
    · have : k = turn := by omega
      subst this
      rw [hq] at h2
      rw [← Option.some.inj h2] at h3
      exact absurd h3 hn
  nil := h.nil
/-- a row that goes on -/
theorem Cvg.go {as : List Arc} {g : Nat} {t : List Nat} {fr tr : List (List Nat)} {turn : Nat} {q : List Nat} (h : Cvg as g t fr tr turn) (hq : tr[turn]? = some q) (hc : ¬ t <+: txA as q) (hp : txA as q <+: t) : Cvg as g t fr (tr ++ (leav as (rowEnd as g q)).map fun i => q ++ [i]) (turn + 1) := by
  have hlt : turn < tr.length := (List.getElem?_eq_some_iff.mp hq).1
  have hql : (txA as q).length < t.length := by
    apply Classical.byContradiction
    intro z
    have := hp.eq_of_length (Nat.le_antisymm hp.length_le (by omega))
    exact hc (by rw [this]; exact List.prefix_refl _)
  have back : ∀ k l, k < turn + 1 → (tr ++ (leav as (rowEnd as g q)).map fun i => q ++ [i])[k]? = some l → tr[k]? = some l := fun k l hk h => by
    rwa [List.getElem?_append_left (by omega)] at h
  refine ⟨fun r hr => ?_, fun l => ?_, fun k r h1 h2 h3 h4 i hi => ?_, List.mem_append_left _ h.nil⟩
  · rcases List.mem_append.mp hr with h1 | h1
    · exact h.un r h1
    · obtain ⟨i, hi, rfl⟩ := List.mem_map.mp h1
      exact ⟨Rw.snoc_iff.mpr ⟨(h.un q (List.mem_of_getElem? hq)).1, hi⟩, .inr ⟨q, i, rfl, hp, hql⟩⟩
  · rw [h.fo]
    constructor
    · rintro ⟨k, h1, h2, h3⟩
      exact ⟨k, by omega, by rw [List.getElem?_append_left (by omega)]; exact h2, h3⟩
    · rintro ⟨k, h1, h2, h3⟩
      have h2 := back k l h1 h2
      by_cases e : k < turn
      · exact ⟨k, e, h2, h3⟩
      · have : k = turn := by omega
        subst this
        rw [hq] at h2
        rw [← Option.some.inj h2] at h3
        exact absurd h3 hc
  · have h2 := back k r h1 h2
    by_cases e : k < turn
    · exact List.mem_append_left _ (h.cl k r e h2 h3 h4 i hi)
    · have : k = turn := by omega
      subst this
      rw [hq] at h2
      have := Option.some.inj h2
      subst this
      exact List.mem_append_right _ (List.mem_map.mpr ⟨i, hi, rfl⟩)
/-- all have been looked at -/
theorem Cvg.done {as : List Arc} {g : Nat} {t : List Nat} {fr tr : List (List Nat)} (h : Cvg as g t fr tr tr.length) (hw : Wd6 as) (ht : t ≠ []) (l : List Nat) : l ∈ fr ↔ CovR as g t l := by
  have here : ∀ q, q ∈ tr → ∃ k, k < tr.length ∧ tr[k]? = some q := fun q hq => by
    obtain ⟨k, hk⟩ := List.getElem?_of_mem hq
    exact ⟨k, (List.getElem?_eq_some_iff.mp hk).1, hk⟩
  rw [h.fo]
  constructor
  · rintro ⟨k, h1, h2, h3⟩
    obtain ⟨u1, u2⟩ := h.un l (List.mem_of_getElem? h2)
    rcases u2 with rfl | ⟨q, i, rfl, p, lt⟩
    · rw [txA_nil, List.prefix_nil] at h3
      exact absurd h3 ht
    · obtain ⟨k1, a, ha, ea⟩ := rw_snocY.mp u1
      rw [txA_appY, txA_oneY ha] at h3
      have ht' : t = txA as q ++ t.drop (txA as q).length := (cat_drop p).symm
      refine ⟨(txA as q).length, rowEnd as g q, q, i, a, lt, ⟨k1, List.prefix_iff_eq_take.mp p, rfl⟩, ha, ea, ?_, rfl⟩
      rw [ht'] at h3
      exact (List.prefix_append_right_inj _).mp h3
  · intro hl
    have h0 := cov0_of hl
    obtain ⟨n, g', q, i, a, hn, hr, ha, e, p, rfl⟩ := hl
    have hq : txA as q <+: t := by rw [hr.2.1]; exact List.take_prefix _ _
    have hql : (txA as q).length < t.length := by rw [hr.len (Nat.le_of_lt hn)]; exact hn
    have all : ∀ m r, r.length = m → Rw as g r → txA as r <+: t → r ∈ tr := by
      intro m
      induction m with
      | zero =>
        intro r hr0 _ _
        rw [List.length_eq_zero_iff.mp hr0]
        exact h.nil
      | succ m ih =>
        intro r hrl hrw hrt
        rcases List.eq_nil_or_concat r with rfl | ⟨r', j, rfl⟩
        · exact h.nil
        · rw [List.concat_eq_append] at *
          rw [List.length_append, List.length_singleton] at hrl
          obtain ⟨k1, b, hb, eb⟩ := rw_snocY.mp hrw
          rw [txA_appY, txA_oneY hb] at hrt
          have wl := hw b (List.mem_of_getElem? hb)
          have hlen := hrt.length_le
          rw [List.length_append] at hlen
          have hr't : txA as r' <+: t := (List.prefix_append _ _).trans hrt
          obtain ⟨k, hk1, hk2⟩ := here r' (ih r' (by omega) k1 hr't)
          exact h.cl k r' hk1 hk2 hr't (by omega) j (Rw.snoc_iff.mp hrw).2
    obtain ⟨k, hk1, hk2⟩ := here q (all _ q rfl hr.1 hq)
    have := h.cl k q hk1 hk2 hq hql i (Rw.snoc_iff.mp h0.1).2
    obtain ⟨k', e1, e2⟩ := here _ this
    exact ⟨k', e1, e2, h0.2⟩
/-- the rows that cover a text; the empty one is covered by the empty row alone -/
def CovS (as : List Arc) (g : Nat) (t l : List Nat) : Prop := (t = [] ∧ l = []) ∨ (t ≠ [] ∧ CovR as g t l)
theorem Cvg.doneS {as : List Arc} {g : Nat} {t : List Nat} {fr tr : List (List Nat)} (h : Cvg as g t fr tr tr.length) (hw : Wd6 as) (l : List Nat) : l ∈ fr ↔ CovS as g t l := by
  by_cases ht : t = []
  · subst ht
    rw [h.fo]
    constructor
    · rintro ⟨k, h1, h2, h3⟩
      obtain ⟨u1, u2⟩ := h.un l (List.mem_of_getElem? h2)
      rcases u2 with rfl | ⟨q, i, rfl, p, lt⟩
      · exact .inl ⟨rfl, rfl⟩
      · exact absurd lt (Nat.not_lt_zero _)
    · rintro (⟨_, rfl⟩ | ⟨z, _⟩)
      · obtain ⟨k, hk⟩ := List.getElem?_of_mem h.nil
        exact ⟨k, (List.getElem?_eq_some_iff.mp hk).1, hk, List.nil_prefix⟩
      · exact absurd rfl z
  · rw [h.done hw ht l]
    exact ⟨fun z => .inr ⟨ht, z⟩, fun z => z.elim (fun z => absurd z.1 ht) fun z => z.2⟩
end J


set_option Elab.async false
set_option linter.all false
set_option maxRecDepth 100000
set_option maxHeartbeats 4000000
namespace J
open PySem L2
/-- rows as objects, apart from two lists -/
def RwsX (H : Hp) (F T : Addr) (us : List V) (rs : List (List Nat)) : Prop := us.length = rs.length ∧ ∀ (i : Nat) r, rs[i]? = some r → ∃ x, us[i]? = some (.ref x) ∧ x ≠ F ∧ x ≠ T ∧ H x = some (.lst (nats r))
theorem RwsX.to {H H' : Hp} {F T : Addr} {us : List V} {rs : List (List Nat)} (h : RwsX H F T us rs) (k : ∀ b o, b ≠ F → b ≠ T → H b = some o → H' b = some o) : RwsX H' F T us rs := ⟨h.1, fun i r hr => by
  obtain ⟨x, h1, h2, h3, h4⟩ := h.2 i r hr
  exact ⟨x, h1, h2, h3, k _ _ h2 h3 h4⟩⟩
theorem RwsX.snoc {H : Hp} {F T x : Addr} {us : List V} {rs : List (List Nat)} {r : List Nat} (h : RwsX H F T us rs) (h1 : x ≠ F) (h2 : x ≠ T) (h3 : H x = some (.lst (nats r))) : RwsX H F T (us ++ [.ref x]) (rs ++ [r]) := by
  refine ⟨by rw [List.length_append, List.length_append, h.1]; rfl, fun i q hq => ?_⟩
  by_cases c : i < rs.length
  · rw [List.getElem?_append_left c] at hq
    rw [List.getElem?_append_left (by rw [h.1]; exact c)]
    exact h.2 i q hq
  · have hi : i = rs.length := by
      have := (List.getElem?_eq_some_iff.mp hq).1
      rw [List.length_append, List.length_singleton] at this
      omega
    subst hi
    rw [List.getElem?_append_right (Nat.le_refl _)] at hq
    simp at hq
    subst hq
    exact ⟨x, by rw [List.getElem?_append_right (by rw [h.1]; exact Nat.le_refl _), h.1]; simp, h1, h2, h3⟩
def spCovering : Sp := fun vs H Q _ => ∃ (a : Addr) (as : List Arc) (g : Nat) (t : List Nat) (lim : Nat), vs = [.ref a, .int (g : Int), .str (SX.S t), .int (lim : Int)] ∧ ArcL H a as ∧ OkAll as ∧ as.length ≤ 200 ∧ 1 ≤ lim ∧ lim ≤ 5000 ∧ t.length ≤ 1000 ∧ (∀ H', Same H H' → Q .non H') ∧
  ∀ H' F T us rs, Same H H' → H F = none → H' F = some (.lst us) → RwsX H' F T us rs → (∀ l, l ∈ rs ↔ CovS as g t l) → Q (.ref F) H'
theorem rI0_to {g : Int → Int → V} {i j : Int} {v : V} {H : Hp} {Q : VK} (e : g i j = v) (h : Q v H) : rI0 g (.int i) (.int j) H Q := ⟨i, j, rfl, rfl, by rw [e]; exact h⟩
theorem cut_pre {x t : List Nat} : decide (V.str (cutS (SX.S x) none (some ((SX.S t).length : Int))) = V.str (SX.S t)) = decide (t <+: x) := by
  rw [SX.S_len, cutS_upto]
  refine decide_eq_decide.mpr ⟨fun h => ?_, fun h => ?_⟩
  · injection h with h
    have := S_inj h
    rw [← this]
    exact List.take_prefix _ _
  · rw [← List.prefix_iff_eq_take.mp h]
section
variable {P : Program} {w : World} {K : PySem.W.Frag} {mg : Str → Option Value} {base : Heap}
end
end J


set_option Elab.async false
set_option linter.all false
set_option maxRecDepth 100000
set_option maxHeartbeats 4000000
namespace J
open PySem L2
/-! ### what the law finds sure -/
def rowD (r : List Nat) : PyData := .list ((r.map fun n : Nat => (n : Int)).map PyData.int)
theorem lay_ints : ∀ ns : List Int, PyData.canLayAll0 (ns.map PyData.int) = true
  | [] => rfl
  | n :: r => by
    show (PyData.canLay0 (.int n) && PyData.canLayAll0 (r.map PyData.int)) = true
    rw [lay_ints r]
    rfl
theorem deep_ints : ∀ ns : List Int, PyData.depthAll (ns.map PyData.int) = 0
  | [] => rfl
  | n :: r => by
    show max (PyData.depth (.int n)) (PyData.depthAll (r.map PyData.int)) = 0
    rw [deep_ints r]
    rfl
theorem lay_rowsD : ∀ rs : List (List Nat), PyData.canLayAll0 (rs.map rowD) = true
  | [] => rfl
  | r :: rs => by
    show (PyData.canLay0 (rowD r) && PyData.canLayAll0 (rs.map rowD)) = true
    rw [lay_rowsD rs]
    show (PyData.canLayAll0 _ && true) = true
    rw [lay_ints]
    rfl
theorem deep_rowsD : ∀ rs : List (List Nat), PyData.depthAll (rs.map rowD) ≤ 1
  | [] => Nat.zero_le _
  | r :: rs => by
    show max (PyData.depthAll _ + 1) (PyData.depthAll (rs.map rowD)) ≤ 1
    rw [deep_ints]
    exact Nat.max_le.mpr ⟨Nat.le_refl _, deep_rowsD rs⟩
theorem shaped_rowsD (rs : List (List Nat)) : SeqAt.shaped (.list (rs.map rowD)) = true := by
  unfold SeqAt.shaped
  have e1 : PyData.canLay0 (.list (rs.map rowD)) = PyData.canLayAll0 (rs.map rowD) := rfl
  have e2 : PyData.depth (.list (rs.map rowD)) = PyData.depthAll (rs.map rowD) + 1 := rfl
  rw [e1, lay_rowsD, e2]
  have := deep_rowsD rs
  exact decide_eq_true (by omega)
theorem dp_rowsX {K : PySem.W.Frag} {H : Hp} {F T : Addr} : ∀ {us : List V} {rs : List (List Nat)}, RwsX H F T us rs → DpAll K H us (rs.map rowD)
  | [], [], _ => .nil
  | [], _ :: _, h => by have := h.1; simp at this
  | _ :: _, [], h => by have := h.1; simp at this
  | u :: us, r :: rs, h => by
    obtain ⟨x, h1, _, _, h4⟩ := h.2 0 r rfl
    cases h1
    exact .cons (.lst (SqL.of h4) (by rw [nats_map]; exact dp_ints _)) (dp_rowsX (F := F) (T := T) ⟨by have := h.1; simpa using this, fun i q hq => h.2 (i + 1) q hq⟩)
theorem eqv_nil6 {rs : List (List Nat)} : PyData.eqv (.list (rs.map rowD)) (.list []) = decide (rs = []) := by
  cases rs with
  | nil => rfl
  | cons r rs => rfl
theorem lcp_step {u v : List Nat} {k : Nat} {a b : Nat} (h1 : u[k]? = some a) (h2 : v[k]? = some b) (h3 : k ≤ (lcp u v).length) : a = b ↔ k < (lcp u v).length := by
  have l1 := (List.getElem?_eq_some_iff.mp h1).1
  have l2 := (List.getElem?_eq_some_iff.mp h2).1
  have e := (lcp_take (u := u) (v := v) (d := k) (by omega) (by omega)).mpr h3
  have e' := lcp_take (u := u) (v := v) (d := k + 1) (by omega) (by omega)
  rw [List.take_add_one, List.take_add_one, h1, h2, e] at e'
  constructor
  · rintro rfl
    exact e'.mp rfl
  · intro h
    have := e'.mpr h
    simpa using this
theorem cutV_to6 (xs : List V) (n : Nat) : cutV xs none (some (n : Int)) = xs.take n := by
  unfold cutV
  rw [HT.sIx_nat, HT.sIx_none]
  show (xs.drop 0).take (min n xs.length - 0) = xs.take n
  rw [List.drop_zero, Nat.sub_zero, ← List.take_take, List.take_length]
theorem cutV_from6 (xs : List V) (n : Nat) : cutV xs (some (n : Int)) none = xs.drop n := by
  unfold cutV
  rw [HT.sIx_nat, HT.sIx_none]
  show (xs.drop (min n xs.length)).take (xs.length - min n xs.length) = xs.drop n
  by_cases c : n ≤ xs.length
  · rw [Nat.min_eq_left c, List.take_of_length_le (by rw [List.length_drop]; exact Nat.le_refl _)]
  · rw [Nat.min_eq_right (by omega), List.drop_eq_nil_of_le (Nat.le_refl _), List.drop_eq_nil_of_le (by omega), List.take_nil]
theorem nats_take (r : List Nat) (n : Nat) : (nats r).take n = nats (r.take n) := by simp [nats]
def spSureL : Sp := fun vs H Q _ => ∃ (a : Addr) (as : List Arc) (g : Nat) (t : List Nat) (lim : Nat), vs = [.ref a, .int (g : Int), .str (SX.S t), .int (lim : Int)] ∧ ArcL H a as ∧ OkAll as ∧ as.length ≤ 200 ∧ 1 ≤ lim ∧ lim ≤ 5000 ∧ t.length ≤ 1000 ∧ (∀ H', Same H H' → Q .non H') ∧
  (∀ H' p, Same H H' → H p = none → H' p = some (.tup [.non]) → (¬ ∃ l, CovS as g t l) → Q (.ref p) H') ∧
  ∀ H' p x r, Same H H' → H p = none → H' p = some (.tup [.ref x]) → H' x = some (.lst (nats r)) → LcpOf (CovS as g t) r → Q (.ref p) H'
section
variable {P : Program} {w : World} {K : PySem.W.Frag} {mg : Str → Option Value} {base : Heap}
end
end J


set_option Elab.async false
set_option linter.all false
set_option maxRecDepth 100000
set_option maxHeartbeats 4000000
namespace J
open PySem L2
/-! ### plain books: what is sure of a text of words -/
def PlnA (as : List Arc) : Prop := ∀ (i j : Nat) (a b : Arc), as[i]? = some a → as[j]? = some b → a.2.1 <+: b.2.1 → i = j
theorem row_pre {as : List Arc} (pl : PlnA as) (hw : Wd6 as) : ∀ (r l : List Nat) (s : Nat), Rw as s r → Rw as s l → txA as r <+: txA as l → r <+: l
  | [], l, _, _, _, _ => List.nil_prefix
  | i :: r, [], s, h, _, p => by
    obtain ⟨a, ha, _, _⟩ := h.of
    rw [txA_cons, wdA_at ha] at p
    have := hw a (List.mem_of_getElem? ha)
    have q := p.length_le
    rw [List.length_append, show (txA as []).length = 0 from rfl] at q
    omega
  | i :: r, j :: l, s, h, k, p => by
    obtain ⟨a, ha, e1, h1⟩ := h.of
    obtain ⟨b, hb, e2, k1⟩ := k.of
    rw [txA_cons, txA_cons, wdA_at ha, wdA_at hb] at p
    have : i = j := by
      rcases pre_two p with q | q
      · exact pl i j a b ha hb q
      · exact (pl j i b a hb ha q).symm
    subst this
    rw [ha] at hb
    cases hb
    exact pre_cons.mpr (row_pre pl hw r l _ h1 k1 (pre_app.mp p))
theorem plain_sure {as : List Arc} (pl : PlnA as) (hw : Wd6 as) {s : Nat} {r : List Nat} (h : Rw as s r) (ht : txA as r ≠ []) : LcpOf (CovR as s (txA as r)) r :=
  (lcp_cov0 ht).mpr ⟨⟨r, h, List.prefix_refl _⟩, fun l ⟨h1, h2⟩ => row_pre pl hw r l s h h1 h2, fun p hp => hp r ⟨h, List.prefix_refl _⟩⟩
/-- more of the text: no less is sure -/
theorem sure_up {as : List Arc} {s : Nat} {t q w : List Nat} {k : Nat} (hk : t.take k ≠ []) (h : LcpOf (CovR as s (t.take k)) q) (h' : LcpOf (CovR as s t) w) : q <+: w := by
  have ht : t ≠ [] := fun z => hk (by rw [z, List.take_nil])
  have h1 := (lcp_cov0 hk).mp h
  have h2 := (lcp_cov0 ht).mp h'
  exact h2.2.2 q fun l ⟨a, b⟩ => h1.2.1 l ⟨a, (List.take_prefix _ _).trans b⟩
theorem txA_len12 {as : List Arc} (h : OkAll as) : ∀ r : List Nat, (txA as r).length ≤ 12 * r.length
  | [] => Nat.zero_le _
  | i :: r => by
    have ih := txA_len12 h r
    rw [txA_cons, List.length_append, List.length_cons]
    have : (wdA as i).length ≤ 12 := by
      unfold wdA
      rw [List.getD_eq_getElem?_getD]
      cases e : as[i]? with
      | none => exact Nat.zero_le _
      | some a => exact (h.2 a (List.mem_of_getElem? e)).2.2.1
    omega
theorem cov_some {as : List Arc} {s : Nat} {t row : List Nat} (ht : t ≠ []) (hr : Rw as s row) (h : t <+: txA as row) : ∃ l, CovR as s t l := (cov0_down ht ⟨hr, h⟩).imp fun _ h => h.1
theorem RdS.few {C CT CR : Addr} {as : List Arc} {s : Nat} {H : Hp} {r q d tl pl : Addr} {sg : List Nat} {us : List V} {t told : List Nat} {ds : List Addr} {S : Addr → Prop} (h : RdS C CT CR as s H r q d tl pl sg us t told ds S) (hw : Wd6 as) : told.length ≤ t.length := by
  rcases h.lcp with ⟨_, rfl⟩ | ⟨_, ⟨l, hl⟩, k, _⟩
  · exact Nat.zero_le _
  · exact Nat.le_trans (k l hl).length_le (covR_few hw hl)
theorem S_cat6 (u v : List Nat) : SX.S u ++ SX.S v = SX.S (u ++ v) := by
  show (⟨u.toArray ++ v.toArray⟩ : Str) = ⟨(u ++ v).toArray⟩
  simp
theorem eqv_ints6 : ∀ ms ns : List Nat, PyData.eqvAll ((ms.map fun n : Nat => (n : Int)).map PyData.int) ((ns.map fun n : Nat => (n : Int)).map PyData.int) = decide (ms = ns)
  | [], [] => rfl
  | [], _ :: _ => rfl
  | _ :: _, [] => rfl
  | m :: ms, n :: ns => by
    show (((m : Int) == (n : Int)) && PyData.eqvAll _ _) = _
    rw [eqv_ints6 ms ns]
    by_cases c : m = n
    · subst c
      simp
    · have c2 : ((m : Int) == (n : Int)) = false := beq_false_of_ne fun z => c (by exact_mod_cast z)
      rw [c2, Bool.false_and, decide_eq_false fun z => c (by injection z)]
theorem eq_nats6 {K : PySem.W.Frag} {H : Hp} {a b : Addr} {r r' : List Nat} {Q : VK} (ha : H a = some (.lst (nats r))) (hb : H b = some (.lst (nats r'))) (q : Q (.bl (decide (r = r'))) H) : rEqD K (.ref a) (.ref b) H Q := by
  refine ⟨_, _, .lst (SqL.of ha) (by rw [nats_map]; exact dp_ints _), .lst (SqL.of hb) (by rw [nats_map]; exact dp_ints _), PySem.W.ke_shaped_ints _, PySem.W.ke_shaped_ints _, ?_⟩
  show Q (.bl (PyData.eqvAll _ _)) H
  rw [eqv_ints6]
  exact q
theorem ne_nats6 {K : PySem.W.Frag} {H : Hp} {a b : Addr} {r r' : List Nat} {Q : VK} (ha : H a = some (.lst (nats r))) (hb : H b = some (.lst (nats r'))) (q : Q (.bl (!decide (r = r'))) H) : rNeD K (.ref a) (.ref b) H Q := by
  refine ⟨_, _, .lst (SqL.of ha) (by rw [nats_map]; exact dp_ints _), .lst (SqL.of hb) (by rw [nats_map]; exact dp_ints _), PySem.W.ke_shaped_ints _, PySem.W.ke_shaped_ints _, ?_⟩
  show Q (.bl (!PyData.eqvAll _ _)) H
  rw [eqv_ints6]
  exact q
end J


set_option Elab.async false
set_option linter.all false
set_option maxRecDepth 100000
set_option maxHeartbeats 4000000
namespace J
open PySem L2
/-! ### several readers: what one takes does not change another -/
/-- a list that is no part of a reader, and objects of other readers -/
def BadX (CR : Addr) (H : Hp) (b : Addr) : Prop := (∃ dr q s d t tl pl, H b = some (.ins CR dr (rdF q s d t tl pl))) ∨ ∃ zs, H b = some (.lst zs) ∧ (zs = [] ∨ ∃ v ∈ zs, ∀ x, v = .ref x → ∃ dr q s d t tl pl, H x = some (.ins CR dr (rdF q s d t tl pl)))
theorem badX_nats {CR : Addr} {H : Hp} {b : Addr} {told : List Nat} (h : H b = some (.lst (nats told))) : BadX CR H b := by
  refine .inr ⟨_, h, ?_⟩
  cases told with
  | nil => exact .inl rfl
  | cons n l => exact .inr ⟨.int (n : Int), by simp [nats], fun x z => by cases z⟩
theorem nobad {CR : Addr} {H : Hp} {b : Addr} {o : HO} (h : H b = some o) (h1 : ∀ dr q s d t tl pl, o ≠ .ins CR dr (rdF q s d t tl pl)) (h2 : ∀ zs, o = .lst zs → zs ≠ [] ∧ ∀ v ∈ zs, ∃ x, v = .ref x ∧ ((∃ kk, H x = some (.dK kk)) ∨ ∃ xs, H x = some (.tup xs))) : ¬ BadX CR H b := by
  rintro (⟨dr, q, s, d, t, tl, pl, e⟩ | ⟨zs, e, q⟩)
  · rw [h] at e
    injection e with e
    exact h1 _ _ _ _ _ _ _ e
  · rw [h] at e
    injection e with e
    obtain ⟨q1, q2⟩ := h2 zs e
    rcases q with q | ⟨v, q, qx⟩
    · exact q1 q
    · obtain ⟨x, ex, hx⟩ := q2 v q
      obtain ⟨dr, q, s, d, t, tl, pl, e'⟩ := qx x ex
      rcases hx with ⟨kk, hx⟩ | ⟨xs, hx⟩
      · rw [hx] at e'; cases e'
      · rw [hx] at e'; cases e'
theorem RdS.pl_ne {C CT CR : Addr} {as : List Arc} {s : Nat} {H : Hp} {r q d tl pl : Addr} {sg : List Nat} {us : List V} {t told : List Nat} {ds : List Addr} {S : Addr → Prop} (h : RdS C CT CR as s H r q d tl pl sg us t told ds S) : ¬ BadX CR H pl := by
  refine nobad h.pl_ (fun _ _ _ _ _ _ _ e => nomatch e) fun zs e => ?_
  injection e with e
  rw [← e]
  refine ⟨fun z => ?_, fun v z => ?_⟩
  · have := congrArg List.length z
    rw [List.length_map, h.dl] at this
    simp at this
  · obtain ⟨x, hx, q⟩ := List.mem_map.mp z
    obtain ⟨k, hk⟩ := List.getElem?_of_mem (List.mem_reverse.mpr hx)
    obtain ⟨kvs, es, g0, _⟩ := h.pc k x hk
    exact ⟨x, q.symm, .inl ⟨_, g0⟩⟩
theorem RdS.keep {C CT CR : Addr} {as : List Arc} {s : Nat} {H H' : Hp} {r q d tl pl : Addr} {sg : List Nat} {us : List V} {t told : List Nat} {ds : List Addr} {S : Addr → Prop} (h : RdS C CT CR as s H r q d tl pl sg us t told ds S) (B : Addr → Prop) (hB : ∀ b, B b → BadX CR H b) (k : ∀ b o, ¬ B b → H b = some o → H' b = some o) (nr : ¬ B r) (nt : ¬ B tl) : RdS C CT CR as s H' r q d tl pl sg us t told ds S := by
  have go : ∀ b o, H b = some o → (∀ dr q s d t tl pl, o ≠ .ins CR dr (rdF q s d t tl pl)) → (∀ zs, o = .lst zs → zs ≠ [] ∧ ∀ v ∈ zs, ∃ x, v = .ref x ∧ ((∃ kk, H x = some (.dK kk)) ∨ ∃ xs, H x = some (.tup xs))) → H' b = some o := fun b o e h1 h2 => k b o (fun z => nobad e h1 h2 (hB b z)) e
  have k1 : ∀ y dx ah num m z, H y = some (.ins CT dx (trF ah num m z)) → H' y = some (.ins CT dx (trF ah num m z)) := fun y dx ah num m z e => go _ _ e (fun dr q s d t tl pl w => by injection w with _ _ w; exact tr_ne_rd w) (fun _ w => nomatch w)
  have k2 : ∀ b xs, H b = some (.tup xs) → H' b = some (.tup xs) := fun b xs e => go _ _ e (fun _ _ _ _ _ _ _ w => nomatch w) (fun _ w => nomatch w)
  have k4 : ∀ b xs, H b = some (.dK xs) → H' b = some (.dK xs) := fun b xs e => go _ _ e (fun _ _ _ _ _ _ _ w => nomatch w) (fun _ w => nomatch w)
  have kp : ¬ B pl := fun z => h.pl_ne (hB _ z)
  refine ⟨h.obj.imp fun _ e => k _ _ nr e, ?_, ?_, k _ _ nt h.tl_, k _ _ kp h.pl_, h.np, h.dl, fun j dd e => (h.pc j dd e).to k1 k2 k4 fun _ z => z, h.fo.to k1, fun x l hx hl => ?_, h.lcp, h.s63, h.ch⟩
  · obtain ⟨dq, Tp, h1, h2, h3, h4, h5⟩ := h.loom
    refine ⟨dq, Tp, go _ _ h1 (fun dr q s d t tl pl w => by injection w with _ _ w; exact rd_ne_lf w.symm) (fun _ w => nomatch w), k2 _ _ h2, ⟨h3.1, fun i a ha => ?_⟩, h4, h5⟩
    obtain ⟨t, t1, t2⟩ := h3.2 i a ha
    exact ⟨t, t1, k2 _ _ t2⟩
  · obtain ⟨kvs, at_, h1, h2, h3⟩ := h.tab
    refine ⟨kvs, at_, go _ _ h1 (fun _ _ _ _ _ _ _ w => nomatch w) (fun _ w => nomatch w), h2, fun q hq => ?_⟩
    obtain ⟨e1, e2, us, e3, e4⟩ := h3 q hq
    refine ⟨e1, e2, us, go _ _ e3 (fun _ _ _ _ _ _ _ w => nomatch w) (fun zs w => ?_), e4.to fun t xs e => k2 _ _ e⟩
    injection w with w
    subst w
    refine ⟨fun z => ?_, fun v z => ?_⟩
    · have := e4.1
      rw [z] at this
      exact hq (List.length_eq_zero_iff.mp this.symm)
    · obtain ⟨i, hi⟩ := List.getElem?_of_mem z
      have il := (List.getElem?_eq_some_iff.mp hi).1
      rw [e4.1] at il
      obtain ⟨t, t1, t2⟩ := e4.2 i _ (List.getElem?_eq_getElem il)
      rw [hi] at t1
      cases t1
      exact ⟨t, rfl, .inr ⟨_, t2⟩⟩
  · obtain ⟨l', hl'⟩ := h.fo.tr x hx
    rw [← (hl'.to k1).det hl]
    exact h.old x l' hx hl'
/-- another reader has taken a sign -/
theorem RdS.other {C CT CR : Addr} {as : List Arc} {s : Nat} {H H' : Hp} {r q d tl pl r1 q1 d1 tl1 pl1 : Addr} {sg : List Nat} {us us1 : List V} {t told t1 told1 : List Nat} {ds ds1 : List Addr} {S S1 : Addr → Prop} (h : RdS C CT CR as s H r q d tl pl sg us t told ds S) (h1 : RdS C CT CR as s H r1 q1 d1 tl1 pl1 sg us1 t1 told1 ds1 S1) (u : Up2 r1 tl1 H H') (nr : r ≠ r1) (nt : tl ≠ tl1) : RdS C CT CR as s H' r q d tl pl sg us t told ds S := by
  obtain ⟨dr1, hobj1⟩ := h1.obj
  obtain ⟨dr, hobj⟩ := h.obj
  refine h.keep (fun b => b = r1 ∨ b = tl1) (fun b hb => ?_) (fun b o nb e => u b o (fun z => nb (.inl z)) (fun z => nb (.inr z)) e) (fun z => ?_) (fun z => ?_)
  · rcases hb with rfl | rfl
    · exact .inl ⟨_, _, _, _, _, _, _, hobj1⟩
    · exact badX_nats h1.tl_
  · rcases z with z | z
    · exact nr z
    · have := h1.tl_
      rw [← z, hobj] at this
      cases this
  · rcases z with z | z
    · have := h.tl_
      rw [z, hobj1] at this
      cases this
    · exact nt z
/-- draws -/
theorem RdS.exP {ns : List Int} {l p : Addr} {C CT CR : Addr} {as : List Arc} {s : Nat} {H H' : Hp} {r q d tl pl : Addr} {sg : List Nat} {us : List V} {t told : List Nat} {ds : List Addr} {S : Addr → Prop} (h : RdS C CT CR as s H r q d tl pl sg us t told ds S) (st : StAt ns l H p) (x : Ex p H H') : RdS C CT CR as s H' r q d tl pl sg us t told ds S := by
  obtain ⟨a1, a2, a3, a4, a5, _, hp, _⟩ := st
  obtain ⟨dr, hobj⟩ := h.obj
  refine h.keep (fun b => b = p) (fun b hb => ?_) (fun b o nb e => x b o nb e) (fun z => ?_) (fun z => ?_)
  · subst hb
    exact .inr ⟨_, hp, .inr ⟨.int a1, by simp [stv], fun x z => by cases z⟩⟩
  · rw [z, hp] at hobj
    cases hobj
  · have := h.tl_
    rw [z, hp] at this
    injection this with this
    injection this with this
    cases told with
    | nil => cases this
    | cons n l => injection this with this _; cases this
def spTwin (C CT CR : Addr) : Sp := fun vs H Q _ => ∃ (as : List Arc) (s : Nat) (r q d tl pl : Addr) (sg : List Nat) (us : List V) (t told : List Nat) (ds : List Addr) (S : Addr → Prop), vs = [.ref r] ∧ RdS C CT CR as s H r q d tl pl sg us t told ds S ∧
  ∀ (H' : Hp) (r2 d2 tl2 pl2 : Addr), Same H H' → H r2 = none → H tl2 = none → RdS C CT CR as s H' r2 q d2 tl2 pl2 sg us t told ds S → Q (.ref r2) H'
theorem rdF_put_told (q : Addr) (s : Nat) (d : Addr) (t : List Nat) (tl pl tl' : Addr) : putF "_told" (.ref tl') (rdF q s d t tl pl) = rdF q s d t tl' pl := by rfl
section
variable {P : Program} {w : World} {K : PySem.W.Frag} {mg : Str → Option Value} {base : Heap}
theorem ok_Reader_twin (T : Tx K mg) : FnOk P w K mg base CX0 7 T.f_Reader_twin T.fd_Reader_twin P_Reader_twin (spTwin T.C_Loom T.C_Trail T.C_Reader) := by
  have G_Reader_init : FnOk P w K mg base CX0 5 T.f_Reader_init T.fd_Reader_init P_Reader_init (spReader T.C_Loom T.C_Trail T.C_Reader) := ok_Reader_init T
  refine T.F_Reader_twin.ok sc_Reader_twin (fun vs H Q E h => ?_) (fun cdv A outer st0 H vs Q E hr h => ?_)
  · obtain ⟨as, s, r, q, d, tl, pl, sg, us, t, told, ds, S, rfl, _⟩ := h
    rfl
  · obtain ⟨as, s, r, q, d, tl, pl, sg, us, t, told, ds, S, rfl, R, k⟩ := h
    refine ⟨_, (pss_cons (ps_set (i := 1) sc_Reader_twin.nd rfl (Or.inl rfl) (pe_make T.M_Reader G_Reader_init (hr.mono (by decide)) rfl T.g_Reader T.b_Reader_init .nil pass0 (pa_cons (pe_fld (pv 0) rfl) (pa_cons (pe_fld (pv 0) rfl) pa_nil))))
        (pss_cons (ps_fld (pv 1) (pe_fld (pv 0) rfl) rfl)
        (pss_cons (ps_fld (pv 1) (pe_callTy (call_list_ofK (K := K) rfl) rfl T.n_list (by decide +kernel) (pa_cons (pe_fld (pv 0) rfl) pa_nil)) rfl)
        (pss_cons (ps_fld (pv 1) (pe_callTy (call_list_ofK (K := K) rfl) rfl T.n_list (by decide +kernel) (pa_cons (pe_fld (pv 0) rfl) pa_nil)) rfl)
        (pss_one (ps_ret (pv 1))))))), ?_⟩
    obtain ⟨dr, hobj⟩ := R.obj
    refine ⟨_, rfl, r, _, dr, _, _, rfl, hobj, T.cl_Reader, T.na_Reader__loom, rdF_loom _ _ _ _ _ _, _, rfl, r, _, dr, _, _, rfl, hobj, T.cl_Reader, T.na_Reader__state, rdF_state _ _ _ _ _ _, ?_⟩
    intro r2 dr2 hr2 hdr2 hne2
    have s1 : Same H (upd (upd H dr2 (.own r2)) r2 (.ins T.C_Reader dr2 [])) := (Same.new _ hdr2).updNew hr2
    refine ⟨r2, dr2, q, sg, us, as, s, rfl, upd_same, R.loom.same s1, R.s63, fun H1 d2 tl1 pl1 ds1 S1 x1 htl1 hpl1 R1 => ⟨rfl, ?_⟩⟩
    have sF : Same H H1 := fun b o e => x1 _ _ (ne_of_none e hr2) (s1 _ _ e)
    clear s1 htl1 hpl1 hne2 hdr2
    obtain ⟨dr3, hobj2⟩ := R1.obj
    have hobj1 := sF _ _ hobj
    have nrr : r ≠ r2 := fun z => by rw [z, hr2] at hobj; cases hobj
    refine ⟨_, rfl, r, _, dr, _, _, rfl, hobj1, T.cl_Reader, T.na_Reader__text, rdF_text _ _ _ _ _ _, _, rfl, r2, _, dr3, _, rfl, hobj2, T.cl_Reader, T.na_Reader__text, (by rw [rdF_len]; decide), ?_⟩
    rw [rdF_put_text]
    have e2 : Ex r2 H1 (upd H1 r2 (.ins T.C_Reader dr3 (rdF q s d2 t tl1 pl1))) := Ex.upd _
    have g2 : upd H1 r2 (.ins T.C_Reader dr3 (rdF q s d2 t tl1 pl1)) r2 = some (.ins T.C_Reader dr3 (rdF q s d2 t tl1 pl1)) := upd_same
    generalize upd H1 r2 (.ins T.C_Reader dr3 (rdF q s d2 t tl1 pl1)) = H2 at *
    have R1f := sF
    have tlr : tl ≠ r2 := fun z => by have := R.tl_; rw [z, hr2] at this; cases this
    have plr : pl ≠ r2 := fun z => by have := R.pl_; rw [z, hr2] at this; cases this
    refine ⟨_, rfl, r, _, dr, _, _, rfl, e2 _ _ nrr hobj1, T.cl_Reader, T.na_Reader__told, rdF_told _ _ _ _ _ _, tl, _, rfl, .inl (SqL.of (e2 _ _ tlr (sF _ _ R.tl_))), fun tl2 htl2 => ?_⟩
    have s3 := Same.new (.lst (nats told)) htl2
    have g3 : upd H2 tl2 (.lst (nats told)) tl2 = some (.lst (nats told)) := upd_same
    have n2t : tl2 ≠ r2 := hp_ne g2 htl2
    have g23 := s3 _ _ g2
    have z1 : H1 tl2 = none := by
      cases c : H1 tl2 with
      | none => rfl
      | some o => rw [e2 _ _ n2t c] at htl2; cases htl2
    generalize upd H2 tl2 (.lst (nats told)) = H3 at *
    refine ⟨_, rfl, r2, _, dr3, _, rfl, g23, T.cl_Reader, T.na_Reader__told, (by rw [rdF_len]; decide), ?_⟩
    rw [rdF_put_told]
    have e4 : Ex r2 H3 (upd H3 r2 (.ins T.C_Reader dr3 (rdF q s d2 t tl2 pl1))) := Ex.upd _
    have g4 : upd H3 r2 (.ins T.C_Reader dr3 (rdF q s d2 t tl2 pl1)) r2 = some (.ins T.C_Reader dr3 (rdF q s d2 t tl2 pl1)) := upd_same
    generalize upd H3 r2 (.ins T.C_Reader dr3 (rdF q s d2 t tl2 pl1)) = H4 at *
    refine ⟨_, rfl, r, _, dr, _, _, rfl, e4 _ _ nrr (s3 _ _ (e2 _ _ nrr hobj1)), T.cl_Reader, T.na_Reader__places, rdF_places _ _ _ _ _ _, pl, _, rfl, .inl (SqL.of (e4 _ _ plr (s3 _ _ (e2 _ _ plr (sF _ _ R.pl_))))), fun pl2 hpl2 => ?_⟩
    have s5 := Same.new (.lst (ds.map V.ref)) hpl2
    have g5 : upd H4 pl2 (.lst (ds.map V.ref)) pl2 = some (.lst (ds.map V.ref)) := upd_same
    have g45 := s5 _ _ g4
    have n2p : pl2 ≠ r2 := hp_ne g4 hpl2
    have n2q : pl2 ≠ tl2 := hp_ne (e4 _ _ n2t g3) hpl2
    generalize upd H4 pl2 (.lst (ds.map V.ref)) = H5 at *
    refine ⟨_, rfl, r2, _, dr3, _, rfl, g45, T.cl_Reader, T.na_Reader__places, (by rw [rdF_len]; decide), ?_⟩
    rw [rdF_put_places]
    have e6 : Ex r2 H5 (upd H5 r2 (.ins T.C_Reader dr3 (rdF q s d2 t tl2 pl2))) := Ex.upd _
    have g6 : upd H5 r2 (.ins T.C_Reader dr3 (rdF q s d2 t tl2 pl2)) r2 = some (.ins T.C_Reader dr3 (rdF q s d2 t tl2 pl2)) := upd_same
    generalize upd H5 r2 (.ins T.C_Reader dr3 (rdF q s d2 t tl2 pl2)) = H6 at *
    have m1 : ∀ b o, b ≠ r2 → H1 b = some o → H6 b = some o := fun b o n e => e6 _ _ n (s5 _ _ (e4 _ _ n (s3 _ _ (e2 _ _ n e))))
    have mH : Same H H6 := fun b o e => m1 _ _ (ne_of_none e hr2) (sF _ _ e)
    have RH := R.same mH
    have htl0 : H tl2 = none := sF.free z1
    refine ⟨_, rfl, k H6 r2 d2 tl2 pl2 mH hr2 htl0 ⟨⟨dr3, g6⟩, R.loom.same mH, ?_, e6 _ _ n2t (s5 _ _ (e4 _ _ n2t g3)), e6 _ _ n2p g5, n2q, R.dl, RH.pc, RH.fo, RH.old, R.lcp, R.s63, R.ch⟩⟩
    obtain ⟨kvs, at_, h1, h2, h3⟩ := R1.tab
    refine ⟨kvs, at_, m1 _ _ (fun z => by rw [z, hobj2] at h1; cases h1) h1, h2, fun q' hq => ?_⟩
    obtain ⟨f1, f2, us', f3, f4⟩ := h3 q' hq
    refine ⟨f1, (fun z => by rw [z, z1] at f3; cases f3), us', m1 _ _ (fun z => by rw [z, hobj2] at f3; cases f3) f3, f4.to fun t' xs e => m1 _ _ (fun z => by rw [z, hobj2] at e; cases e) e⟩
end
end J


set_option Elab.async false
set_option linter.all false
set_option maxRecDepth 100000
set_option maxHeartbeats 4000000
namespace J
open PySem L2
theorem exm_own {K : PySem.W.Frag} {D : Addr} (b : PySem.W.subIn K (.ref D) (.type "BaseException") = some true) (c : PySem.W.isClsIn K D = true) (t : PySem.W.typeIn K (.ref D) = some (.type "type")) (q : PySem.W.subIn K (.ref D) (.ref D) = some true) :
    PySem.W.exmOne K (.ref D) (.ref D) = some true := by
  have c' : (PySem.W.clsIn K D).isSome = true := c
  unfold PySem.W.exmOne
  simp [b, c', t, q, PySem.W.kitCls]
theorem exm_no {K : PySem.W.Frag} {D D' : Addr} (b : PySem.W.subIn K (.ref D) (.type "BaseException") = some true) (c : PySem.W.isClsIn K D = true) (t : PySem.W.typeIn K (.ref D) = some (.type "type")) (q : PySem.W.subIn K (.ref D') (.ref D) = some false) :
    PySem.W.exmOne K (.ref D') (.ref D) = some false := by
  have c' : (PySem.W.clsIn K D).isSome = true := c
  unfold PySem.W.exmOne
  simp [b, c', t, q, PySem.W.kitCls]
/-- taken, stuck or refused -/
def spLTake (K : PySem.W.Frag) (C CT CR : Addr) : Sp := fun vs H Q _ => ∃ (as : List Arc) (s : Nat) (r q d tl pl : Addr) (sg : List Nat) (us : List V) (t told : List Nat) (ds : List Addr) (S : Addr → Prop) (x : V), vs = [.ref r, x] ∧ RdS C CT CR as s H r q d tl pl sg us t told ds S ∧ t.length < 1999 ∧ told.length < 90000 ∧
  ((BadOn K sg H x ∧ ∀ H' w, Same H H' → H w = none → H' w = some (.tup [.str "text"]) → Q (.ref w) H') ∨ ∃ c : Nat, x = .str (SX.S [c]) ∧ c ∈ sg ∧
    ((¬ ∃ l, CovR as s (t ++ [c]) l) → ∀ H' w, Same H H' → H w = none → H' w = some (.tup [.str "stuck"]) → Q (.ref w) H') ∧
    ((∃ l, CovR as s (t ++ [c]) l) → ∀ (H' : Hp) (w nl pl' : Addr) (ds' : List Addr) (S' : Addr → Prop) (told' : List Nat), Up2 r tl H H' → H w = none → H' w = some (.tup [.str "told", .ref nl]) → H nl = none → H' nl = some (.lst (nats (told'.drop told.length))) → told <+: told' → RdS C CT CR as s H' r q d tl pl' sg us (t ++ [c]) told' ds' S' → Q (.ref w) H'))
section
variable {P : Program} {w : World} {K : PySem.W.Frag} {mg : Str → Option Value} {base : Heap}
theorem ok_l_take (T : Tx K mg) : FnOk P w K mg base CX0 6 T.f_l_take T.fd_l_take P_l_take (spLTake K T.C_Loom T.C_Trail T.C_Reader) := by
  have G_Reader_take : FnOk P w K mg base (L2.CX P w) 5 T.f_Reader_take T.fd_Reader_take P_Reader_take (spTakeX K T.C_Loom T.C_Trail T.C_Reader T.C_InvalidText T.C_Stuck) := ok_Reader_take T
  refine T.F_l_take.ok sc_l_take (fun vs H Q E h => ?_) (fun cdv A outer st0 H vs Q E hr h => ?_)
  · obtain ⟨as, s, r, q, d, tl, pl, sg, us, t, told, ds, S, x, rfl, _⟩ := h
    rfl
  · obtain ⟨as, s, r, q, d, tl, pl, sg, us, t, told, ds, S, x, rfl, R, ht, hto, h⟩ := h
    refine ⟨_, pss_cons (ps_try_cls (Wout := fun _ _ _ _ => False) rfl rfl takes0
      (fun W pn xe tk _ => pss_one (ps_set (i := 2) sc_l_take.nd rfl (Or.inl rfl) (by exact (pe_tup (pa_cons pe_str (pa_cons (pe_methX (pv 0) T.cl_Reader T.me_Reader_take G_Reader_take (hr.mono (by decide)) T.b_Reader_take (fun σ => passAt tk σ) (pa_cons (pv 1) pa_nil)) pa_nil))))))
      (.plain ⟨rfl, by decide, Or.inl T.g_Stuck⟩ (fun g oe cls d pn hz hf => pss_one (ps_set (i := 2) sc_l_take.nd rfl (Or.inl rfl) (by exact (pe_tup (pa_cons pe_str pa_nil)))))
      (.plain ⟨rfl, by decide, Or.inl T.g_InvalidText⟩ (fun g oe cls d pn hz hf => pss_one (ps_set (i := 2) sc_l_take.nd rfl (Or.inl rfl) (by exact (pe_tup (pa_cons pe_str pa_nil))))) .nil)))
      (pss_one (ps_ret (pv 2))), ?_⟩
    obtain ⟨dr, hobj⟩ := R.obj
    refine ⟨_, rfl, r, dr, _, rfl, hobj, rfl, _, rfl, as, s, r, q, d, tl, pl, sg, us, t, told, ds, S, x, rfl, R, ht, hto, ?_⟩
    rcases h with ⟨hb, k⟩ | ⟨c, rfl, hc, kS, k⟩
    · refine .inl ⟨hb, fun H1 s1 => ?_⟩
      refine ⟨false, exm_no T.E_Stuck.hs T.cl_Stuck T.ty_Stuck T.su_InvalidText_Stuck, fun e => Bool.noConfusion e, fun _ => ⟨true, exm_own T.E_InvalidText.hs T.cl_InvalidText T.ty_InvalidText T.su_InvalidText_InvalidText, fun _ g hg => ?_, fun e => Bool.noConfusion e⟩⟩
      refine ⟨le_size (by simp), fun w hw => ?_⟩
      exact ⟨_, rfl, k _ w (s1.trans (Same.new _ hw)) (s1.free hw) upd_same⟩
    · refine .inr ⟨c, rfl, hc, fun hn H1 s1 => ?_, fun hcov H1 nl pl' ds' S' told' U hnl gnl nnl ppre rs' => ?_⟩
      · refine ⟨true, exm_own T.E_Stuck.hs T.cl_Stuck T.ty_Stuck T.su_Stuck_Stuck, fun _ g hg => ?_, fun e => Bool.noConfusion e⟩
        refine ⟨le_size (by simp), fun w hw => ?_⟩
        exact ⟨_, rfl, kS hn _ w (s1.trans (Same.new _ hw)) (s1.free hw) upd_same⟩
      · refine ⟨le_size (by simp), fun w hw => ?_⟩
        have sw := Same.new (.tup [V.str "told", V.ref nl]) hw
        have hw0 : H w = none := by
          cases e : H w with
          | none => rfl
          | some o =>
            obtain ⟨dr', hobj'⟩ := rs'.obj
            by_cases n1 : w = r
            · rw [n1, hobj'] at hw; cases hw
            · by_cases n2 : w = tl
              · rw [n2, rs'.tl_] at hw; cases hw
              · rw [U _ _ n1 n2 e] at hw; cases hw
        exact ⟨_, rfl, k hcov _ w nl pl' ds' S' told' (fun b o n1 n2 e => sw _ _ (U _ _ n1 n2 e)) hw0 upd_same hnl (sw _ _ gnl) ppre (rs'.same sw)⟩
end
end J


set_option Elab.async false
set_option linter.all false
set_option maxRecDepth 100000
set_option maxHeartbeats 4000000
namespace PySem
namespace ExX
section
variable {prog : Program} {w : World} {A : Around} {E : Value → Shared → Prop} {R : Result → Shared → Prop} {s : Shared} {K : W.Frag} {mg : Str → Option Value} {C fI : Addr}
open PySem.W PySem.Calls PyProof.Rows PySem.HandSPX
theorem init_InvalidLoom (T : ExcT K mg C fI "InvalidLoom" ["part", "at"] "InvalidLoom.__init__" J.s_InvalidLoom_init) {x t0 : Addr} {v0 v1 : Value} (X : K.In s.heap) (hlim : s.heap.NoLimit) (hx : s.heap.get? x = some (excO C t0)) (hnx : K.lookup x = none) (hroom : A.depth < recursionLimit)
    (hq : ∀ h' tk dx, (∀ b o, b ≠ x → s.heap.get? b = some o → h'.get? b = some o) → h'.get? x = some { cls := .ref C, dict := some dx, data := .fields #[.ref t0, .none, .none, .none, .bool false, .none] } → s.heap.objs.size ≤ dx → dx ≠ x →
      h'.Ns1 dx (fun y => if y = "at" then some v1 else if y = "part" then some v0 else none) → R (.ok (.ret .none)) { s with heap := h', toks := tk }) :
    codeAny (model prog w) A (.call (.ref fI) ⟨[.ref x, v0, v1], []⟩) R s := by
  obtain ⟨oc, od, kV, doc, pm, an, cdv, ct, osl, ho, hcd⟩ := T.fn
  obtain ⟨nm, q, N, bs, bm, sn, sub, ab, col, dd, k0, k1, k2, k3, k5, hC, hbm⟩ := T.cls
  have hcl : clsIn K C = some { name := nm, bases := bs, mro := .ref C :: bm, ns := N, qualname := q, hasDict := true, slotNames := sn, subclasses := sub, abstract := ab, collection := col, hasDel := false } := by unfold clsIn; rw [hC] <;> rfl
  refine Att.call_fn (binds := [("self", .ref x), ("part", v0), ("at", v1)]) X hlim ho hcd hroom (BindsTo.of_eq (by first | rfl | with_unfolding_all rfl)) (by first | rfl | decide | with_unfolding_all rfl) (fun s₁ IC => ?_) rfl rfl rfl
  obtain ⟨h₁, tk₁, rfl⟩ := IC.toInCall.same
  have k : ∀ b o, s.heap.get? b = some o → h₁.get? b = some o := IC.toInCall.keep
  have hn := IC.toInCall.ns
  have hxL : s.heap.objs.size ≠ x := Nat.ne_of_gt (Heap.lt_size hx)
  have X₁ : K.In h₁ := X.keeps k
  have hx₁ := k _ _ hx
  have z : s.heap.objs.size < h₁.objs.size := hn.lt
  show wpAny _ _ (execs _ _) _ _ _
  refine wpAny_execs_cons (plainObj_wpAny_Assign_Attribute ?_)
  refine ldC (v := v0) hn (by first | rfl | with_unfolding_all rfl | kernel_rfl) (ldC (v := .ref x) hn (by first | rfl | with_unfolding_all rfl | kernel_rfl) ?_)
  refine set_plain X₁ (ox := excO C t0) (od := none) ⟨hx₁, rfl, rfl, trivial⟩ T.sa ?_
  refine osa_new X₁ hx₁ hcl (show refsEX (.ref C :: bm) = true from hbm) rfl (T.no "part" (by simp)) (fun h₃ tk₃ dx k₃ dn dne hx₃ hn₃ => ?_)
  show wpAny _ _ (execs _ _) _ _ _
  have X₃ : K.In h₃ := fun b o e => k₃ b o (fun q => by rw [q, hnx] at e; cases e) (X₁ b o e)
  have hn3 := hn.at fun o q => k₃ _ o hxL q
  refine wpAny_execs_cons (plainObj_wpAny_Assign_Attribute ?_)
  refine ldC (v := v1) hn3 (by first | rfl | with_unfolding_all rfl | kernel_rfl) (ldC (v := .ref x) hn3 (by first | rfl | with_unfolding_all rfl | kernel_rfl) ?_)
  obtain ⟨oD, esD, epD, hoD, hdD, _⟩ := hn₃.count (Within.cons "part" v0 Within.nil)
  refine set_plain X₃ (ox := { cls := .ref C, dict := some dx, data := .fields #[.ref t0, .none, .none, .none, .bool false, .none] }) (od := some oD) ⟨hx₃, rfl, rfl, hoD⟩ T.sa ?_
  refine osa_old X₃ hx₃ hn₃ (Within.cons "part" v0 Within.nil) (by decide) hcl (show refsEX (.ref C :: bm) = true from hbm) rfl (T.no "at" (by simp)) (fun h₄ tk₄ k₄ hn₄ => ?_)
  show wpAny _ _ (execs _ _) _ _ _
  have low : ∀ b o, s.heap.get? b = some o → b ≠ dx := fun b o e q => by
    have lt := Heap.lt_size e
    rw [q] at lt
    exact absurd lt (Nat.not_lt.mpr (Nat.le_of_lt (Nat.lt_of_lt_of_le z dn)))
  exact wpAny_execs_nil (hq h₄ tk₄ dx (fun b o hb e => k₄ b o (low b o e) (k₃ b o hb (k b o e))) (k₄ _ _ dne.symm hx₃) (Nat.le_of_lt (Nat.lt_of_lt_of_le z dn)) dne hn₄)
theorem made_InvalidLoom (T : ExcT K mg C fI "InvalidLoom" ["part", "at"] "InvalidLoom.__init__" J.s_InvalidLoom_init) {v0 v1 : Value} (X : K.In s.heap) (hlim : s.heap.NoLimit) (hroom : A.depth + 1 < recursionLimit)
    (hq : ∀ h' tk e d, OwnMade s.heap h' e C d (fun y => if y = "at" then some v1 else if y = "part" then some v0 else none) → R (.ok (.ret (.ref e))) { s with heap := h', toks := tk }) :
    codeAny (model prog w) A (.call (.ref C) ⟨[v0, v1], []⟩) R s := by
  obtain ⟨nm, q, N, bs, bm, sn, sub, ab, col, dd, k0, k1, k2, k3, k5, hC, hbm⟩ := T.cls
  obtain ⟨hp, g, dr, tk, os⟩ := s
  have k : ∀ b o, hp.get? b = some o → ((hp.push (kdv_tup [v0, v1])).push (excO C hp.objs.size)).get? b = some o := fun b o e => Heap.get?_push_of_some _ (Heap.get?_push_of_some _ e)
  have hget : ((hp.push (kdv_tup [v0, v1])).push (excO C hp.objs.size)).get? (hp.objs.size + 1) = some (excO C hp.objs.size) := by heap_get
  have hnx : K.lookup (hp.objs.size + 1) = none := by
    cases e : K.lookup (hp.objs.size + 1) with
    | none => rfl
    | some o =>
      have z : hp.get? (hp.objs.size + 1) = some o := X _ _ e
      exact absurd (Nat.lt_of_succ_lt (Heap.lt_size z)) (Nat.lt_irrefl _)
  refine call_own F.excBase_Exception (fun X => refsEX_contains X bm hbm) (X _ _ hC) (looks_findIn X T.iC) (fun self => bind_fn X self T.tC) (by show 2 ≤ sizeLine; rw [sizeLine_eq]; decide) ?_
  refine init_InvalidLoom (s := ⟨(hp.push (kdv_tup [v0, v1])).push (excO C hp.objs.size), g, dr, tk, os⟩) T (X.keeps k) (hlim.keeps k) hget hnx ?_ fun h' tk' dx k' hx dn dne hns => ?_
  · show A.depth + 1 < recursionLimit
    exact hroom
  · have old : ∀ b o, hp.get? b = some o → h'.get? b = some o := fun b o e => k' b o (Nat.ne_of_lt (Nat.lt_succ_of_lt (Heap.lt_size e))) (k b o e)
    have z : hp.objs.size + 1 + 1 ≤ dx := by
      first
        | (simpa only [Heap.size_push] using dn)
        | exact dn
        | (have q := dn; rw [Heap.size_push, Heap.size_push] at q; exact q)
    exact ⟨rfl, hq h' tk' (hp.objs.size + 1) dx ⟨old, Nat.le_succ _, ⟨_, _, hx, rfl, rfl, rfl, rfl⟩, Nat.le_trans (Nat.le_trans (Nat.le_succ _) (Nat.le_succ _)) z, dne, hns⟩⟩
end
end ExX
end PySem
namespace L2
open PySem PySem.Spec PyProof.Rows PySem.ExX
def fs_InvalidLoom (x0 x1 : V) : List (Str × V) := [(("at" : Str), x1), (("part" : Str), x0)]
theorem rel_InvalidLoom {x0 x1 : V} {v0 v1 : Value} (r0 : RelV x0 v0) (r1 : RelV x1 v1) (f : Str) : RelO (List.lookup f (fs_InvalidLoom x0 x1)) ((fun y : Str => if y = "at" then some v1 else if y = "part" then some v0 else none) f) := by
  unfold fs_InvalidLoom
  exact (fun g => relO_put (f := "at") r1 (fun g => relO_put (f := "part") (fs := []) (mA := fun _ => none) r0 (fun _ => trivial) g) g) f
section
variable {X : Cx} {C fI : Addr} {es : List Expr} {e : Expr} {ta : TA} {p pos : Pos} {k : Nat}
def tV_InvalidLoom (C : Addr) (ta : TA) : TE := fun σ H Q => ta σ H fun vs H1 => ∃ x0 x1, vs = [x0, x1] ∧ ∀ e d, H1 e = none → H1 d = none → d ≠ e → Q (.ref e) (upd (upd H1 d (.xd (fs_InvalidLoom x0 x1))) e (ExD C d e))
/-- InvalidLoom(..) as a value -/
theorem pe_InvalidLoom (T : ExcT X.K X.mg C fI "InvalidLoom" ["part", "at"] "InvalidLoom.__init__" J.s_InvalidLoom_init) (hr : Room k X.A) (ha : PA X (e :: es) ta) (hg : Gl X "InvalidLoom" := by rfl)
    (he : starEach (e :: es) X.env = (false, eval e X.env) :: starEach es X.env := by rfl) (hpl : (backTo pos (starEach es X.env)).any (·.1) = false := by rfl) :
    PE X (.Call (.Name "InvalidLoom" p) (e :: es) [] pos) (tV_InvalidLoom C ta) := by
  refine ⟨fun pins s σ H Q I h => ?_⟩
  refine wpAny_Call_Name_kw (ld_glob I hg T.gC ?_)
  refine PySem.W.callWith_K (h₀ := X.base) I.ok.mod.kin T.kC (thn (ha.run pos pins s σ H _ I h) fun us s1 hh => ?_) he hpl
  obtain ⟨vs, H1, I1, r1, x0, x1, ev, q1⟩ := hh
  subst ev
  refine ⟨I1.kIn, ?_⟩
  cases r1 with
  | cons r0 rn =>
  cases rn with
  | cons r1 rn =>
  cases rn
  have hlim := I1.nolimit
  obtain ⟨hp, g, dr, tk, os⟩ := s1
  refine wpAny_call (made_InvalidLoom T I1.kIn hlim (by have := hr.dp; omega) fun h' tk' e d M => ?_)
  exact ⟨.ref e, _, own_value (tk' := tk') I1 M (rel_InvalidLoom r0 r1), rfl, q1 e d (I1.hok.fresh M.new) (I1.hok.fresh M.dbig) M.dne⟩
def tMk_InvalidLoom (C : Addr) (ta : TA) : St → Hp → XK → Prop := fun σ H Q => ta σ H fun vs H1 => ∃ x0 x1, vs = [x0, x1] ∧ ∀ d, H1 d = none → Q (.ref C) (some d) (upd H1 d (.xd (fs_InvalidLoom x0 x1)))
/-- InvalidLoom(..) to be raised -/
theorem pmk_InvalidLoom (T : ExcT X.K X.mg C fI "InvalidLoom" ["part", "at"] "InvalidLoom.__init__" J.s_InvalidLoom_init) (hr : Room k X.A) (ha : PA X (e :: es) ta) (hg : Gl X "InvalidLoom" := by rfl)
    (he : starEach (e :: es) X.env = (false, eval e X.env) :: starEach es X.env := by rfl) (hpl : (backTo pos (starEach es X.env)).any (·.1) = false := by rfl) :
    PMk X (.Call (.Name "InvalidLoom" p) (e :: es) [] pos) (tMk_InvalidLoom C ta) := by
  intro pins s σ H Q I h
  refine wpAny_Call_Name_kw (ld_glob I hg T.gC ?_)
  refine PySem.W.callWith_K (h₀ := X.base) I.ok.mod.kin T.kC (thn (ha.run pos pins s σ H _ I h) fun us s1 hh => ?_) he hpl
  obtain ⟨vs, H1, I1, r1, x0, x1, ev, q1⟩ := hh
  subst ev
  refine ⟨I1.kIn, ?_⟩
  cases r1 with
  | cons r0 rn =>
  cases rn with
  | cons r1 rn =>
  cases rn
  have hlim := I1.nolimit
  obtain ⟨hp, g, dr, tk, os⟩ := s1
  refine wpAny_call (made_InvalidLoom T I1.kIn hlim (by have := hr.dp; omega) fun h' tk' e d M => ?_)
  exact own_raise (tk' := tk') I1 M (rel_InvalidLoom r0 r1) (raises_own T.exC T.tyC) q1
end
end L2

set_option Elab.async false
set_option linter.all false
set_option maxRecDepth 100000
set_option maxHeartbeats 4000000
namespace J
open PySem L2
theorem arcs_one {H : Hp} {t : Addr} (h : H t = some (.tup [V.int 0, V.str "a", V.int 0])) : Arcs H [V.ref t] [(0, [97], 0)] := by
  refine ⟨rfl, fun i a e => ?_⟩
  cases i with
  | zero => cases e; exact ⟨t, rfl, h⟩
  | succ j => simp at e
theorem okw_one : OkW [97] [(0, [97], 0)] := by
  refine ⟨by decide, by decide, fun a ha => ?_⟩
  rw [List.mem_singleton.mp ha]
  exact ⟨by decide, ⟨by decide, by decide, by decide⟩, by decide⟩
theorem sig_one : Signs [97] := by unfold Signs; decide
theorem kit_cls {K : PySem.W.Frag} {C : Addr} {s : String} (hm : PySem.W.kitMeta s = true) (h : PySem.W.subIn K (.ref C) (.type s) = some false) : PySem.W.kitOne K (.ref C) (.type s) = some false := by
  unfold PySem.W.kitOne
  have e : ¬ ((Value.ref C == Value.type s) = true) := fun z => nomatch (eq_of_beq z)
  rw [if_neg e]
  show (if PySem.W.kitMeta s = true then PySem.W.subIn K (.ref C) (.type s) else none) = some false
  rw [if_pos hm]
  exact h
theorem sig_low {sg : List Nat} (h : Signs sg) : ∀ x ∈ sg, 97 ≤ x ∧ x ≤ 122 := by
  revert sg; unfold Signs; decide
theorem noSig {sg t : List Nat} (h : Signs sg) (c : Nat) (hc : c ∈ t) (hn : ¬ (97 ≤ c ∧ c ≤ 122)) : ¬ (t.length = 1 ∧ ∀ c ∈ t, c ∈ sg) := fun q => hn (sig_low h c (q.2 c hc))
/-- a thing that is no sign, whatever is drawn later -/
def OddS (K : PySem.W.Frag) (p : Addr) (H : Hp) (x : V) : Prop := ∀ sg, Signs sg → ∀ H', Ex p H H' → BadOn K sg H' x
theorem AllS.nil {K : PySem.W.Frag} {p : Addr} {H : Hp} : ∀ v ∈ ([] : List V), OddS K p H v := fun x hx => nomatch hx
theorem AllS.cons {K : PySem.W.Frag} {p : Addr} {H : Hp} {x : V} {xs : List V} (h : OddS K p H x) (t : ∀ v ∈ xs, OddS K p H v) : ∀ v ∈ (x :: xs), OddS K p H v := fun y hy => by
  rcases List.mem_cons.mp hy with rfl | h'
  · exact h
  · exact t y h'
def spOdd (K : PySem.W.Frag) (ns : List Int) : Sp := fun vs H Q _ => ∃ (p l : Addr), vs = [.ref p] ∧ StAt ns l H p ∧ ∀ (H' : Hp) (x : V), Ex p H H' → StAt ns l H' p → OddS K p H' x → Q x H'
section
variable {P : Program} {w : World} {K : PySem.W.Frag} {mg : Str → Option Value} {base : Heap}
theorem ok_l_odd (T : Tx K mg) (ns : List Int) : FnOk P w K mg base CX0 6 T.f_l_odd T.fd_l_odd P_l_odd (spOdd K ns) := by
  have G_l_draw : FnOk P w K mg base CX0 1 T.f_l_draw T.fd_l_draw P_l_draw (spDraw ns) := ok_l_draw T ns
  have G_Loom_init : FnOk P w K mg base CX0 4 T.f_Loom_init T.fd_Loom_init P_Loom_init (spInit T.C_Loom) := ok_Loom_init T
  refine T.F_l_odd.ok sc_l_odd (fun vs H Q E h => ?_) (fun cdv A outer s H vs Q E hr h => ?_)
  · obtain ⟨p, l, rfl, _⟩ := h
    rfl
  · obtain ⟨p, l, rfl, hst, k⟩ := h
    refine ⟨_, (pss_cons (ps_set (i := 1) sc_l_odd.nd rfl (Or.inl rfl) (pe_lst (pa_cons pe_non (pa_cons pe_bl (pa_cons pe_bl (pa_cons (pe_un un_neg pe_int) (pa_cons pe_int (pa_cons pe_str (pa_cons pe_str (pa_cons pe_str (pa_cons (pe_tup pa_nil) (pa_cons (pe_lst pa_nil) (pa_cons pe_dnewK (pa_cons (pe_lst (pa_cons (pe_lst (pa_cons pe_int pa_nil)) pa_nil)) (pa_cons (pe_tup (pa_cons pe_int (pa_cons pe_int (pa_cons pe_int pa_nil)))) (pa_cons (pe_disp (pps_cons pe_str pe_int pps_nil) rfl rfl (by simp) (by decide)) (pa_cons (pe_lst (pa_cons pe_non pa_nil)) (pa_cons (pe_tup (pa_cons pe_str pa_nil)) (pa_cons (pe_op op_pow pe_int pe_int) pa_nil)))))))))))))))))))
        (pss_cons (ps_set (i := 1) sc_l_odd.nd rfl (Or.inl rfl) (pe_op op_cat (pv 1) (pe_lst (pa_cons (pe_make T.M_Loom G_Loom_init (hr.mono (by decide)) rfl T.g_Loom T.b_Loom_init .nil pass0 (pa_cons pe_str (pa_cons (pe_lst (pa_cons (pe_tup (pa_cons pe_int (pa_cons pe_str (pa_cons pe_int pa_nil)))) pa_nil)) pa_nil))) (pa_cons (pe_lst (pa_cons (pe_make T.M_Loom G_Loom_init (hr.mono (by decide)) rfl T.g_Loom T.b_Loom_init .nil pass0 (pa_cons pe_str (pa_cons (pe_lst (pa_cons (pe_tup (pa_cons pe_int (pa_cons pe_str (pa_cons pe_int pa_nil)))) pa_nil)) pa_nil))) pa_nil)) (pa_cons (pe_InvalidLoom (k := 3) T.X_InvalidLoom (hr.mono (by decide)) (pa_cons pe_str (pa_cons (pe_un un_neg pe_int) pa_nil))) (pa_cons pe_str (pa_cons pe_str (pa_cons (pe_lst (pa_cons (pe_lst (pa_cons (pe_lst (pa_cons (pe_lst pa_nil) pa_nil)) pa_nil)) pa_nil)) pa_nil)))))))))
        (pss_one (ps_ret (pe_ix (ix_listK (K := K) rfl) (pv 1) (pe_call G_l_draw (hr.mono (by decide)) rfl T.m_l_draw T.F_l_draw.kp T.b_l_draw .nil pass0 (pa_cons (pv 0) (pa_cons (pe_callB (call_len_seqK (K := K) rfl) rfl T.n_len (by decide +kernel) (pa_cons (pv 1) pa_nil)) pa_nil))) (fun _ _ => rfl)))))), ?_⟩
    refine ⟨_, rfl, ?_⟩
    have sm0 : Same H H := fun _ _ e => e
    refine ⟨le_size (by simp), fun a1 h1 => ?_⟩
    have p1 := ((hst.same sm0).ne h1).1
    have s1 : Same H (upd H a1 (HO.tup [])) := Same.new _ h1
    have g1 : upd H a1 (HO.tup []) a1 = some (HO.tup []) := upd_same
    generalize upd H a1 (HO.tup []) = H1 at *
    have sm1 : Same H H1 := sm0.trans s1
    refine ⟨le_size (by simp), fun a2 h2 => ?_⟩
    have p2 := ((hst.same sm1).ne h2).1
    have s2 : Same H1 (upd H1 a2 (HO.lst [])) := Same.new _ h2
    have g2 : upd H1 a2 (HO.lst []) a2 = some (HO.lst []) := upd_same
    generalize upd H1 a2 (HO.lst []) = H2 at *
    replace g1 := s2 _ _ g1
    have sm2 : Same H H2 := sm1.trans s2
    intro a3 h3
    have p3 := ((hst.same sm2).ne h3).1
    have s3 : Same H2 (upd H2 a3 (HO.dK [])) := Same.new _ h3
    have g3 : upd H2 a3 (HO.dK []) a3 = some (HO.dK []) := upd_same
    generalize upd H2 a3 (HO.dK []) = H3 at *
    replace g1 := s3 _ _ g1
    replace g2 := s3 _ _ g2
    have sm3 : Same H H3 := sm2.trans s3
    refine ⟨le_size (by simp), fun a4 h4 => ?_⟩
    have p4 := ((hst.same sm3).ne h4).1
    have s4 : Same H3 (upd H3 a4 (HO.lst [V.int 0])) := Same.new _ h4
    have g4 : upd H3 a4 (HO.lst [V.int 0]) a4 = some (HO.lst [V.int 0]) := upd_same
    generalize upd H3 a4 (HO.lst [V.int 0]) = H4 at *
    replace g1 := s4 _ _ g1
    replace g2 := s4 _ _ g2
    replace g3 := s4 _ _ g3
    have sm4 : Same H H4 := sm3.trans s4
    refine ⟨le_size (by simp), fun a5 h5 => ?_⟩
    have p5 := ((hst.same sm4).ne h5).1
    have s5 : Same H4 (upd H4 a5 (HO.lst [V.ref a4])) := Same.new _ h5
    have g5 : upd H4 a5 (HO.lst [V.ref a4]) a5 = some (HO.lst [V.ref a4]) := upd_same
    generalize upd H4 a5 (HO.lst [V.ref a4]) = H5 at *
    replace g1 := s5 _ _ g1
    replace g2 := s5 _ _ g2
    replace g3 := s5 _ _ g3
    replace g4 := s5 _ _ g4
    have sm5 : Same H H5 := sm4.trans s5
    refine ⟨le_size (by simp), fun a6 h6 => ?_⟩
    have p6 := ((hst.same sm5).ne h6).1
    have s6 : Same H5 (upd H5 a6 (HO.tup [V.int 0, V.int 1, V.int 2])) := Same.new _ h6
    have g6 : upd H5 a6 (HO.tup [V.int 0, V.int 1, V.int 2]) a6 = some (HO.tup [V.int 0, V.int 1, V.int 2]) := upd_same
    generalize upd H5 a6 (HO.tup [V.int 0, V.int 1, V.int 2]) = H6 at *
    replace g1 := s6 _ _ g1
    replace g2 := s6 _ _ g2
    replace g3 := s6 _ _ g3
    replace g4 := s6 _ _ g4
    replace g5 := s6 _ _ g5
    have sm6 : Same H H6 := sm5.trans s6
    intro a7 h7
    refine ⟨upd_same, [(.inr "a", V.int 1)], rfl, by decide, ?_⟩
    rw [upd_upd]
    have p7 := ((hst.same sm6).ne h7).1
    have s7 : Same H6 (upd H6 a7 (HO.dK (mergeK [] [(Sum.inr "a", V.int 1)]))) := Same.new _ h7
    have g7 : upd H6 a7 (HO.dK (mergeK [] [(Sum.inr "a", V.int 1)])) a7 = some (HO.dK (mergeK [] [(Sum.inr "a", V.int 1)])) := upd_same
    generalize upd H6 a7 (HO.dK (mergeK [] [(Sum.inr "a", V.int 1)])) = H7 at *
    replace g1 := s7 _ _ g1
    replace g2 := s7 _ _ g2
    replace g3 := s7 _ _ g3
    replace g4 := s7 _ _ g4
    replace g5 := s7 _ _ g5
    replace g6 := s7 _ _ g6
    have sm7 : Same H H7 := sm6.trans s7
    refine ⟨le_size (by simp), fun a8 h8 => ?_⟩
    have p8 := ((hst.same sm7).ne h8).1
    have s8 : Same H7 (upd H7 a8 (HO.lst [V.non])) := Same.new _ h8
    have g8 : upd H7 a8 (HO.lst [V.non]) a8 = some (HO.lst [V.non]) := upd_same
    generalize upd H7 a8 (HO.lst [V.non]) = H8 at *
    replace g1 := s8 _ _ g1
    replace g2 := s8 _ _ g2
    replace g3 := s8 _ _ g3
    replace g4 := s8 _ _ g4
    replace g5 := s8 _ _ g5
    replace g6 := s8 _ _ g6
    replace g7 := s8 _ _ g7
    have sm8 : Same H H8 := sm7.trans s8
    refine ⟨le_size (by simp), fun a9 h9 => ?_⟩
    have p9 := ((hst.same sm8).ne h9).1
    have s9 : Same H8 (upd H8 a9 (HO.tup [V.str "a"])) := Same.new _ h9
    have g9 : upd H8 a9 (HO.tup [V.str "a"]) a9 = some (HO.tup [V.str "a"]) := upd_same
    generalize upd H8 a9 (HO.tup [V.str "a"]) = H9 at *
    replace g1 := s9 _ _ g1
    replace g2 := s9 _ _ g2
    replace g3 := s9 _ _ g3
    replace g4 := s9 _ _ g4
    replace g5 := s9 _ _ g5
    replace g6 := s9 _ _ g6
    replace g7 := s9 _ _ g7
    replace g8 := s9 _ _ g8
    have sm9 : Same H H9 := sm8.trans s9
    refine ⟨_, _, rfl, rfl, ⟨by decide, by decide, by decide⟩, ?_⟩
    refine ⟨le_size (by simp), fun a10 h10 => ?_⟩
    dsimp only
    have p10 := ((hst.same sm9).ne h10).1
    have s10 : Same H9 (upd H9 a10 (HO.lst [V.non, V.bl true, V.bl false, V.int (-1), V.int 64, V.str "0", V.str "A", V.str "-", V.ref a1, V.ref a2, V.ref a3, V.ref a5, V.ref a6, V.ref a7, V.ref a8, V.ref a9, V.int (10 ^ (20 : Int).toNat)])) := Same.new _ h10
    have g10 : upd H9 a10 (HO.lst [V.non, V.bl true, V.bl false, V.int (-1), V.int 64, V.str "0", V.str "A", V.str "-", V.ref a1, V.ref a2, V.ref a3, V.ref a5, V.ref a6, V.ref a7, V.ref a8, V.ref a9, V.int (10 ^ (20 : Int).toNat)]) a10 = some (HO.lst [V.non, V.bl true, V.bl false, V.int (-1), V.int 64, V.str "0", V.str "A", V.str "-", V.ref a1, V.ref a2, V.ref a3, V.ref a5, V.ref a6, V.ref a7, V.ref a8, V.ref a9, V.int (10 ^ (20 : Int).toNat)]) := upd_same
    generalize upd H9 a10 (HO.lst [V.non, V.bl true, V.bl false, V.int (-1), V.int 64, V.str "0", V.str "A", V.str "-", V.ref a1, V.ref a2, V.ref a3, V.ref a5, V.ref a6, V.ref a7, V.ref a8, V.ref a9, V.int (10 ^ (20 : Int).toNat)]) = H10 at *
    replace g1 := s10 _ _ g1
    replace g2 := s10 _ _ g2
    replace g3 := s10 _ _ g3
    replace g4 := s10 _ _ g4
    replace g5 := s10 _ _ g5
    replace g6 := s10 _ _ g6
    replace g7 := s10 _ _ g7
    replace g8 := s10 _ _ g8
    replace g9 := s10 _ _ g9
    have sm10 : Same H H10 := sm9.trans s10
    refine ⟨_, rfl, ?_⟩
    refine ⟨le_size (by simp), fun a11 h11 => ?_⟩
    have p11 := ((hst.same sm10).ne h11).1
    have s11 : Same H10 (upd H10 a11 (HO.tup [V.int 0, V.str "a", V.int 0])) := Same.new _ h11
    have g11 : upd H10 a11 (HO.tup [V.int 0, V.str "a", V.int 0]) a11 = some (HO.tup [V.int 0, V.str "a", V.int 0]) := upd_same
    generalize upd H10 a11 (HO.tup [V.int 0, V.str "a", V.int 0]) = H11 at *
    replace g1 := s11 _ _ g1
    replace g2 := s11 _ _ g2
    replace g3 := s11 _ _ g3
    replace g4 := s11 _ _ g4
    replace g5 := s11 _ _ g5
    replace g6 := s11 _ _ g6
    replace g7 := s11 _ _ g7
    replace g8 := s11 _ _ g8
    replace g9 := s11 _ _ g9
    replace g10 := s11 _ _ g10
    have sm11 : Same H H11 := sm10.trans s11
    refine ⟨le_size (by simp), fun a12 h12 => ?_⟩
    have p12 := ((hst.same sm11).ne h12).1
    have s12 : Same H11 (upd H11 a12 (HO.lst [V.ref a11])) := Same.new _ h12
    have g12 : upd H11 a12 (HO.lst [V.ref a11]) a12 = some (HO.lst [V.ref a11]) := upd_same
    generalize upd H11 a12 (HO.lst [V.ref a11]) = H12 at *
    replace g1 := s12 _ _ g1
    replace g2 := s12 _ _ g2
    replace g3 := s12 _ _ g3
    replace g4 := s12 _ _ g4
    replace g5 := s12 _ _ g5
    replace g6 := s12 _ _ g6
    replace g7 := s12 _ _ g7
    replace g8 := s12 _ _ g8
    replace g9 := s12 _ _ g9
    replace g10 := s12 _ _ g10
    replace g11 := s12 _ _ g11
    have sm12 : Same H H12 := sm11.trans s12
    intro a13 dx13 h13 hd13 hne13
    have S13 : Same H12 (upd (upd H12 dx13 (.own a13)) a13 (.ins T.C_Loom dx13 [])) := (Same.new _ hd13).trans (Same.new _ (by rw [upd_ne hne13.symm]; exact h13))
    refine ⟨a13, dx13, a12, [97], [V.ref a11], [(0, [97], 0)], rfl, upd_same, S13 _ _ g12, arcs_one (S13 _ _ g11), okw_one, sig_one, fun H13 T13 x3 hT hTus g13 => ⟨rfl, ?_⟩⟩
    have s13 : Same H12 H13 := fun b o e => x3 _ _ (ne_of_none e h13) (S13 _ _ e)
    have p13 := ((hst.same sm12).ne h13).1
    clear x3 hT hTus S13 hd13 hne13
    have sm13 : Same H H13 := sm12.trans s13
    replace g1 := s13 _ _ g1
    replace g2 := s13 _ _ g2
    replace g3 := s13 _ _ g3
    replace g4 := s13 _ _ g4
    replace g5 := s13 _ _ g5
    replace g6 := s13 _ _ g6
    replace g7 := s13 _ _ g7
    replace g8 := s13 _ _ g8
    replace g9 := s13 _ _ g9
    replace g10 := s13 _ _ g10
    replace g11 := s13 _ _ g11
    replace g12 := s13 _ _ g12
    refine ⟨le_size (by simp), fun a14 h14 => ?_⟩
    have p14 := ((hst.same sm13).ne h14).1
    have s14 : Same H13 (upd H13 a14 (HO.tup [V.int 0, V.str "a", V.int 0])) := Same.new _ h14
    have g14 : upd H13 a14 (HO.tup [V.int 0, V.str "a", V.int 0]) a14 = some (HO.tup [V.int 0, V.str "a", V.int 0]) := upd_same
    generalize upd H13 a14 (HO.tup [V.int 0, V.str "a", V.int 0]) = H14 at *
    replace g1 := s14 _ _ g1
    replace g2 := s14 _ _ g2
    replace g3 := s14 _ _ g3
    replace g4 := s14 _ _ g4
    replace g5 := s14 _ _ g5
    replace g6 := s14 _ _ g6
    replace g7 := s14 _ _ g7
    replace g8 := s14 _ _ g8
    replace g9 := s14 _ _ g9
    replace g10 := s14 _ _ g10
    replace g11 := s14 _ _ g11
    replace g12 := s14 _ _ g12
    replace g13 := s14 _ _ g13
    have sm14 : Same H H14 := sm13.trans s14
    refine ⟨le_size (by simp), fun a15 h15 => ?_⟩
    have p15 := ((hst.same sm14).ne h15).1
    have s15 : Same H14 (upd H14 a15 (HO.lst [V.ref a14])) := Same.new _ h15
    have g15 : upd H14 a15 (HO.lst [V.ref a14]) a15 = some (HO.lst [V.ref a14]) := upd_same
    generalize upd H14 a15 (HO.lst [V.ref a14]) = H15 at *
    replace g1 := s15 _ _ g1
    replace g2 := s15 _ _ g2
    replace g3 := s15 _ _ g3
    replace g4 := s15 _ _ g4
    replace g5 := s15 _ _ g5
    replace g6 := s15 _ _ g6
    replace g7 := s15 _ _ g7
    replace g8 := s15 _ _ g8
    replace g9 := s15 _ _ g9
    replace g10 := s15 _ _ g10
    replace g11 := s15 _ _ g11
    replace g12 := s15 _ _ g12
    replace g13 := s15 _ _ g13
    replace g14 := s15 _ _ g14
    have sm15 : Same H H15 := sm14.trans s15
    intro a16 dx16 h16 hd16 hne16
    have S16 : Same H15 (upd (upd H15 dx16 (.own a16)) a16 (.ins T.C_Loom dx16 [])) := (Same.new _ hd16).trans (Same.new _ (by rw [upd_ne hne16.symm]; exact h16))
    refine ⟨a16, dx16, a15, [97], [V.ref a14], [(0, [97], 0)], rfl, upd_same, S16 _ _ g15, arcs_one (S16 _ _ g14), okw_one, sig_one, fun H16 T16 x3 hT hTus g16 => ⟨rfl, ?_⟩⟩
    have s16 : Same H15 H16 := fun b o e => x3 _ _ (ne_of_none e h16) (S16 _ _ e)
    have p16 := ((hst.same sm15).ne h16).1
    clear x3 hT hTus S16 hd16 hne16
    have sm16 : Same H H16 := sm15.trans s16
    replace g1 := s16 _ _ g1
    replace g2 := s16 _ _ g2
    replace g3 := s16 _ _ g3
    replace g4 := s16 _ _ g4
    replace g5 := s16 _ _ g5
    replace g6 := s16 _ _ g6
    replace g7 := s16 _ _ g7
    replace g8 := s16 _ _ g8
    replace g9 := s16 _ _ g9
    replace g10 := s16 _ _ g10
    replace g11 := s16 _ _ g11
    replace g12 := s16 _ _ g12
    replace g13 := s16 _ _ g13
    replace g14 := s16 _ _ g14
    replace g15 := s16 _ _ g15
    refine ⟨le_size (by simp), fun a17 h17 => ?_⟩
    have p17 := ((hst.same sm16).ne h17).1
    have s17 : Same H16 (upd H16 a17 (HO.lst [V.ref a16])) := Same.new _ h17
    have g17 : upd H16 a17 (HO.lst [V.ref a16]) a17 = some (HO.lst [V.ref a16]) := upd_same
    generalize upd H16 a17 (HO.lst [V.ref a16]) = H17 at *
    replace g1 := s17 _ _ g1
    replace g2 := s17 _ _ g2
    replace g3 := s17 _ _ g3
    replace g4 := s17 _ _ g4
    replace g5 := s17 _ _ g5
    replace g6 := s17 _ _ g6
    replace g7 := s17 _ _ g7
    replace g8 := s17 _ _ g8
    replace g9 := s17 _ _ g9
    replace g10 := s17 _ _ g10
    replace g11 := s17 _ _ g11
    replace g12 := s17 _ _ g12
    replace g13 := s17 _ _ g13
    replace g14 := s17 _ _ g14
    replace g15 := s17 _ _ g15
    replace g16 := s17 _ _ g16
    have sm17 : Same H H17 := sm16.trans s17
    refine ⟨_, rfl, ?_⟩
    refine ⟨_, _, rfl, fun a18 d18 h18 hd18 hde18 => ?_⟩
    dsimp only
    have s18 : Same H17 (upd (upd H17 d18 (.xd (fs_InvalidLoom (V.str "signs") (V.int (-1))))) a18 (ExD T.C_InvalidLoom d18 a18)) := (Same.new _ hd18).trans (Same.new _ (by rw [upd_ne hde18.symm]; exact h18))
    have g18 : (upd (upd H17 d18 (.xd (fs_InvalidLoom (V.str "signs") (V.int (-1))))) a18 (ExD T.C_InvalidLoom d18 a18)) a18 = some (ExD T.C_InvalidLoom d18 a18) := upd_same
    have gd : (upd (upd H17 d18 (.xd (fs_InvalidLoom (V.str "signs") (V.int (-1))))) a18 (ExD T.C_InvalidLoom d18 a18)) d18 = some (.xd (fs_InvalidLoom (V.str "signs") (V.int (-1)))) := by rw [upd_ne hde18]; exact upd_same
    have p18 := ((hst.same sm17).ne h18).1
    have pd := ((hst.same sm17).ne hd18).1
    generalize upd (upd H17 d18 (.xd (fs_InvalidLoom (V.str "signs") (V.int (-1))))) a18 (ExD T.C_InvalidLoom d18 a18) = H18 at *
    have sm18 : Same H H18 := sm17.trans s18
    replace g1 := s18 _ _ g1
    replace g2 := s18 _ _ g2
    replace g3 := s18 _ _ g3
    replace g4 := s18 _ _ g4
    replace g5 := s18 _ _ g5
    replace g6 := s18 _ _ g6
    replace g7 := s18 _ _ g7
    replace g8 := s18 _ _ g8
    replace g9 := s18 _ _ g9
    replace g10 := s18 _ _ g10
    replace g11 := s18 _ _ g11
    replace g12 := s18 _ _ g12
    replace g13 := s18 _ _ g13
    replace g14 := s18 _ _ g14
    replace g15 := s18 _ _ g15
    replace g16 := s18 _ _ g16
    replace g17 := s18 _ _ g17
    refine ⟨le_size (by simp), fun a19 h19 => ?_⟩
    have p19 := ((hst.same sm18).ne h19).1
    have s19 : Same H18 (upd H18 a19 (HO.lst [])) := Same.new _ h19
    have g19 : upd H18 a19 (HO.lst []) a19 = some (HO.lst []) := upd_same
    generalize upd H18 a19 (HO.lst []) = H19 at *
    replace g1 := s19 _ _ g1
    replace g2 := s19 _ _ g2
    replace g3 := s19 _ _ g3
    replace g4 := s19 _ _ g4
    replace g5 := s19 _ _ g5
    replace g6 := s19 _ _ g6
    replace g7 := s19 _ _ g7
    replace g8 := s19 _ _ g8
    replace g9 := s19 _ _ g9
    replace g10 := s19 _ _ g10
    replace g11 := s19 _ _ g11
    replace g12 := s19 _ _ g12
    replace g13 := s19 _ _ g13
    replace g14 := s19 _ _ g14
    replace g15 := s19 _ _ g15
    replace g16 := s19 _ _ g16
    replace g17 := s19 _ _ g17
    replace g18 := s19 _ _ g18
    have sm19 : Same H H19 := sm18.trans s19
    replace gd := s19 _ _ gd
    refine ⟨le_size (by simp), fun a20 h20 => ?_⟩
    have p20 := ((hst.same sm19).ne h20).1
    have s20 : Same H19 (upd H19 a20 (HO.lst [V.ref a19])) := Same.new _ h20
    have g20 : upd H19 a20 (HO.lst [V.ref a19]) a20 = some (HO.lst [V.ref a19]) := upd_same
    generalize upd H19 a20 (HO.lst [V.ref a19]) = H20 at *
    replace g1 := s20 _ _ g1
    replace g2 := s20 _ _ g2
    replace g3 := s20 _ _ g3
    replace g4 := s20 _ _ g4
    replace g5 := s20 _ _ g5
    replace g6 := s20 _ _ g6
    replace g7 := s20 _ _ g7
    replace g8 := s20 _ _ g8
    replace g9 := s20 _ _ g9
    replace g10 := s20 _ _ g10
    replace g11 := s20 _ _ g11
    replace g12 := s20 _ _ g12
    replace g13 := s20 _ _ g13
    replace g14 := s20 _ _ g14
    replace g15 := s20 _ _ g15
    replace g16 := s20 _ _ g16
    replace g17 := s20 _ _ g17
    replace g18 := s20 _ _ g18
    replace g19 := s20 _ _ g19
    have sm20 : Same H H20 := sm19.trans s20
    replace gd := s20 _ _ gd
    refine ⟨le_size (by simp), fun a21 h21 => ?_⟩
    have p21 := ((hst.same sm20).ne h21).1
    have s21 : Same H20 (upd H20 a21 (HO.lst [V.ref a20])) := Same.new _ h21
    have g21 : upd H20 a21 (HO.lst [V.ref a20]) a21 = some (HO.lst [V.ref a20]) := upd_same
    generalize upd H20 a21 (HO.lst [V.ref a20]) = H21 at *
    replace g1 := s21 _ _ g1
    replace g2 := s21 _ _ g2
    replace g3 := s21 _ _ g3
    replace g4 := s21 _ _ g4
    replace g5 := s21 _ _ g5
    replace g6 := s21 _ _ g6
    replace g7 := s21 _ _ g7
    replace g8 := s21 _ _ g8
    replace g9 := s21 _ _ g9
    replace g10 := s21 _ _ g10
    replace g11 := s21 _ _ g11
    replace g12 := s21 _ _ g12
    replace g13 := s21 _ _ g13
    replace g14 := s21 _ _ g14
    replace g15 := s21 _ _ g15
    replace g16 := s21 _ _ g16
    replace g17 := s21 _ _ g17
    replace g18 := s21 _ _ g18
    replace g19 := s21 _ _ g19
    replace g20 := s21 _ _ g20
    have sm21 : Same H H21 := sm20.trans s21
    replace gd := s21 _ _ gd
    refine ⟨le_size (by simp), fun a22 h22 => ?_⟩
    have p22 := ((hst.same sm21).ne h22).1
    have s22 : Same H21 (upd H21 a22 (HO.lst [V.ref a21])) := Same.new _ h22
    have g22 : upd H21 a22 (HO.lst [V.ref a21]) a22 = some (HO.lst [V.ref a21]) := upd_same
    generalize upd H21 a22 (HO.lst [V.ref a21]) = H22 at *
    replace g1 := s22 _ _ g1
    replace g2 := s22 _ _ g2
    replace g3 := s22 _ _ g3
    replace g4 := s22 _ _ g4
    replace g5 := s22 _ _ g5
    replace g6 := s22 _ _ g6
    replace g7 := s22 _ _ g7
    replace g8 := s22 _ _ g8
    replace g9 := s22 _ _ g9
    replace g10 := s22 _ _ g10
    replace g11 := s22 _ _ g11
    replace g12 := s22 _ _ g12
    replace g13 := s22 _ _ g13
    replace g14 := s22 _ _ g14
    replace g15 := s22 _ _ g15
    replace g16 := s22 _ _ g16
    replace g17 := s22 _ _ g17
    replace g18 := s22 _ _ g18
    replace g19 := s22 _ _ g19
    replace g20 := s22 _ _ g20
    replace g21 := s22 _ _ g21
    have sm22 : Same H H22 := sm21.trans s22
    replace gd := s22 _ _ gd
    refine ⟨le_size (by simp), fun a23 h23 => ?_⟩
    have p23 := ((hst.same sm22).ne h23).1
    have s23 : Same H22 (upd H22 a23 (HO.lst [V.ref a13, V.ref a17, V.ref a18, V.str "a\n", V.str "~", V.ref a22])) := Same.new _ h23
    have g23 : upd H22 a23 (HO.lst [V.ref a13, V.ref a17, V.ref a18, V.str "a\n", V.str "~", V.ref a22]) a23 = some (HO.lst [V.ref a13, V.ref a17, V.ref a18, V.str "a\n", V.str "~", V.ref a22]) := upd_same
    generalize upd H22 a23 (HO.lst [V.ref a13, V.ref a17, V.ref a18, V.str "a\n", V.str "~", V.ref a22]) = H23 at *
    replace g1 := s23 _ _ g1
    replace g2 := s23 _ _ g2
    replace g3 := s23 _ _ g3
    replace g4 := s23 _ _ g4
    replace g5 := s23 _ _ g5
    replace g6 := s23 _ _ g6
    replace g7 := s23 _ _ g7
    replace g8 := s23 _ _ g8
    replace g9 := s23 _ _ g9
    replace g10 := s23 _ _ g10
    replace g11 := s23 _ _ g11
    replace g12 := s23 _ _ g12
    replace g13 := s23 _ _ g13
    replace g14 := s23 _ _ g14
    replace g15 := s23 _ _ g15
    replace g16 := s23 _ _ g16
    replace g17 := s23 _ _ g17
    replace g18 := s23 _ _ g18
    replace g19 := s23 _ _ g19
    replace g20 := s23 _ _ g20
    replace g21 := s23 _ _ g21
    replace g22 := s23 _ _ g22
    have sm23 : Same H H23 := sm22.trans s23
    replace gd := s23 _ _ gd
    refine ⟨_, _, _, _, rfl, rfl, g10, g23, le_size (by simp), fun a24 h24 => ?_⟩
    have p24 := ((hst.same sm23).ne h24).1
    have s24 : Same H23 (upd H23 a24 (HO.lst ([V.non, V.bl true, V.bl false, V.int (-1), V.int 64, V.str "0", V.str "A", V.str "-", V.ref a1, V.ref a2, V.ref a3, V.ref a5, V.ref a6, V.ref a7, V.ref a8, V.ref a9, V.int (10 ^ (20 : Int).toNat)] ++ [V.ref a13, V.ref a17, V.ref a18, V.str "a\n", V.str "~", V.ref a22]))) := Same.new _ h24
    have g24 : upd H23 a24 (HO.lst ([V.non, V.bl true, V.bl false, V.int (-1), V.int 64, V.str "0", V.str "A", V.str "-", V.ref a1, V.ref a2, V.ref a3, V.ref a5, V.ref a6, V.ref a7, V.ref a8, V.ref a9, V.int (10 ^ (20 : Int).toNat)] ++ [V.ref a13, V.ref a17, V.ref a18, V.str "a\n", V.str "~", V.ref a22])) a24 = some (HO.lst ([V.non, V.bl true, V.bl false, V.int (-1), V.int 64, V.str "0", V.str "A", V.str "-", V.ref a1, V.ref a2, V.ref a3, V.ref a5, V.ref a6, V.ref a7, V.ref a8, V.ref a9, V.int (10 ^ (20 : Int).toNat)] ++ [V.ref a13, V.ref a17, V.ref a18, V.str "a\n", V.str "~", V.ref a22])) := upd_same
    generalize upd H23 a24 (HO.lst ([V.non, V.bl true, V.bl false, V.int (-1), V.int 64, V.str "0", V.str "A", V.str "-", V.ref a1, V.ref a2, V.ref a3, V.ref a5, V.ref a6, V.ref a7, V.ref a8, V.ref a9, V.int (10 ^ (20 : Int).toNat)] ++ [V.ref a13, V.ref a17, V.ref a18, V.str "a\n", V.str "~", V.ref a22])) = H24 at *
    replace g1 := s24 _ _ g1
    replace g2 := s24 _ _ g2
    replace g3 := s24 _ _ g3
    replace g4 := s24 _ _ g4
    replace g5 := s24 _ _ g5
    replace g6 := s24 _ _ g6
    replace g7 := s24 _ _ g7
    replace g8 := s24 _ _ g8
    replace g9 := s24 _ _ g9
    replace g10 := s24 _ _ g10
    replace g11 := s24 _ _ g11
    replace g12 := s24 _ _ g12
    replace g13 := s24 _ _ g13
    replace g14 := s24 _ _ g14
    replace g15 := s24 _ _ g15
    replace g16 := s24 _ _ g16
    replace g17 := s24 _ _ g17
    replace g18 := s24 _ _ g18
    replace g19 := s24 _ _ g19
    replace g20 := s24 _ _ g20
    replace g21 := s24 _ _ g21
    replace g22 := s24 _ _ g22
    replace g23 := s24 _ _ g23
    have sm24 : Same H H24 := sm23.trans s24
    replace gd := s24 _ _ gd
    refine ⟨_, rfl, _, rfl, _, rfl, a24, _, rfl, .inl (SqL.of g24), p, l, 23, rfl, hst.same sm24, by decide, by decide, fun H' r x1 st1 r0 r1 => ?_⟩
    obtain ⟨v, hv, hat⟩ := atI_mem (xs := [V.non, V.bl true, V.bl false, V.int (-1), V.int 64, V.str "0", V.str "A", V.str "-", V.ref a1, V.ref a2, V.ref a3, V.ref a5, V.ref a6, V.ref a7, V.ref a8, V.ref a9, V.int (10 ^ (20 : Int).toNat)] ++ [V.ref a13, V.ref a17, V.ref a18, V.str "a\n", V.str "~", V.ref a22]) r0 (by simpa using r1)
    refine ⟨_, _, _, v, rfl, rfl, SqL.of (x1 _ _ p24 g24), hat, ?_⟩
    replace g1 := x1 _ _ p1 g1
    replace g2 := x1 _ _ p2 g2
    replace g3 := x1 _ _ p3 g3
    replace g4 := x1 _ _ p4 g4
    replace g5 := x1 _ _ p5 g5
    replace g6 := x1 _ _ p6 g6
    replace g7 := x1 _ _ p7 g7
    replace g8 := x1 _ _ p8 g8
    replace g9 := x1 _ _ p9 g9
    replace g10 := x1 _ _ p10 g10
    replace g11 := x1 _ _ p11 g11
    replace g12 := x1 _ _ p12 g12
    replace g13 := x1 _ _ p13 g13
    replace g14 := x1 _ _ p14 g14
    replace g15 := x1 _ _ p15 g15
    replace g16 := x1 _ _ p16 g16
    replace g17 := x1 _ _ p17 g17
    replace g18 := x1 _ _ p18 g18
    replace g19 := x1 _ _ p19 g19
    replace g20 := x1 _ _ p20 g20
    replace g21 := x1 _ _ p21 g21
    replace g22 := x1 _ _ p22 g22
    replace g23 := x1 _ _ p23 g23
    replace g24 := x1 _ _ p24 g24
    replace gd := x1 _ _ pd gd
    have all : ∀ v ∈ ([V.non, V.bl true, V.bl false, V.int (-1), V.int 64, V.str "0", V.str "A", V.str "-", V.ref a1, V.ref a2, V.ref a3, V.ref a5, V.ref a6, V.ref a7, V.ref a8, V.ref a9, V.int (10 ^ (20 : Int).toNat)] ++ [V.ref a13, V.ref a17, V.ref a18, V.str "a\n", V.str "~", V.ref a22] : List V), OddS K p H' v := by
      have o0 : OddS K p H' (V.non) := fun sg hsg H2 x2 => (.non (.x (.base .non)) (kit_ty (by decide +kernel)))
      have o1 : OddS K p H' (V.bl true) := fun sg hsg H2 x2 => (.non (.x (.base (.bl _))) (kit_ty (by decide +kernel)))
      have o2 : OddS K p H' (V.bl false) := fun sg hsg H2 x2 => (.non (.x (.base (.bl _))) (kit_ty (by decide +kernel)))
      have o3 : OddS K p H' (V.int (-1)) := fun sg hsg H2 x2 => (.non (.x (.base (.int _))) (kit_ty (by decide +kernel)))
      have o4 : OddS K p H' (V.int 64) := fun sg hsg H2 x2 => (.non (.x (.base (.int _))) (kit_ty (by decide +kernel)))
      have o5 : OddS K p H' (V.str "0") := fun sg hsg H2 x2 => (.str (t := [48]) (by decide) (noSig hsg 48 (by decide) (by decide)))
      have o6 : OddS K p H' (V.str "A") := fun sg hsg H2 x2 => (.str (t := [65]) (by decide) (noSig hsg 65 (by decide) (by decide)))
      have o7 : OddS K p H' (V.str "-") := fun sg hsg H2 x2 => (.str (t := [45]) (by decide) (noSig hsg 45 (by decide) (by decide)))
      have o8 : OddS K p H' (V.ref a1) := fun sg hsg H2 x2 => (.non (.x (.base (.tup (x2 _ _ p1 g1)))) (kit_ty (by decide +kernel)))
      have o9 : OddS K p H' (V.ref a2) := fun sg hsg H2 x2 => (.non (.x (.base (.lst (x2 _ _ p2 g2)))) (kit_ty (by decide +kernel)))
      have o10 : OddS K p H' (V.ref a3) := fun sg hsg H2 x2 => (.non (.x (.base (.dK (x2 _ _ p3 g3)))) (kit_ty (by decide +kernel)))
      have o11 : OddS K p H' (V.ref a5) := fun sg hsg H2 x2 => (.non (.x (.base (.lst (x2 _ _ p5 g5)))) (kit_ty (by decide +kernel)))
      have o12 : OddS K p H' (V.ref a6) := fun sg hsg H2 x2 => (.non (.x (.base (.tup (x2 _ _ p6 g6)))) (kit_ty (by decide +kernel)))
      have o13 : OddS K p H' (V.ref a7) := fun sg hsg H2 x2 => (.non (.x (.base (.dK (x2 _ _ p7 g7)))) (kit_ty (by decide +kernel)))
      have o14 : OddS K p H' (V.ref a8) := fun sg hsg H2 x2 => (.non (.x (.base (.lst (x2 _ _ p8 g8)))) (kit_ty (by decide +kernel)))
      have o15 : OddS K p H' (V.ref a9) := fun sg hsg H2 x2 => (.non (.x (.base (.tup (x2 _ _ p9 g9)))) (kit_ty (by decide +kernel)))
      have o16 : OddS K p H' (V.int (10 ^ (20 : Int).toNat)) := fun sg hsg H2 x2 => (.non (.x (.base (.int _))) (kit_ty (by decide +kernel)))
      have o17 : OddS K p H' (V.ref a13) := fun sg hsg H2 x2 => (.non (.x (.base (.ins (x2 _ _ p13 g13) T.cl_Loom T.ic_Loom T.ig T.it T.im_Loom))) (kit_cls (by decide +kernel) T.sx_Loom))
      have o18 : OddS K p H' (V.ref a17) := fun sg hsg H2 x2 => (.non (.x (.base (.lst (x2 _ _ p17 g17)))) (kit_ty (by decide +kernel)))
      have o19 : OddS K p H' (V.ref a18) := fun sg hsg H2 x2 => (.non (.exd (x2 _ _ p18 g18) (x2 _ _ pd gd) T.E_InvalidLoom) (kit_cls (by decide +kernel) T.sx_InvalidLoom))
      have o20 : OddS K p H' (V.str "a\n") := fun sg hsg H2 x2 => (.str (t := [97, 10]) (by decide) (noSig hsg 10 (by decide) (by decide)))
      have o21 : OddS K p H' (V.str "~") := fun sg hsg H2 x2 => (.str (t := [126]) (by decide) (noSig hsg 126 (by decide) (by decide)))
      have o22 : OddS K p H' (V.ref a22) := fun sg hsg H2 x2 => (.non (.x (.base (.lst (x2 _ _ p22 g22)))) (kit_ty (by decide +kernel)))
      exact (AllS.cons o0 (AllS.cons o1 (AllS.cons o2 (AllS.cons o3 (AllS.cons o4 (AllS.cons o5 (AllS.cons o6 (AllS.cons o7 (AllS.cons o8 (AllS.cons o9 (AllS.cons o10 (AllS.cons o11 (AllS.cons o12 (AllS.cons o13 (AllS.cons o14 (AllS.cons o15 (AllS.cons o16 (AllS.cons o17 (AllS.cons o18 (AllS.cons o19 (AllS.cons o20 (AllS.cons o21 (AllS.cons o22 AllS.nil)))))))))))))))))))))))
    exact k H' v (Ex.trans (Same.ex sm24) x1) st1 (all v hv)
end
end J


set_option Elab.async false
set_option linter.all false
set_option maxRecDepth 100000
set_option maxHeartbeats 4000000
namespace J
open PySem L2
/-! ### readers side by side -/
structure RD where
  r : Addr
  d : Addr
  tl : Addr
  pl : Addr
  t : List Nat
  told : List Nat
  ds : List Addr
  S : Addr → Prop
structure Dsk (ns : List Int) (l p C CT CR : Addr) (as : List Arc) (g : Nat) (q : Addr) (sg : List Nat) (us : List V) (RL TL : Addr) (H : Hp) (L : List RD) : Prop where
  st : StAt ns l H p
  rl : H RL = some (.lst (L.map fun D => V.ref D.r))
  tx : H TL = some (.lst (L.map fun D => V.str (SX.S D.t)))
  rd : ∀ (i : Nat) D, L[i]? = some D → RdS C CT CR as g H D.r q D.d D.tl D.pl sg us D.t D.told D.ds D.S
  df : ∀ (i j : Nat) D D', i ≠ j → L[i]? = some D → L[j]? = some D' → D.r ≠ D'.r ∧ D.tl ≠ D'.tl
  dl : ∀ (i : Nat) D, L[i]? = some D → D.tl ≠ l
  nrp : RL ≠ p
  ntp : TL ≠ p
  n1 : 1 ≤ L.length
  n4 : L.length ≤ 4
section
variable {ns : List Int} {l p C CT CR : Addr} {as : List Arc} {g : Nat} {q : Addr} {sg : List Nat} {us : List V} {RL TL : Addr} {H H' : Hp} {L : List RD}
theorem Dsk.same (h : Dsk ns l p C CT CR as g q sg us RL TL H L) (s : Same H H') : Dsk ns l p C CT CR as g q sg us RL TL H' L :=
  ⟨h.st.same s, s _ _ h.rl, s _ _ h.tx, fun i D hD => (h.rd i D hD).same s, h.df, h.dl, h.nrp, h.ntp, h.n1, h.n4⟩
theorem Dsk.exP (h : Dsk ns l p C CT CR as g q sg us RL TL H L) (x : Ex p H H') (st : StAt ns l H' p) : Dsk ns l p C CT CR as g q sg us RL TL H' L :=
  ⟨st, x _ _ h.nrp h.rl, x _ _ h.ntp h.tx, fun i D hD => (h.rd i D hD).exP h.st x, h.df, h.dl, h.nrp, h.ntp, h.n1, h.n4⟩
theorem Dsk.first (h : Dsk ns l p C CT CR as g q sg us RL TL H L) : ∃ D L', L = D :: L' := by
  cases L with
  | nil => have := h.n1; simp at this
  | cons D L' => exact ⟨D, L', rfl⟩
/-- the list of readers is no list of one of them -/
theorem Dsk.badR (h : Dsk ns l p C CT CR as g q sg us RL TL H L) : BadX CR H RL := by
  obtain ⟨D, L', rfl⟩ := h.first
  refine .inr ⟨_, h.rl, .inr ⟨.ref D.r, by simp, fun x e => ?_⟩⟩
  cases e
  obtain ⟨dr, e⟩ := (h.rd 0 D rfl).obj
  exact ⟨_, _, _, _, _, _, _, e⟩
theorem Dsk.badT (h : Dsk ns l p C CT CR as g q sg us RL TL H L) : BadX CR H TL := by
  obtain ⟨D, L', rfl⟩ := h.first
  exact .inr ⟨_, h.tx, .inr ⟨.str (SX.S D.t), by simp, fun x e => by cases e⟩⟩
theorem Dsk.nR (h : Dsk ns l p C CT CR as g q sg us RL TL H L) {told : List Nat} {b : Addr} (e : H b = some (.lst (nats told))) : RL ≠ b := fun z => by
  obtain ⟨D, L', rfl⟩ := h.first
  have := h.rl
  rw [z, e] at this
  injection this with this
  injection this with this
  cases told with
  | nil => cases this
  | cons n t => injection this with this _; cases this
theorem Dsk.nT (h : Dsk ns l p C CT CR as g q sg us RL TL H L) {told : List Nat} {b : Addr} (e : H b = some (.lst (nats told))) : TL ≠ b := fun z => by
  obtain ⟨D, L', rfl⟩ := h.first
  have := h.tx
  rw [z, e] at this
  injection this with this
  injection this with this
  cases told with
  | nil => cases this
  | cons n t => injection this with this _; cases this
theorem Dsk.nRT (h : Dsk ns l p C CT CR as g q sg us RL TL H L) : RL ≠ TL := fun z => by
  obtain ⟨D, L', rfl⟩ := h.first
  have := h.rl
  rw [z, h.tx] at this
  injection this with this
  injection this with this
  injection this with this _
  cases this
theorem Dsk.nP (h : Dsk ns l p C CT CR as g q sg us RL TL H L) {told : List Nat} {b : Addr} (e : H b = some (.lst (nats told))) : p ≠ b := fun z => by
  obtain ⟨a1, a2, a3, a4, a5, _, hp, _⟩ := h.st
  rw [z, e] at hp
  injection hp with hp
  injection hp with hp
  cases told with
  | nil => cases hp
  | cons n t => injection hp with hp _; cases hp
theorem Dsk.nlR (h : Dsk ns l p C CT CR as g q sg us RL TL H L) : l ≠ RL := fun z => by
  obtain ⟨D, L', rfl⟩ := h.first
  obtain ⟨a1, a2, a3, a4, a5, hl, hp, h0⟩ := h.st
  rw [z, h.rl] at hl
  injection hl with hl
  injection hl with hl
  cases ns with
  | nil => cases hl
  | cons n t => injection hl with hl _; cases hl
theorem Dsk.nlT (h : Dsk ns l p C CT CR as g q sg us RL TL H L) : l ≠ TL := fun z => by
  obtain ⟨D, L', rfl⟩ := h.first
  obtain ⟨a1, a2, a3, a4, a5, hl, hp, h0⟩ := h.st
  rw [z, h.tx] at hl
  injection hl with hl
  injection hl with hl
  cases ns with
  | nil => cases hl
  | cons n t => injection hl with hl _; cases hl
/-- the readers when the two lists have been written -/
theorem Dsk.lists (h : Dsk ns l p C CT CR as g q sg us RL TL H L) {xs ys : List V} {D2 : RD} (R2 : RdS C CT CR as g H D2.r q D2.d D2.tl D2.pl sg us D2.t D2.told D2.ds D2.S) : RdS C CT CR as g (upd (upd H RL (.lst xs)) TL (.lst ys)) D2.r q D2.d D2.tl D2.pl sg us D2.t D2.told D2.ds D2.S := by
  obtain ⟨dr2, hobj2⟩ := R2.obj
  refine R2.keep (fun b => b = RL ∨ b = TL) (fun b hb => ?_) (fun b o nb e => by rw [upd_ne (fun z => nb (.inr z)), upd_ne (fun z => nb (.inl z))]; exact e) (fun z => ?_) (fun z => ?_)
  · rcases hb with rfl | rfl
    · exact h.badR
    · exact h.badT
  · rcases z with z | z
    · have := h.rl; rw [← z, hobj2] at this; cases this
    · have := h.tx; rw [← z, hobj2] at this; cases this
  · rcases z with z | z
    · exact h.nR R2.tl_ z.symm
    · exact h.nT R2.tl_ z.symm
/-- a twin and its text are put behind -/
theorem Dsk.twin (h : Dsk ns l p C CT CR as g q sg us RL TL H L) {j : Nat} {D : RD} {r2 d2 tl2 pl2 : Addr} (hj : L[j]? = some D) (h4 : L.length < 4) (s : Same H H') (hr2 : H r2 = none) (ht2 : H tl2 = none) (R : RdS C CT CR as g H' r2 q d2 tl2 pl2 sg us D.t D.told D.ds D.S) :
    Dsk ns l p C CT CR as g q sg us RL TL (upd (upd H' RL (.lst ((L.map fun D => V.ref D.r) ++ [.ref r2]))) TL (.lst ((L.map fun D => V.str (SX.S D.t)) ++ [.str (SX.S D.t)]))) (L ++ [⟨r2, d2, tl2, pl2, D.t, D.told, D.ds, D.S⟩]) := by
  have h' := h.same s
  have nRT := h.nRT
  obtain ⟨a1, a2, a3, a4, a5, hl, hp, h0⟩ := h'.st
  have new : ∀ (i : Nat) D0, L[i]? = some D0 → D0.r ≠ r2 ∧ D0.tl ≠ tl2 := fun i D0 hi => by
    obtain ⟨dr, hobj⟩ := (h.rd i D0 hi).obj
    exact ⟨fun z => by rw [z, hr2] at hobj; (cases hobj), fun z => by have := (h.rd i D0 hi).tl_; rw [z, ht2] at this; (cases this)⟩
  have at_ : ∀ (i : Nat) D0, (L ++ [⟨r2, d2, tl2, pl2, D.t, D.told, D.ds, D.S⟩])[i]? = some D0 → (i < L.length ∧ L[i]? = some D0) ∨ (i = L.length ∧ D0 = ⟨r2, d2, tl2, pl2, D.t, D.told, D.ds, D.S⟩) := fun i D0 hi => by
    by_cases c : i < L.length
    · rw [List.getElem?_append_left c] at hi
      exact .inl ⟨c, hi⟩
    · have := (List.getElem?_eq_some_iff.mp hi).1
      rw [List.length_append, List.length_singleton] at this
      have e : i = L.length := by omega
      subst e
      rw [List.getElem?_append_right (Nat.le_refl _), Nat.sub_self] at hi
      exact .inr ⟨rfl, (Option.some.inj hi).symm⟩
  refine ⟨⟨a1, a2, a3, a4, a5, by rw [upd_ne h.nlT, upd_ne h.nlR]; exact hl, by rw [upd_ne h.ntp.symm, upd_ne h.nrp.symm]; exact hp, h0⟩, by rw [upd_ne nRT, upd_same, List.map_append]; rfl, by rw [upd_same, List.map_append]; rfl, fun i D0 hi => ?_, fun i j' D0 D1 nij hi hj' => ?_, fun i D0 hi => ?_, h.nrp, h.ntp, by have := h.n1; rw [List.length_append]; omega, by rw [List.length_append, List.length_singleton]; omega⟩
  · rcases at_ i D0 hi with ⟨_, hi⟩ | ⟨_, rfl⟩
    · exact h'.lists (h'.rd i D0 hi)
    · exact h'.lists (D2 := ⟨r2, d2, tl2, pl2, D.t, D.told, D.ds, D.S⟩) R
  · rcases at_ i D0 hi with ⟨_, hi⟩ | ⟨e1, rfl⟩
    · rcases at_ j' D1 hj' with ⟨_, hj'⟩ | ⟨e2, rfl⟩
      · exact h.df i j' D0 D1 nij hi hj'
      · exact new i D0 hi
    · rcases at_ j' D1 hj' with ⟨_, hj'⟩ | ⟨e2, rfl⟩
      · exact ⟨(new j' D1 hj').1.symm, (new j' D1 hj').2.symm⟩
      · omega
  · rcases at_ i D0 hi with ⟨_, hi⟩ | ⟨_, rfl⟩
    · exact h.dl i D0 hi
    · exact fun z => by
        have z : tl2 = l := z
        obtain ⟨_, _, _, _, _, hl', _⟩ := h.st
        rw [← z, ht2] at hl'
        cases hl'
/-- one reader took a sign, and its text is put down -/
theorem Dsk.took (h : Dsk ns l p C CT CR as g q sg us RL TL H L) {j : Nat} {D D' : RD} (hj : L[j]? = some D) (u : Up2 D.r D.tl H H') (er : D'.r = D.r) (et : D'.tl = D.tl) (R : RdS C CT CR as g H' D'.r q D'.d D'.tl D'.pl sg us D'.t D'.told D'.ds D'.S) : Dsk ns l p C CT CR as g q sg us RL TL (upd H' TL (.lst ((L.map fun D => V.str (SX.S D.t)).set j (.str (SX.S D'.t))))) (L.set j D') := by
  have RD := h.rd j D hj
  obtain ⟨dr, hobj⟩ := RD.obj
  have nTt := h.nT RD.tl_
  have nTr : TL ≠ D.r := fun z => by have := h.tx; rw [z, hobj] at this; cases this
  have nRr : RL ≠ D.r := fun z => by have := h.rl; rw [z, hobj] at this; cases this
  have hT' := u _ _ nTr nTt h.tx
  have keepT : ∀ {D2 : J.RD}, RdS C CT CR as g H' D2.r q D2.d D2.tl D2.pl sg us D2.t D2.told D2.ds D2.S → RdS C CT CR as g (upd H' TL (.lst ((L.map fun D => V.str (SX.S D.t)).set j (.str (SX.S D'.t))))) D2.r q D2.d D2.tl D2.pl sg us D2.t D2.told D2.ds D2.S := fun {D2} R2 => by
    obtain ⟨dr2, hobj2⟩ := R2.obj
    refine R2.keep (fun b => b = TL) (fun b hb => ?_) (fun b o nb e => by rw [upd_ne nb]; exact e) (fun z => ?_) (fun z => ?_)
    · subst hb
      obtain ⟨D0, L', rfl⟩ := h.first
      exact .inr ⟨_, hT', .inr ⟨.str (SX.S D0.t), by simp, fun x e => by cases e⟩⟩
    · rw [z, hT'] at hobj2; cases hobj2
    · have := R2.tl_
      rw [z, hT'] at this
      obtain ⟨D0, L', rfl⟩ := h.first
      injection this with this
      injection this with this
      cases e : D2.told with
      | nil => rw [e] at this; cases this
      | cons n t => rw [e] at this; injection this with this _; cases this
  have nRT := h.nRT
  have npt := h.nP RD.tl_
  obtain ⟨a1, a2, a3, a4, a5, hl, hp, h0⟩ := h.st
  have npr : p ≠ D.r := fun z => by rw [z, hobj] at hp; cases hp
  have nlr : l ≠ D.r := fun z => by rw [z, hobj] at hl; cases hl
  have nlt : l ≠ D.tl := (h.dl j D hj).symm
  have jl := (List.getElem?_eq_some_iff.mp hj).1
  have eset : (L.map fun D => V.ref D.r).set j (V.ref D.r) = L.map fun D => V.ref D.r := by
    apply List.ext_getElem?
    intro i
    rw [List.getElem?_set]
    split
    · rename_i e
      subst e
      rw [List.getElem?_map, hj, List.length_map, if_pos jl]
      rfl
    · rfl
  have at_ : ∀ (i : Nat) D0, (L.set j D')[i]? = some D0 → (i = j ∧ D0 = D') ∨ (i ≠ j ∧ L[i]? = some D0) := fun i D0 hi => by
    rw [List.getElem?_set] at hi
    split at hi
    · rename_i e
      subst e
      exact .inl ⟨rfl, (Option.some.inj hi).symm⟩
    · rename_i e
      exact .inr ⟨fun z => e z.symm, hi⟩
  have nRt := h.nR RD.tl_
  refine ⟨⟨a1, a2, a3, a4, a5, by rw [upd_ne h.nlT]; exact u _ _ nlr nlt hl, by rw [upd_ne h.ntp.symm]; exact u _ _ npr npt hp, h0⟩, by rw [upd_ne nRT, List.map_set, er, eset]; exact u _ _ nRr nRt h.rl, by rw [upd_same, List.map_set], fun i D2 hi => ?_, fun i j' D0 D1 nij hi hj' => ?_, fun i D0 hi => ?_, h.nrp, h.ntp, by rw [List.length_set]; exact h.n1, by rw [List.length_set]; exact h.n4⟩
  · rcases at_ i D2 hi with ⟨_, rfl⟩ | ⟨n, hi⟩
    · exact keepT R
    · exact keepT ((h.rd i D2 hi).other RD u (h.df i j D2 D n hi hj).1 (h.df i j D2 D n hi hj).2)
  · rcases at_ i D0 hi with ⟨e1, rfl⟩ | ⟨n1, hi⟩
    · rcases at_ j' D1 hj' with ⟨e2, _⟩ | ⟨n2, hj'⟩
      · exact absurd (e1.trans e2.symm) nij
      · rw [er, et]
        exact h.df j j' D D1 (fun z => n2 z.symm) hj hj'
    · rcases at_ j' D1 hj' with ⟨e2, e3⟩ | ⟨n2, hj'⟩
      · rw [e3, er, et]
        exact h.df i j D0 D n1 hi hj
      · exact h.df i j' D0 D1 nij hi hj'
  · rcases at_ i D0 hi with ⟨_, rfl⟩ | ⟨_, hi⟩
    · rw [et]; exact h.dl j D hj
    · exact h.dl i D0 hi
end
end J


set_option Elab.async false
set_option linter.all false
set_option maxRecDepth 100000
set_option maxHeartbeats 4000000
namespace J
open PySem L2
theorem LoomAt.exS {C : Addr} {H H' : Hp} {p q : Addr} {sg : List Nat} {us : List V} {as : List Arc} {xs : List V} (h : LoomAt C H q sg us as) (hp : H p = some (.lst xs)) (e : Ex p H H') : LoomAt C H' q sg us as := by
  obtain ⟨dx, T, h1, h2, h3, h4, h5⟩ := h
  refine ⟨dx, T, e _ _ ?_ h1, e _ _ ?_ h2, h3.ex e hp, h4, h5⟩
  · intro z; rw [z, hp] at h1; cases h1
  · intro z; rw [z, hp] at h2; cases h2
theorem LoomAt.exP {ns : List Int} {l : Addr} {C : Addr} {H H' : Hp} {p q : Addr} {sg : List Nat} {us : List V} {as : List Arc} (h : LoomAt C H q sg us as) (st : StAt ns l H p) (e : Ex p H H') : LoomAt C H' q sg us as := by
  obtain ⟨_, _, _, _, _, _, hp, _⟩ := st
  exact h.exS hp e
theorem at_last6 {α : Type} {xs : List α} {x : α} (h : xs.getLast? = some x) : atI xs (-1) = some x := by
  have hne : xs ≠ [] := fun z => by rw [z] at h; cases h
  have hl : 0 < xs.length := List.length_pos_iff.mpr hne
  unfold atI ixN
  rw [if_neg (by omega), if_pos (by omega)]
  show xs[((-1 : Int) + xs.length).toNat]? = some x
  rw [List.getLast?_eq_getElem?] at h
  rw [← h]
  congr 1
  omega
theorem covS_ne {as : List Arc} {g : Nat} {t l : List Nat} (ht : t ≠ []) : CovR as g t l ↔ CovS as g t l := ⟨fun h => .inr ⟨ht, h⟩, fun h => h.elim (fun z => absurd z.1 ht) fun z => z.2⟩
def spLaw (K : PySem.W.Frag) : Sp := fun vs H Q _ => ∃ (a : Addr) (ns : List Int), vs = [.ref a] ∧ SqL K H a (ns.map V.int) ∧ ns.length ≤ 63 ∧ ∀ H', Q (.bl true) H'
theorem txA_in6 {sg : List Nat} {as : List Arc} (h : OkW sg as) : ∀ r : List Nat, ∀ c ∈ txA as r, c ∈ sg := by
  intro r
  induction r with
  | nil => exact fun c hc => nomatch hc
  | cons i r ih =>
    intro c hc
    rw [txA_cons] at hc
    rcases List.mem_append.mp hc with q | q
    · unfold wdA at q
      rw [List.getD_eq_getElem?_getD] at q
      cases e : as[i]? with
      | none => rw [e] at q; cases q
      | some a =>
        rw [e] at q
        exact (h.2.2 a (List.mem_of_getElem? e)).2.1.2.2 c q
    · exact ih c q
theorem srr_nil {as : List Arc} {g : Nat} {row : List Nat} (h : Srr as [] 0 g row) : row = [] := by
  have L := srr_lcp h (fun _ _ => liv_nodup) ⟨[], Rw.nil _, List.nil_prefix⟩
  exact List.prefix_nil.mp (L.2.1 [] ⟨Rw.nil _, List.nil_prefix⟩)
theorem ne_one7 {K : PySem.W.Frag} {H : Hp} {a b : Addr} {s : Str} {Q : VK} (hs : SeqAt.shaped (.tuple [.str s]) = true) (he : PyData.eqv (.tuple [.str s]) (.tuple [.str s]) = true) (ha : H a = some (.tup [.str s])) (hb : H b = some (.tup [.str s])) (q : Q (.bl false) H) : rNeD K (.ref a) (.ref b) H Q :=
  ⟨.tuple [.str s], .tuple [.str s], .tup (SqT.of ha) (.cons (.str _) .nil), .tup (SqT.of hb) (.cons (.str _) .nil), hs, hs, by rw [he]; exact q⟩
theorem shaped_two7 (s : Str) (e3 : PyData.canLay0 (.str s) = true) (r : List Nat) : SeqAt.shaped (.tuple [.str s, rowD r]) = true := by
  unfold SeqAt.shaped
  have e1 : PyData.canLay0 (.tuple [.str s, rowD r]) = (PyData.canLay0 (.str s) && (PyData.canLayAll0 ((r.map fun n : Nat => (n : Int)).map PyData.int) && true)) := rfl
  have e2 : PyData.depth (.tuple [.str s, rowD r]) = max (PyData.depth (.str s)) (max (PyData.depthAll ((r.map fun n : Nat => (n : Int)).map PyData.int) + 1) 0) + 1 := rfl
  have e4 : PyData.depth (.str s) = 0 := rfl
  rw [e1, lay_ints, e2, deep_ints, e3, e4]
  rfl
theorem ne_two7 {K : PySem.W.Frag} {H : Hp} {a b x y : Addr} {s : Str} {r : List Nat} {Q : VK} (hs : PyData.canLay0 (.str s) = true) (he : PyData.eqv (.str s) (.str s) = true) (ha : H a = some (.tup [.str s, .ref x])) (hb : H b = some (.tup [.str s, .ref y])) (hx : H x = some (.lst (nats r))) (hy : H y = some (.lst (nats r))) (q : Q (.bl false) H) : rNeD K (.ref a) (.ref b) H Q := by
  refine ⟨.tuple [.str s, rowD r], .tuple [.str s, rowD r], .tup (SqT.of ha) (.cons (.str _) (.cons (.lst (SqL.of hx) (by rw [nats_map]; exact dp_ints _)) .nil)), .tup (SqT.of hb) (.cons (.str _) (.cons (.lst (SqL.of hy) (by rw [nats_map]; exact dp_ints _)) .nil)), shaped_two7 s hs r, shaped_two7 s hs r, ?_⟩
  have e : PyData.eqv (.tuple [.str s, rowD r]) (.tuple [.str s, rowD r]) = (PyData.eqv (.str s) (.str s) && (PyData.eqvAll ((r.map fun n : Nat => (n : Int)).map PyData.int) ((r.map fun n : Nat => (n : Int)).map PyData.int) && true)) := rfl
  rw [e, he, eqv_ints6, decide_eq_true rfl]
  exact q
section
variable {P : Program} {w : World} {K : PySem.W.Frag} {mg : Str → Option Value} {base : Heap}
theorem ok_law (T : Tx K mg) : FnOk P w K mg base CX0 9 T.f_law T.fd_law P_law (spLaw K) := by
  refine T.F_law.ok sc_law (fun vs H Q E h => ?_) (fun cdv A outer s0 H vs Q E hr h => ?_)
  · obtain ⟨a, ns, rfl, _⟩ := h
    rfl
  · obtain ⟨a, ns, rfl, hS, hlen, k⟩ := h
    have G_l_state : FnOk P w K mg base CX0 1 T.f_l_state T.fd_l_state P_l_state (spState K ns) := ok_l_state T ns
    have G_l_draw : FnOk P w K mg base CX0 1 T.f_l_draw T.fd_l_draw P_l_draw (spDraw ns) := ok_l_draw T ns
    have G_l_loom : FnOk P w K mg base CX0 3 T.f_l_loom T.fd_l_loom P_l_loom (spLoom ns) := ok_l_loom T ns
    have G_l_made : FnOk P w K mg base CX0 6 T.f_l_made T.fd_l_made P_l_made (spMade T.C_Loom) := ok_l_made T
    have G_l_met : FnOk P w K mg base CX0 2 T.f_l_met T.fd_l_met P_l_met spMet := ok_l_met T
    have G_l_odd : FnOk P w K mg base CX0 6 T.f_l_odd T.fd_l_odd P_l_odd (spOdd K ns) := ok_l_odd T ns
    have G_l_take : FnOk P w K mg base CX0 6 T.f_l_take T.fd_l_take P_l_take (spLTake K T.C_Loom T.C_Trail T.C_Reader) := ok_l_take T
    have G_Reader_init : FnOk P w K mg base CX0 5 T.f_Reader_init T.fd_Reader_init P_Reader_init (spReader T.C_Loom T.C_Trail T.C_Reader) := ok_Reader_init T
    have G_Reader_told : FnOk P w K mg base CX0 1 T.f_Reader_told T.fd_Reader_told P_Reader_told (spTold T.C_Loom T.C_Trail T.C_Reader) := ok_Reader_told T
    have G_Reader_text : FnOk P w K mg base CX0 1 T.f_Reader_text T.fd_Reader_text P_Reader_text (spTextR T.C_Loom T.C_Trail T.C_Reader) := ok_Reader_text T
    have G_Reader_twin : FnOk P w K mg base CX0 7 T.f_Reader_twin T.fd_Reader_twin P_Reader_twin (spTwin T.C_Loom T.C_Trail T.C_Reader) := ok_Reader_twin T
    have G_sure : FnOk P w K mg base CX0 3 T.f_sure T.fd_sure P_sure (spSure T.C_Loom) := ok_sure T
    have KB_Reader_init_state_loom : KBn K T.fd_Reader_init P_Reader_init 1 ["state", "loom"] (fun us ws => match us with | [u] => u :: ws.reverse | _ => []) (fun vs zs => match vs with | [v] => v :: zs.reverse | _ => []) :=
      T.F_Reader_init.kbinds1 (fun u ws => u :: ws.reverse) (fun _ _ _ _ _ _ _ ws hl => match ws, hl with | [_, _], _ => rfl) (fun h1 h2 => by
        cases h1 with
        | cons a _ => exact .cons a h2.reverse)
    refine ⟨_, (pss_cons (ps_set (i := 1) sc_law.nd rfl (Or.inl rfl) (pe_call G_l_state (hr.mono (by decide)) rfl T.m_l_state T.F_l_state.kp T.b_l_state .nil pass0 (pa_cons (pv 0) pa_nil)))
        (pss_cons (ps_for PassesOwn.never rfl (pi_range1 rfl T.n_range (pa_cons pe_int pa_nil)) (pg_name (i := 2) sc_law.nd rfl (Or.inl rfl)) (pss_cons (ps_set (i := 3) sc_law.nd rfl (Or.inl rfl) (pe_call G_l_loom (hr.mono (by decide)) rfl T.m_l_loom T.F_l_loom.kp T.b_l_loom .nil pass0 (pa_cons (pv 1) pa_nil)))
        (pss_cons (ps_asg (pv 3) (pg_tup rfl (pgs_cons (pg_name (i := 4) sc_law.nd rfl (Or.inl rfl)) (pgs_cons (pg_name (i := 5) sc_law.nd rfl (Or.inl rfl)) pgs_nil))))
        (pss_cons (ps_set (i := 6) sc_law.nd rfl (Or.inl rfl) (pe_call G_l_made (hr.mono (by decide)) rfl T.m_l_made T.F_l_made.kp T.b_l_made .nil pass0 (pa_cons (pv 3) pa_nil)))
        (pss_cons (ps_set (i := 7) sc_law.nd rfl (Or.inl rfl) (pe_ix (ix_listK (K := K) rfl) (pe_lst (pa_cons pe_int (pa_cons (pe_ix (ix_listK (K := K) rfl) (pe_call G_l_met (hr.mono (by decide)) rfl T.m_l_met T.F_l_met.kp T.b_l_met .nil pass0 (pa_cons (pv 5) pa_nil)) (pe_un un_neg pe_int) (fun _ _ => rfl)) (pa_cons pe_int pa_nil)))) (pe_call G_l_draw (hr.mono (by decide)) rfl T.m_l_draw T.F_l_draw.kp T.b_l_draw .nil pass0 (pa_cons (pv 1) (pa_cons pe_int pa_nil))) (fun _ _ => rfl)))
        (pss_cons (ps_set (i := 8) sc_law.nd rfl (Or.inl rfl) (pe_lst (pa_cons (pe_makeN0 T.M_Reader G_Reader_init (hr.mono (by decide)) rfl T.g_Reader KB_Reader_init_state_loom pass0 (pk_cons (pv 7) (pk_cons (pv 6) pk_nil))) pa_nil)))
        (pss_cons (ps_set (i := 9) sc_law.nd rfl (Or.inl rfl) (pe_lst (pa_cons pe_str pa_nil)))
        (pss_one (ps_for PassesOwn.never rfl (pi_range1 rfl T.n_range (pa_cons pe_int pa_nil)) (pg_name (i := 10) sc_law.nd rfl (Or.inl rfl)) (pss_cons (ps_set (i := 11) sc_law.nd rfl (Or.inl rfl) (pe_call G_l_draw (hr.mono (by decide)) rfl T.m_l_draw T.F_l_draw.kp T.b_l_draw .nil pass0 (pa_cons (pv 1) (pa_cons (pe_callB (call_len_seqK (K := K) rfl) rfl T.n_len (by decide +kernel) (pa_cons (pv 8) pa_nil)) pa_nil))))
        (pss_cons (ps_set (i := 12) sc_law.nd rfl (Or.inl rfl) (pe_ix (ix_listK (K := K) rfl) (pv 8) (pv 11) (fun _ _ => rfl)))
        (pss_cons (ps_set (i := 13) sc_law.nd rfl (Or.inl rfl) (pe_ix ix_str (pv 4) (pe_call G_l_draw (hr.mono (by decide)) rfl T.m_l_draw T.F_l_draw.kp T.b_l_draw .nil pass0 (pa_cons (pv 1) (pa_cons (pe_callB call_len_str rfl T.n_len (by decide +kernel) (pa_cons (pv 4) pa_nil)) pa_nil))) (fun _ _ => rfl)))
        (pss_cons (ps_set (i := 14) sc_law.nd rfl (Or.inl rfl) (pe_call G_sure (hr.mono (by decide)) rfl T.m_sure T.F_sure.kp T.b_sure .nil pass0 (pa_cons (pv 6) (pa_cons (pv 7) (pa_cons (pe_ix (ix_listK (K := K) rfl) (pv 9) (pv 11) (fun _ _ => rfl)) pa_nil)))))
        (C8.pss_cut (ps_if (PW.pt (pw_and (pt_cmpR op_eq (pe_call G_l_draw (hr.mono (by decide)) rfl T.m_l_draw T.F_l_draw.kp T.b_l_draw .nil pass0 (pa_cons (pv 1) (pa_cons pe_int pa_nil))) pe_int (nomark _)) (pw_and1 (pt_cmpR op_lt (pe_callB (call_len_seqK (K := K) rfl) rfl T.n_len (by decide +kernel) (pa_cons (pv 8) pa_nil)) pe_int (nomark _))))) (pss_cons (ps_expr (pe_bm PySem.F.plainAttrs_list PySem.F.slot_list_append PySem.F.type_list_append mt_append (pv 8) (pa_cons (pe_meth0 (pv 12) T.cl_Reader T.me_Reader_twin G_Reader_twin (hr.mono (by decide)) T.b_Reader_twin .nil pass0) pa_nil)))
        (pss_one (ps_expr (pe_bm PySem.F.plainAttrs_list PySem.F.slot_list_append PySem.F.type_list_append mt_append (pv 9) (pa_cons (pe_ix (ix_listK (K := K) rfl) (pv 9) (pv 11) (fun _ _ => rfl)) pa_nil))))) pss_nil)
        (pss_cons (ps_set (i := 15) sc_law.nd rfl (Or.inl rfl) (pe_call G_l_odd (hr.mono (by decide)) rfl T.m_l_odd T.F_l_odd.kp T.b_l_odd .nil pass0 (pa_cons (pv 1) pa_nil)))
        (pss_cons (ps_set (i := 16) sc_law.nd rfl (Or.inl rfl) (pe_ix (ix_listK (K := K) rfl) (pe_lst (pa_cons (pv 15) (pa_cons (pe_op op_add_str (pv 13) (pv 13)) (pa_cons pe_str (pa_cons pe_str (pa_cons pe_str (pa_cons (pe_lst (pa_cons (pv 13) pa_nil)) (pa_cons (pe_tup (pa_cons (pv 13) pa_nil)) pa_nil)))))))) (pe_call G_l_draw (hr.mono (by decide)) rfl T.m_l_draw T.F_l_draw.kp T.b_l_draw .nil pass0 (pa_cons (pv 1) (pa_cons pe_int pa_nil))) (fun _ _ => rfl)))
        (pss_cons (ps_if (pt_cmpR (op_neD hr.units) (pe_call G_l_take (hr.mono (by decide)) rfl T.m_l_take T.F_l_take.kp T.b_l_take .nil pass0 (pa_cons (pv 12) (pa_cons (pv 16) pa_nil))) (pe_tup (pa_cons pe_str pa_nil)) (nomark _)) (pss_one (ps_ret pe_bl)) pss_nil)
        (C8.pss_cut (ps_set (i := 17) sc_law.nd rfl (Or.inl rfl) (pe_call G_sure (hr.mono (by decide)) rfl T.m_sure T.F_sure.kp T.b_sure .nil pass0 (pa_cons (pv 6) (pa_cons (pv 7) (pa_cons (pe_op op_add_str (pe_ix (ix_listK (K := K) rfl) (pv 9) (pv 11) (fun _ _ => rfl)) (pv 13)) pa_nil)))))
        (C8.pss_cut (ps_set (i := 18) sc_law.nd rfl (Or.inl rfl) (pe_call G_l_take (hr.mono (by decide)) rfl T.m_l_take T.F_l_take.kp T.b_l_take .nil pass0 (pa_cons (pv 12) (pa_cons (pv 13) pa_nil))))
        (C8.pss_cut (ps_if (pt_cmpR op_isN (pv 17) pe_non (nomark _)) (pss_one (ps_if (pt_cmpR (op_neD hr.units) (pv 18) (pe_tup (pa_cons pe_str pa_nil)) (nomark _)) (pss_one (ps_ret pe_bl)) pss_nil)) (pss_cons (ps_if (pt_cmpR (op_neD hr.units) (pv 18) (pe_tup (pa_cons pe_str (pa_cons (pe_slice (sl_listK (K := K) rfl) (pv 17) (po_some (pe_callB (call_len_seqK (K := K) rfl) rfl T.n_len (by decide +kernel) (pa_cons (pv 14) pa_nil))) po_none) pa_nil))) (nomark _)) (pss_one (ps_ret pe_bl)) pss_nil)
        (pss_one (ps_asg (pe_op op_add_str (pe_ix (ix_listK (K := K) rfl) (pv 9) (pv 11) (fun _ _ => rfl)) (pv 13)) (pg_sub (pv 9) (pv 11) set_list)))))
        (pss_one (ps_for PassesOwn.never rfl (pi_range1 rfl T.n_range (pa_cons (pe_callB (call_len_seqK (K := K) rfl) rfl T.n_len (by decide +kernel) (pa_cons (pv 8) pa_nil)) pa_nil)) (pg_name (i := 19) sc_law.nd rfl (Or.inl rfl)) (pss_one (ps_if (PW.pt (pw_or (pt_cmpR op_ne (pe_meth0 (pe_ix (ix_listK (K := K) rfl) (pv 8) (pv 19) (fun _ _ => rfl)) T.cl_Reader T.me_Reader_text G_Reader_text (hr.mono (by decide)) T.b_Reader_text .nil pass0) (pe_ix (ix_listK (K := K) rfl) (pv 9) (pv 19) (fun _ _ => rfl)) (nomark _)) (pw_or1 (pt_cmpR (op_neD hr.units) (pe_meth0 (pe_ix (ix_listK (K := K) rfl) (pv 8) (pv 19) (fun _ _ => rfl)) T.cl_Reader T.me_Reader_told G_Reader_told (hr.mono (by decide)) T.b_Reader_told .nil pass0) (pe_call G_sure (hr.mono (by decide)) rfl T.m_sure T.F_sure.kp T.b_sure .nil pass0 (pa_cons (pv 6) (pa_cons (pv 7) (pa_cons (pe_ix (ix_listK (K := K) rfl) (pv 9) (pv 19) (fun _ _ => rfl)) pa_nil)))) (nomark _))))) (pss_one (ps_ret pe_bl)) pss_nil))))))))))))))))))))))))
        (pss_one (ps_ret pe_bl)))), ?_⟩
    refine ⟨_, rfl, a, rfl, hS, fun H1 p l s1 hp hl st1 => ?_⟩
    refine ⟨4, rfl, by decide, by decide, for_range (lo := 0) (n := 4) (fun i σ H' => ∃ v2 v3 v4 v5 v6 v7 v8 v9 v10 v11 v12 v13 v14 v15 v16 v17 v18 v19 : Option V, σ = [some (.ref a), some (.ref p), v2, v3, v4, v5, v6, v7, v8, v9, v10, v11, v12, v13, v14, v15, v16, v17, v18, v19] ∧ StAt ns l H' p) ?_ ?_ ?_⟩
    · exact ⟨none, none, none, none, none, none, none, none, none, none, none, none, none, none, none, none, none, none, rfl, st1⟩
    · rintro i σ H2 hi ⟨v2, v3, v4, v5, v6, v7, v8, v9, v10, v11, v12, v13, v14, v15, v16, v17, v18, v19, rfl, st2⟩
      refine ⟨_, rfl, p, l, rfl, st2, fun H3 q r sg us as x3 st3 hq hr0 htup hlst harc hok hsg hy121 => ?_⟩
      refine ⟨_, rfl, q, _, rfl, SqT.of htup, rfl, _, _, rfl, _, _, rfl, rfl, ?_⟩
      refine ⟨_, rfl, q, r, sg, us, as, rfl, htup, hlst, harc, hok.w, hsg, fun H4 lm s4 hlm hloom => ?_⟩
      have oka := hok.all
      have hw : Wd6 as := Wd6.of oka
      have arc4 : ArcL H4 r as := ⟨us, s4 _ _ hlst, harc.same s4⟩
      refine ⟨_, rfl, r, as, rfl, arc4, oka, fun H5 L ms s5 hL0 hL hms hreach => ?_⟩
      have hne : ms ≠ [] := fun z => by
        have := (hreach 0).mpr .zero
        rw [z] at this
        cases this
      obtain ⟨gl, hgl⟩ : ∃ gl, ms.getLast? = some gl := ⟨ms.getLast hne, List.getLast?_eq_some_getLast hne⟩
      have hgl63 : gl ≤ 63 := ((hreach gl).mp (List.mem_of_getLast? hgl)).le oka
      have hlast : (nats ms).getLast? = some (V.int (gl : Nat)) := by rw [List.getLast?_map, hgl]; rfl
      refine ⟨_, rfl, L, _, _, _, rfl, rfl, SqL.of hL, at_last6 hlast, le_size (by simp), fun hs hhs => ?_⟩
      have sh : Same H5 (upd H5 hs (.lst [V.int 0, V.int (gl : Nat), V.int 5])) := Same.new _ hhs
      have ghs : upd H5 hs (.lst [V.int 0, V.int (gl : Nat), V.int 5]) hs = some (.lst (nats [0, gl, 5])) := upd_same
      generalize upd H5 hs (.lst [V.int 0, V.int (gl : Nat), V.int 5]) = H6 at *
      have st5 := (st3.same s4).same s5
      have st6 := st5.same sh
      have nhs := st5.ne hhs
      refine ⟨_, rfl, p, l, 3, rfl, st6, by decide, by decide, fun H7 r7 x7 st7 r70 r71 => ?_⟩
      obtain ⟨j7, rfl⟩ := Int.eq_ofNat_of_zero_le r70
      obtain ⟨g, hg, hg63⟩ : ∃ g : Nat, ([0, gl, 5] : List Nat)[j7]? = some g ∧ g ≤ 63 := by
        match j7, r71 with
        | 0, _ => exact ⟨0, rfl, Nat.zero_le _⟩
        | 1, _ => exact ⟨gl, rfl, hgl63⟩
        | 2, _ => exact ⟨5, rfl, by decide⟩
        | j + 3, h => omega
      have hg' : (nats [0, gl, 5])[j7]? = some (V.int (g : Nat)) := by unfold nats; rw [List.getElem?_map, hg]; rfl
      refine ⟨hs, _, _, _, rfl, rfl, SqL.of (x7 _ _ nhs.1 ghs), atI_nat hg', ?_⟩
      have hloom7 : LoomAt T.C_Loom H7 lm sg us as := LoomAt.exP ((hloom.same s5).same sh) st6 x7
      refine ⟨_, rfl, _, rfl, rfl, ?_⟩
      intro rd dxr hxr hdxr hner
      have s6 : Same H7 (upd (upd H7 dxr (.own rd)) rd (.ins T.C_Reader dxr [])) := (Same.new _ hdxr).updNew hxr
      refine ⟨rd, dxr, lm, sg, us, as, g, rfl, upd_same, hloom7.same s6, hg63, fun HF d tl pl ds S x6 htl hpl hRd => ⟨rfl, ?_⟩⟩
      have sF : Same H7 HF := fun b o e => x6 _ _ (ne_of_none e hxr) (s6 _ _ e)
      have htl0 : H7 tl = none := s6.free htl
      clear s6 htl hpl hner hdxr
      refine ⟨le_size (by simp), fun RL hRL => ?_⟩
      have sRL := Same.new (.lst [V.ref rd]) hRL
      have gRL : upd HF RL (.lst [V.ref rd]) RL = some (.lst [V.ref rd]) := upd_same
      have stF := st7.same sF
      have nRL := (stF.ne hRL).1
      have hRd1 := hRd.same sRL
      have st8 := stF.same sRL
      generalize upd HF RL (.lst [V.ref rd]) = H8 at *
      refine ⟨le_size (by simp), fun TL hTL => ?_⟩
      have sTL := Same.new (.lst [V.str (Str.ofString "")]) hTL
      have gTL : upd H8 TL (.lst [V.str (Str.ofString "")]) TL = some (.lst [V.str (SX.S [])]) := upd_same
      have nTL := (st8.ne hTL).1
      have hRd2 := hRd1.same sTL
      have st9 := st8.same sTL
      have gRL2 := sTL _ _ gRL
      generalize upd H8 TL (.lst [V.str (Str.ofString "")]) = H9 at *
      have htll : tl ≠ l := fun z => by
        obtain ⟨_, _, _, _, _, hl7, _⟩ := st7
        rw [← z, htl0] at hl7
        cases hl7
      have dk9 : Dsk ns l p T.C_Loom T.C_Trail T.C_Reader as g lm sg us RL TL H9 [⟨rd, d, tl, pl, [], [], ds, S⟩] := by
        refine ⟨st9, gRL2, gTL, fun i D hD => ?_, fun i j D D' nij hi hj => ?_, fun i D hD => ?_, nRL, nTL, Nat.le_refl _, by simp⟩
        · cases i with
          | zero => cases hD; exact hRd2
          | succ i => simp at hD
        · have h1 := (List.getElem?_eq_some_iff.mp hi).1
          have h2 := (List.getElem?_eq_some_iff.mp hj).1
          simp at h1 h2
          omega
        · cases i with
          | zero => cases hD; exact htll
          | succ i => simp at hD
      refine ⟨14, rfl, by decide, by decide, for_range (lo := 0) (n := 14) (fun n σ H' => ∃ (L : List RD) (v10 v11 v12 v13 v14 v15 v16 v17 v18 v19 : Option V), σ = [some (.ref a), some (.ref p), some (.int (0 + (i : Int))), some (.ref q), some (.str (SX.S sg)), some (.ref r), some (.ref lm), some (.int (g : Int)), some (.ref RL), some (.ref TL), v10, v11, v12, v13, v14, v15, v16, v17, v18, v19] ∧ Dsk ns l p T.C_Loom T.C_Trail T.C_Reader as g lm sg us RL TL H' L ∧ ∀ D ∈ L, D.t.length ≤ n) ?_ ?_ ?_⟩
      · exact ⟨_, v10, v11, v12, v13, v14, v15, v16, v17, v18, v19, rfl, dk9, fun D hD => by rw [List.mem_singleton.mp hD]; exact Nat.zero_le _⟩
      · rintro n σ H10 hn ⟨L, v10, v11, v12, v13, v14, v15, v16, v17, v18, v19, rfl, dk, hlen14⟩
        refine ⟨_, rfl, _, rfl, RL, _, rfl, .inl (SqL.of dk.rl), ?_⟩
        rw [List.length_map]
        have dn1 := dk.n1
        have dn4 := dk.n4
        refine ⟨p, l, _, rfl, dk.st, by omega, by omega, fun H11 r11 x11 st11 r110 r111 => ?_⟩
        obtain ⟨j, rfl⟩ := Int.eq_ofNat_of_zero_le r110
        have hjl : j < L.length := by exact_mod_cast r111
        have dk11 := dk.exP x11 st11
        obtain ⟨D, hD⟩ : ∃ D, L[j]? = some D := ⟨_, List.getElem?_eq_getElem hjl⟩
        refine ⟨_, rfl, _, rfl, RL, _, _, _, rfl, rfl, SqL.of dk11.rl, atI_nat (j := j) (v := V.ref D.r) (by rw [List.getElem?_map, hD]; rfl), ?_⟩
        refine ⟨_, rfl, _, rfl, _, rfl, _, rfl, le_size (by rw [SX.S_len]; have := hsg.len; omega), p, l, _, rfl, dk11.st, by rw [SX.S_len]; have := hsg.len; omega, by rw [SX.S_len]; have := hsg.len; omega, fun H12 r12 x12 st12 r120 r121 => ?_⟩
        rw [SX.S_len] at r121
        obtain ⟨c, hc, hat⟩ := atI_mem (xs := sg) r120 r121
        have dk12 := dk11.exP x12 st12
        refine ⟨_, _, c, rfl, rfl, le_size (by rw [SX.S_len]; have := hsg.len; omega), hat, ?_⟩
        have R12 := dk12.rd j D hD
        have tlen : D.t.length ≤ 13 := by have := hlen14 D (List.mem_of_getElem? hD); omega
        have tfew := R12.few hw
        refine ⟨_, rfl, _, rfl, _, rfl, _, rfl, TL, _, _, _, rfl, rfl, SqL.of dk12.tx, atI_nat (j := j) (v := V.str (SX.S D.t)) (by rw [List.getElem?_map, hD]; rfl), ?_⟩
        refine ⟨lm, sg, us, as, g, D.t, rfl, R12.loom, hg63, by omega, R12.ch, fun hne z => ?_, fun _ H13 q14 row s13 hq14 gq14 srr => ?_⟩
        · exfalso
          rcases R12.lcp with ⟨e, _⟩ | ⟨_, e⟩
          · exact hne e
          · exact (covR_liv hne).mpr e.1 z
        have erow : row = D.told := by
          rcases R12.lcp with ⟨e1, e2⟩ | ⟨e1, e2⟩
          · rw [e1] at srr
            rw [srr_nil srr, e2]
          · exact (told_sure e1 e2 srr).symm
        subst erow
        have dk13 := dk12.same s13
        refine ⟨fun σ' H' => ∃ L : List RD, σ' = [some (.ref a), some (.ref p), some (.int (0 + (i : Int))), some (.ref q), some (.str (SX.S sg)), some (.ref r), some (.ref lm), some (.int (g : Int)), some (.ref RL), some (.ref TL), some (.int (0 + (n : Int))), some (.int (j : Int)), some (.ref D.r), some (.str ⟨#[c]⟩), some (.ref q14), v15, v16, v17, v18, v19] ∧ Dsk ns l p T.C_Loom T.C_Trail T.C_Reader as g lm sg us RL TL H' L ∧ L[j]? = some D ∧ (∀ D ∈ L, D.t.length ≤ n) ∧ H' q14 = some (.lst (nats D.told)), ?_, ?_⟩
        · refine ⟨_, rfl, p, l, 4, rfl, dk13.st, by decide, by decide, fun H14 r14 x14 st14 _ _ => ⟨rfl, _, rfl, ?_⟩⟩
          have dk14 := dk13.exP x14 st14
          have gq14' := x14 _ _ (dk13.nP gq14).symm gq14
          refine ite2 (fun _ => ?_) (fun _ => ⟨L, rfl, dk14, hD, hlen14, gq14'⟩)
          refine ⟨_, rfl, RL, _, rfl, .inl (SqL.of dk14.rl), _, _, rfl, rfl, _, rfl, ?_⟩
          refine ite2 (fun c4 => ?_) (fun _ => ⟨L, rfl, dk14, hD, hlen14, gq14'⟩)
          have h4 : L.length < 4 := by
            have := of_decide_eq_true c4
            rw [List.length_map] at this
            omega
          have R14 := dk14.rd j D hD
          obtain ⟨dr, hobj⟩ := R14.obj
          refine ⟨_, rfl, .inl ⟨rfl, _, SqL.of dk14.rl⟩, ?_⟩
          refine ⟨_, rfl, D.r, dr, _, rfl, hobj, rfl, as, g, D.r, lm, D.d, D.tl, D.pl, sg, us, D.t, D.told, D.ds, D.S, rfl, R14, fun H15 r2 d2 tl2 pl2 s15 hr2 ht2 R2 => ?_⟩
          have rl15 := s15 _ _ dk14.rl
          have tx15 := s15 _ _ dk14.tx
          refine ⟨RL, _, _, rfl, rfl, rl15, lt_size (by rw [List.length_map]; omega), ?_⟩
          have nRT := dk14.nRT
          have tx16 : upd H15 RL (.lst ((L.map fun D => V.ref D.r) ++ [V.ref r2])) TL = some (.lst (L.map fun D => V.str (SX.S D.t))) := by rw [upd_ne nRT.symm]; exact tx15
          refine ⟨_, rfl, .inl ⟨rfl, _, SqL.of tx16⟩, _, rfl, _, rfl, TL, _, _, _, rfl, rfl, SqL.of tx16, atI_nat (j := j) (v := V.str (SX.S D.t)) (by rw [List.getElem?_map, hD]; rfl), TL, _, _, rfl, rfl, tx16, lt_size (by rw [List.length_map]; omega), ?_⟩
          refine ⟨_, rfl, dk14.twin hD h4 s15 hr2 ht2 R2, by rw [List.getElem?_append_left hjl]; exact hD, fun D2 hD2 => ?_, ?_⟩
          · rcases List.mem_append.mp hD2 with h | h
            · exact hlen14 D2 h
            · rw [List.mem_singleton.mp h]; exact hlen14 D (List.mem_of_getElem? hD)
          · rw [upd_ne (dk14.nT gq14').symm, upd_ne (dk14.nR gq14').symm]
            exact s15 _ _ gq14'
        have n14t : q14 ≠ D.tl := hp_ne R12.tl_ hq14
        clear s13 dk13 dk12 dk11 dk hlen14 hD R12 gq14
        rintro σ' H13 ⟨L, rfl, dk13, hD, hlen14, gq14⟩
        refine ⟨_, rfl, p, l, rfl, dk13.st, fun H14 xo x14 st14 odd => ?_⟩
        have dk14 := dk13.exP x14 st14
        have gq14a := x14 _ _ (dk13.nP gq14).symm gq14
        refine ⟨_, rfl, _, rfl, _, rfl, _, _, rfl, rfl, le_size (by show 1 + 1 ≤ _; decide), ?_⟩
        refine ⟨_, rfl, le_size (by simp), fun b1 hb1 => ?_⟩
        have sb1 := Same.new (.lst [V.str ⟨#[c]⟩]) hb1
        have gb1 : upd H14 b1 (.lst [V.str ⟨#[c]⟩]) b1 = some (.lst [V.str ⟨#[c]⟩]) := upd_same
        have nb1 := (st14.ne hb1).1
        have st15 := st14.same sb1
        generalize upd H14 b1 (.lst [V.str ⟨#[c]⟩]) = H15 at *
        refine ⟨_, rfl, le_size (by simp), fun b2 hb2 => ?_⟩
        have sb2 := Same.new (.tup [V.str ⟨#[c]⟩]) hb2
        have gb2 : upd H15 b2 (.tup [V.str ⟨#[c]⟩]) b2 = some (.tup [V.str ⟨#[c]⟩]) := upd_same
        have nb2 := (st15.ne hb2).1
        have st16 := st15.same sb2
        generalize upd H15 b2 (.tup [V.str ⟨#[c]⟩]) = H16 at *
        refine ⟨le_size (by simp), fun b3 hb3 => ?_⟩
        have sb3 := Same.new (.lst [xo, V.str ((⟨#[c]⟩ : Str) ++ (⟨#[c]⟩ : Str)), V.str (Str.ofString ""), V.str (Str.ofString "y"), V.str (Str.ofString "A"), V.ref b1, V.ref b2]) hb3
        have gb3 : upd H16 b3 (.lst [xo, V.str ((⟨#[c]⟩ : Str) ++ (⟨#[c]⟩ : Str)), V.str (Str.ofString ""), V.str (Str.ofString "y"), V.str (Str.ofString "A"), V.ref b1, V.ref b2]) b3 = some (.lst [xo, V.str ((⟨#[c]⟩ : Str) ++ (⟨#[c]⟩ : Str)), V.str (Str.ofString ""), V.str (Str.ofString "y"), V.str (Str.ofString "A"), V.ref b1, V.ref b2]) := upd_same
        have nb3 := (st16.ne hb3).1
        have st17 := st16.same sb3
        generalize upd H16 b3 (.lst [xo, V.str ((⟨#[c]⟩ : Str) ++ (⟨#[c]⟩ : Str)), V.str (Str.ofString ""), V.str (Str.ofString "y"), V.str (Str.ofString "A"), V.ref b1, V.ref b2]) = H17 at *
        have s1417 := (sb1.trans sb2).trans sb3
        refine ⟨_, rfl, p, l, 7, rfl, st17, by decide, by decide, fun H18 r18 x18 st18 r180 r181 => ?_⟩
        have dk18 := (dk14.same s1417).exP x18 st18
        have gq18 := x18 _ _ ((dk14.same s1417).nP (s1417 _ _ gq14a)).symm (s1417 _ _ gq14a)
        have gb1' := x18 _ _ nb1 (sb3 _ _ (sb2 _ _ gb1))
        have gb2' := x18 _ _ nb2 (sb3 _ _ gb2)
        obtain ⟨xb, hatb, hbad⟩ : ∃ xb, atI [xo, V.str ((⟨#[c]⟩ : Str) ++ (⟨#[c]⟩ : Str)), V.str (Str.ofString ""), V.str (Str.ofString "y"), V.str (Str.ofString "A"), V.ref b1, V.ref b2] r18 = some xb ∧ BadOn K sg H18 xb := by
          have : r18 = 0 ∨ r18 = 1 ∨ r18 = 2 ∨ r18 = 3 ∨ r18 = 4 ∨ r18 = 5 ∨ r18 = 6 := by omega
          rcases this with rfl | rfl | rfl | rfl | rfl | rfl | rfl
          · exact ⟨_, rfl, odd sg hsg H18 ((Same.ex (p := p) s1417).trans x18)⟩
          · refine ⟨_, rfl, ?_⟩
            rw [show (⟨#[c]⟩ : Str) ++ (⟨#[c]⟩ : Str) = SX.S [c, c] from S_cat6 [c] [c]]
            exact .str (by simp) (fun z => by simp at z)
          · exact ⟨_, rfl, .str (t := []) (by decide) (fun z => by simp at z)⟩
          · exact ⟨_, rfl, .str (t := [121]) (by decide) (fun z => hy121 (z.2 121 (by simp)))⟩
          · exact ⟨_, rfl, .str (t := [65]) (by decide) (noSig hsg 65 (by simp) (by decide))⟩
          · exact ⟨_, rfl, .non (.x (.base (.lst gb1'))) (kit_ty (by decide +kernel))⟩
          · exact ⟨_, rfl, .non (.x (.base (.tup gb2'))) (kit_ty (by decide +kernel))⟩
        refine ⟨b3, _, r18, xb, rfl, rfl, SqL.of (x18 _ _ nb3 gb3), hatb, ?_⟩
        have R18 := dk18.rd j D hD
        refine ⟨_, rfl, _, rfl, as, g, D.r, lm, D.d, D.tl, D.pl, sg, us, D.t, D.told, D.ds, D.S, xb, rfl, R18, by omega, by omega, .inl ⟨hbad, fun H19 w1 s19 hw1 gw1 => ?_⟩⟩
        refine ⟨le_size (by simp), fun w2 hw2 => ?_⟩
        refine ne_one7 (s := "text") (by decide +kernel) (by decide +kernel) (Same.new _ hw2 _ _ gw1) upd_same ⟨_, rfl, iteF ?_⟩
        have s1820 := s19.trans (Same.new (.tup [V.str "text"]) hw2)
        generalize upd H19 w2 (.tup [V.str (Str.ofString "text")]) = H20 at *
        have dk20 := dk18.same s1820
        have gq20 := s1820 _ _ gq18
        have R20 := dk20.rd j D hD
        have ecat : SX.S D.t ++ (⟨#[c]⟩ : Str) = SX.S (D.t ++ [c]) := S_cat6 D.t [c]
        have tne : D.t ++ [c] ≠ [] := by simp
        have tch : ∀ x ∈ D.t ++ [c], x ∈ sg := fun x hx => (List.mem_append.mp hx).elim (R20.ch x) fun z => by rw [List.mem_singleton.mp z]; exact hc
        have tl14 : (D.t ++ [c]).length ≤ 14 := by rw [List.length_append, List.length_singleton]; omega
        refine ⟨fun σ' H' => ∃ v17 : V, σ' = [some (.ref a), some (.ref p), some (.int (0 + (i : Int))), some (.ref q), some (.str (SX.S sg)), some (.ref r), some (.ref lm), some (.int (g : Int)), some (.ref RL), some (.ref TL), some (.int (0 + (n : Int))), some (.int (j : Int)), some (.ref D.r), some (.str ⟨#[c]⟩), some (.ref q14), some xo, some xb, some v17, v18, v19] ∧ Dsk ns l p T.C_Loom T.C_Trail T.C_Reader as g lm sg us RL TL H' L ∧ H' q14 = some (.lst (nats D.told)) ∧ ((v17 = .non ∧ ¬ ∃ l, CovR as g (D.t ++ [c]) l) ∨ ∃ q17 tl', v17 = .ref q17 ∧ H' q17 = some (.lst (nats tl')) ∧ q17 ≠ D.tl ∧ LcpOf (CovR as g (D.t ++ [c])) tl'), ?_, ?_⟩
        · refine ⟨_, rfl, _, rfl, _, rfl, _, rfl, TL, _, _, _, rfl, rfl, SqL.of dk20.tx, atI_nat (j := j) (v := V.str (SX.S D.t)) (by rw [List.getElem?_map, hD]; rfl), _, rfl, _, _, rfl, rfl, le_size (by show (SX.S D.t).length + 1 ≤ _; rw [SX.S_len]; omega), ?_⟩
          rw [ecat]
          refine ⟨lm, sg, us, as, g, D.t ++ [c], rfl, R20.loom, hg63, by omega, tch, fun _ z H21 s21 => ?_, fun z H21 q17 row17 s21 hq17 gq17 srr17 => ?_⟩
          · exact ⟨_, rfl, dk20.same s21, s21 _ _ gq20, .inl ⟨rfl, fun h => (covR_liv tne).mpr h z⟩⟩
          · have cov := (covR_liv tne).mp (z.resolve_left tne)
            refine ⟨_, rfl, dk20.same s21, s21 _ _ gq20, .inr ⟨q17, row17, rfl, gq17, hp_ne R20.tl_ hq17, ?_⟩⟩
            refine (lcp_cov0 tne).mpr (srr_lcp srr17 (fun _ _ => liv_nodup) ?_)
            obtain ⟨l0, hl0⟩ := cov
            exact ⟨l0, cov0_of hl0⟩
        clear dk13 dk14 dk18 dk20 R18 R20 gq14 gq14a gq18 gq20
        rintro σ' H21 ⟨v17, rfl, dk21, gq21, hv17⟩
        have R21 := dk21.rd j D hD
        refine ⟨fun σ' H' => ∃ v17 v18 : V, σ' = [some (.ref a), some (.ref p), some (.int (0 + (i : Int))), some (.ref q), some (.str (SX.S sg)), some (.ref r), some (.ref lm), some (.int (g : Int)), some (.ref RL), some (.ref TL), some (.int (0 + (n : Int))), some (.int (j : Int)), some (.ref D.r), some (.str ⟨#[c]⟩), some (.ref q14), some xo, some xb, some v17, some v18, v19] ∧ ((v17 = .non ∧ ∃ w, v18 = .ref w ∧ H' w = some (.tup [.str "stuck"]) ∧ Dsk ns l p T.C_Loom T.C_Trail T.C_Reader as g lm sg us RL TL H' L) ∨ (∃ H0 q17 tl' w nl pl' ds' S', v17 = .ref q17 ∧ v18 = .ref w ∧ Dsk ns l p T.C_Loom T.C_Trail T.C_Reader as g lm sg us RL TL H0 L ∧ Up2 D.r D.tl H0 H' ∧ H' w = some (.tup [.str "told", .ref nl]) ∧ H' nl = some (.lst (nats (tl'.drop D.told.length))) ∧ H' q17 = some (.lst (nats tl')) ∧ RdS T.C_Loom T.C_Trail T.C_Reader as g H' D.r lm D.d D.tl pl' sg us (D.t ++ [c]) tl' ds' S' ∧ H' q14 = some (.lst (nats D.told)))), ?_, ?_⟩
        · refine ⟨_, rfl, _, rfl, as, g, D.r, lm, D.d, D.tl, D.pl, sg, us, D.t, D.told, D.ds, D.S, _, rfl, R21, by omega, by omega, .inr ⟨c, rfl, hc, fun hn H22 w3 s22 hw3 gw3 => ?_, fun hcov H22 w3 nl pl' ds' S' told' U22 hw3 gw3 hnl gnl ppre R22 => ?_⟩⟩
          · rcases hv17 with ⟨rfl, _⟩ | ⟨q17, tl', rfl, gq17, nq17, lc⟩
            · exact ⟨_, _, rfl, .inl ⟨rfl, w3, rfl, gw3, dk21.same s22⟩⟩
            · exact absurd lc.1 hn
          · rcases hv17 with ⟨rfl, h⟩ | ⟨q17, tl', rfl, gq17, nq17, lc⟩
            · exact absurd hcov h
            · have et : told' = tl' := by
                rcases R22.lcp with ⟨z, _⟩ | ⟨_, z⟩
                · exact absurd z tne
                · exact z.uniq lc
              subst et
              obtain ⟨dr, hobj⟩ := R21.obj
              exact ⟨_, _, rfl, .inr ⟨H21, q17, told', w3, nl, pl', ds', S', rfl, rfl, dk21, U22, gw3, gnl, U22 _ _ (fun z => by rw [z, hobj] at gq17; cases gq17) nq17 gq17, R22, U22 _ _ (fun z => by rw [z, hobj] at gq21; cases gq21) n14t gq21⟩⟩
        clear hv17 dk21 R21 gq21
        rintro σ' H22 ⟨v17, v18, rfl, hv⟩
        refine ⟨fun σ' H' => ∃ (L2 : List RD) (v17 v18 : V), σ' = [some (.ref a), some (.ref p), some (.int (0 + (i : Int))), some (.ref q), some (.str (SX.S sg)), some (.ref r), some (.ref lm), some (.int (g : Int)), some (.ref RL), some (.ref TL), some (.int (0 + (n : Int))), some (.int (j : Int)), some (.ref D.r), some (.str ⟨#[c]⟩), some (.ref q14), some xo, some xb, some v17, some v18, v19] ∧ Dsk ns l p T.C_Loom T.C_Trail T.C_Reader as g lm sg us RL TL H' L2 ∧ ∀ D ∈ L2, D.t.length ≤ n + 1, ?_, ?_⟩
        · rcases hv with ⟨rfl, w, rfl, gw, dk22⟩ | ⟨H0, q17, tl', w, nl, pl', ds', S', rfl, rfl, dk0, U, gw, gnl, gq17, R', gq22⟩
          · refine ⟨_, rfl, rfl, _, rfl, iteT ?_⟩
            refine ⟨_, rfl, le_size (by simp), fun w2 hw2 => ?_⟩
            refine ne_one7 (s := "stuck") (by decide +kernel) (by decide +kernel) (Same.new _ hw2 _ _ gw) upd_same ⟨_, rfl, iteF ?_⟩
            exact ⟨L, _, _, rfl, dk22.same (Same.new _ hw2), fun D hD => by have := hlen14 D hD; omega⟩
          · refine ⟨_, rfl, rfl, _, rfl, iteF ?_⟩
            refine ⟨_, rfl, _, rfl, _, rfl, q14, _, rfl, .inl (SqL.of gq22), _, rfl, q17, _, rfl, SqL.of gq17, fun z1 hz1 => ?_⟩
            have ez : cutV (nats tl') (some ((nats D.told).length : Int)) none = nats (tl'.drop D.told.length) := by
              rw [nats_lenY, cutV_from6]
              simp [nats]
            rw [ez]
            have sz1 := Same.new (.lst (nats (tl'.drop D.told.length))) hz1
            have gz1 : upd H22 z1 (.lst (nats (tl'.drop D.told.length))) z1 = some (.lst (nats (tl'.drop D.told.length))) := upd_same
            generalize upd H22 z1 (.lst (nats (tl'.drop D.told.length))) = H25 at *
            refine ⟨le_size (by simp), fun w2 hw2 => ?_⟩
            have sw2 := Same.new (.tup [V.str "told", V.ref z1]) hw2
            refine ne_two7 (s := "told") (by decide +kernel) (by decide +kernel) (sw2 _ _ (sz1 _ _ gw)) upd_same (sw2 _ _ (sz1 _ _ gnl)) (sw2 _ _ gz1) ⟨_, rfl, iteF ?_⟩
            generalize upd H25 w2 (.tup [V.str (Str.ofString "told"), V.ref z1]) = H26 at *
            have s26 := sz1.trans sw2
            have nTr : TL ≠ D.r := fun z => by
              obtain ⟨dr, hobj⟩ := (dk0.rd j D hD).obj
              have := dk0.tx
              rw [z, hobj] at this
              cases this
            have tx26 : H26 TL = some (.lst (L.map fun D => V.str (SX.S D.t))) := s26 _ _ (U _ _ nTr (dk0.nT (dk0.rd j D hD).tl_) dk0.tx)
            refine ⟨_, rfl, _, rfl, TL, _, _, _, rfl, rfl, SqL.of tx26, atI_nat (j := j) (v := V.str (SX.S D.t)) (by rw [List.getElem?_map, hD]; rfl), _, rfl, _, _, rfl, rfl, le_size (by show (SX.S D.t).length + 1 ≤ _; rw [SX.S_len]; omega), ?_⟩
            rw [ecat]
            have ix : ixN (L.map fun D => V.str (SX.S D.t)).length (j : Int) = some j := by
              have jl := (List.getElem?_eq_some_iff.mp hD).1
              rw [List.length_map]
              unfold ixN
              rw [if_pos (by omega), if_pos (by omega), Int.toNat_natCast]
            refine ⟨_, rfl, _, rfl, TL, _, _, _, rfl, rfl, tx26, ix, ?_⟩
            refine ⟨L.set j ⟨D.r, D.d, D.tl, pl', D.t ++ [c], tl', ds', S'⟩, _, _, rfl, dk0.took (D' := ⟨D.r, D.d, D.tl, pl', D.t ++ [c], tl', ds', S'⟩) hD (fun b o n1 n2 h => s26 _ _ (U _ _ n1 n2 h)) rfl rfl (R'.same s26), fun D2 hD2 => ?_⟩
            rcases List.mem_or_eq_of_mem_set hD2 with h | h
            · have := hlen14 D2 h; omega
            · rw [h]
              have := hlen14 D (List.mem_of_getElem? hD)
              show (D.t ++ [c]).length ≤ n + 1
              rw [List.length_append, List.length_singleton]
              omega
        rintro σ' H23 ⟨L2, v17, v18, rfl, dk23, hl23⟩
        refine ⟨_, rfl, RL, _, rfl, .inl (SqL.of dk23.rl), _, rfl, by rw [List.length_map]; have := dk23.n4; omega, by rw [List.length_map]; have := dk23.n4; omega, ?_⟩
        rw [List.length_map, Int.toNat_natCast]
        refine for_range (lo := 0) (n := L2.length) (fun m σ H' => ∃ v19 : Option V, σ = [some (.ref a), some (.ref p), some (.int (0 + (i : Int))), some (.ref q), some (.str (SX.S sg)), some (.ref r), some (.ref lm), some (.int (g : Int)), some (.ref RL), some (.ref TL), some (.int (0 + (n : Int))), some (.int (j : Int)), some (.ref D.r), some (.str ⟨#[c]⟩), some (.ref q14), some xo, some xb, some v17, some v18, v19] ∧ Same H23 H') ?_ ?_ ?_
        · exact ⟨_, rfl, Same.refl _⟩
        · rintro m σ H24 hm ⟨v19, rfl, s24⟩
          rw [show (0 : Int) + (m : Int) = (m : Int) from Int.zero_add _]
          have dk24 := dk23.same s24
          obtain ⟨D2, hD2⟩ : ∃ D2, L2[m]? = some D2 := ⟨_, List.getElem?_eq_getElem hm⟩
          have R24 := dk24.rd m D2 hD2
          obtain ⟨dr, hobj⟩ := R24.obj
          have hrl := atI_nat (j := m) (v := V.ref D2.r) (xs := L2.map fun D => V.ref D.r) (by rw [List.getElem?_map, hD2]; rfl)
          have htx := atI_nat (j := m) (v := V.str (SX.S D2.t)) (xs := L2.map fun D => V.str (SX.S D.t)) (by rw [List.getElem?_map, hD2]; rfl)
          have tl2 := hl23 D2 (List.mem_of_getElem? hD2)
          refine ⟨_, rfl, _, rfl, RL, _, _, _, rfl, rfl, SqL.of dk24.rl, hrl, D2.r, dr, _, rfl, hobj, rfl, _, _, _, _, _, _, _, _, _, _, _, _, _, rfl, R24, ?_⟩
          refine ⟨_, rfl, _, rfl, TL, _, _, _, rfl, rfl, SqL.of dk24.tx, htx, rfl, _, rfl, ?_⟩
          rw [decide_eq_true rfl]
          refine iteF ?_
          refine ⟨_, rfl, _, rfl, RL, _, _, _, rfl, rfl, SqL.of dk24.rl, hrl, D2.r, dr, _, rfl, hobj, rfl, _, _, _, _, _, _, _, _, _, _, _, _, _, rfl, R24, fun H25 z2 s25 hz2 gz2 => ?_⟩
          have dk25 := dk24.same s25
          refine ⟨_, rfl, _, rfl, _, rfl, _, rfl, TL, _, _, _, rfl, rfl, SqL.of dk25.tx, htx, ?_⟩
          have R25 := dk25.rd m D2 hD2
          refine ⟨lm, sg, us, as, g, D2.t, rfl, R25.loom, hg63, by omega, R25.ch, fun hne z => ?_, fun _ H26 z3 row s26 hz3 gz3 srr => ?_⟩
          · exfalso
            rcases R25.lcp with ⟨e, _⟩ | ⟨_, e⟩
            · exact hne e
            · exact (covR_liv hne).mpr e.1 z
          have erow : D2.told = row := by
            rcases R25.lcp with ⟨e1, e2⟩ | ⟨e1, e2⟩
            · rw [e1] at srr
              rw [srr_nil srr, e2]
            · exact told_sure e1 e2 srr
          refine ne_nats6 (s26 _ _ gz2) gz3 ⟨_, rfl, ?_⟩
          rw [decide_eq_true erow]
          refine iteF ?_
          exact ⟨_, rfl, (s24.trans s25).trans s26⟩
        · rintro σ H24 ⟨v19, rfl, s24⟩
          exact ⟨L2, _, _, _, _, _, _, _, _, _, _, rfl, dk23.same s24, hl23⟩
      · rintro σ H10 ⟨L, v10, v11, v12, v13, v14, v15, v16, v17, v18, v19, rfl, dk, _⟩
        exact ⟨_, _, _, _, _, _, _, _, _, _, _, _, _, _, _, _, _, _, rfl, dk.st⟩
    · rintro σ H2 ⟨v2, v3, v4, v5, v6, v7, v8, v9, v10, v11, v12, v13, v14, v15, v16, v17, v18, v19, rfl, st2⟩
      exact k _
end
end J


set_option Elab.async false
set_option linter.all false
set_option maxRecDepth 100000
set_option maxHeartbeats 4000000
namespace J
open PySem L2
theorem all_mk {l : PySem.W.OpenLaw} {w : World} {K : PySem.W.Frag} {h : Heap} {mg : Str → Option Value} {fa f_InvalidLoom_init f_is_number f_is_sequence f_is_signs f_is_string_over f_is_word f_check_signs f_check_state f_check_text f_Trail_init f_cut f_shared f_numbers_beyond f_arcs_by_beginnings f_Reader_init f_Reader_take f_Reader_told f_Reader_text f_Reader_twin f_Reader__covers f_sure_trail f_ends f_is_arc f_Loom_init f_Loom_eq f_goes_on f_live_arcs f_sure f_l_state f_l_draw f_l_word f_l_loom f_l_made f_l_leaving f_l_met f_l_odd f_l_take f_law C_InvalidLoom C_Loom C_Reader C_Trail C_ReadError C_InvalidText C_Stuck : Addr} (X : K.In h) (G : h.Ns mainGlobals mg) (hfa : mg "law" = some (.ref fa))
    {od_InvalidLoom_init an_InvalidLoom_init : Option Addr} {sl_InvalidLoom_init : Array (Option Value)} {oc_InvalidLoom_init kV_InvalidLoom_init dc_InvalidLoom_init pm_InvalidLoom_init cd_InvalidLoom_init ct_InvalidLoom_init : Value}
    {od_is_number an_is_number : Option Addr} {sl_is_number : Array (Option Value)} {oc_is_number kV_is_number dc_is_number pm_is_number cd_is_number ct_is_number : Value}
    {od_is_sequence an_is_sequence : Option Addr} {sl_is_sequence : Array (Option Value)} {oc_is_sequence kV_is_sequence dc_is_sequence pm_is_sequence cd_is_sequence ct_is_sequence : Value}
    {od_is_signs an_is_signs : Option Addr} {sl_is_signs : Array (Option Value)} {oc_is_signs kV_is_signs dc_is_signs pm_is_signs cd_is_signs ct_is_signs : Value}
    {od_is_string_over an_is_string_over : Option Addr} {sl_is_string_over : Array (Option Value)} {oc_is_string_over kV_is_string_over dc_is_string_over pm_is_string_over cd_is_string_over ct_is_string_over : Value}
    {od_is_word an_is_word : Option Addr} {sl_is_word : Array (Option Value)} {oc_is_word kV_is_word dc_is_word pm_is_word cd_is_word ct_is_word : Value}
    {od_check_signs an_check_signs : Option Addr} {sl_check_signs : Array (Option Value)} {oc_check_signs kV_check_signs dc_check_signs pm_check_signs cd_check_signs ct_check_signs : Value}
    {od_check_state an_check_state : Option Addr} {sl_check_state : Array (Option Value)} {oc_check_state kV_check_state dc_check_state pm_check_state cd_check_state ct_check_state : Value}
    {od_check_text an_check_text : Option Addr} {sl_check_text : Array (Option Value)} {oc_check_text kV_check_text dc_check_text pm_check_text cd_check_text ct_check_text : Value}
    {od_Trail_init an_Trail_init : Option Addr} {sl_Trail_init : Array (Option Value)} {oc_Trail_init kV_Trail_init dc_Trail_init pm_Trail_init cd_Trail_init ct_Trail_init : Value}
    {od_cut an_cut : Option Addr} {sl_cut : Array (Option Value)} {oc_cut kV_cut dc_cut pm_cut cd_cut ct_cut : Value}
    {od_shared an_shared : Option Addr} {sl_shared : Array (Option Value)} {oc_shared kV_shared dc_shared pm_shared cd_shared ct_shared : Value}
    {od_numbers_beyond an_numbers_beyond : Option Addr} {sl_numbers_beyond : Array (Option Value)} {oc_numbers_beyond kV_numbers_beyond dc_numbers_beyond pm_numbers_beyond cd_numbers_beyond ct_numbers_beyond : Value}
    {od_arcs_by_beginnings an_arcs_by_beginnings : Option Addr} {sl_arcs_by_beginnings : Array (Option Value)} {oc_arcs_by_beginnings kV_arcs_by_beginnings dc_arcs_by_beginnings pm_arcs_by_beginnings cd_arcs_by_beginnings ct_arcs_by_beginnings : Value}
    {od_Reader_init an_Reader_init : Option Addr} {sl_Reader_init : Array (Option Value)} {oc_Reader_init kV_Reader_init dc_Reader_init pm_Reader_init cd_Reader_init ct_Reader_init : Value}
    {od_Reader_take an_Reader_take : Option Addr} {sl_Reader_take : Array (Option Value)} {oc_Reader_take kV_Reader_take dc_Reader_take pm_Reader_take cd_Reader_take ct_Reader_take : Value}
    {od_Reader_told an_Reader_told : Option Addr} {sl_Reader_told : Array (Option Value)} {oc_Reader_told kV_Reader_told dc_Reader_told pm_Reader_told cd_Reader_told ct_Reader_told : Value}
    {od_Reader_text an_Reader_text : Option Addr} {sl_Reader_text : Array (Option Value)} {oc_Reader_text kV_Reader_text dc_Reader_text pm_Reader_text cd_Reader_text ct_Reader_text : Value}
    {od_Reader_twin an_Reader_twin : Option Addr} {sl_Reader_twin : Array (Option Value)} {oc_Reader_twin kV_Reader_twin dc_Reader_twin pm_Reader_twin cd_Reader_twin ct_Reader_twin : Value}
    {od_Reader__covers an_Reader__covers : Option Addr} {sl_Reader__covers : Array (Option Value)} {oc_Reader__covers kV_Reader__covers dc_Reader__covers pm_Reader__covers cd_Reader__covers ct_Reader__covers : Value}
    {od_sure_trail an_sure_trail : Option Addr} {sl_sure_trail : Array (Option Value)} {oc_sure_trail kV_sure_trail dc_sure_trail pm_sure_trail cd_sure_trail ct_sure_trail : Value}
    {od_ends an_ends : Option Addr} {sl_ends : Array (Option Value)} {oc_ends kV_ends dc_ends pm_ends cd_ends ct_ends : Value}
    {od_is_arc an_is_arc : Option Addr} {sl_is_arc : Array (Option Value)} {oc_is_arc kV_is_arc dc_is_arc pm_is_arc cd_is_arc ct_is_arc : Value}
    {od_Loom_init an_Loom_init : Option Addr} {sl_Loom_init : Array (Option Value)} {oc_Loom_init kV_Loom_init dc_Loom_init pm_Loom_init cd_Loom_init ct_Loom_init : Value}
    {od_Loom_eq an_Loom_eq : Option Addr} {sl_Loom_eq : Array (Option Value)} {oc_Loom_eq kV_Loom_eq dc_Loom_eq pm_Loom_eq cd_Loom_eq ct_Loom_eq : Value}
    {od_goes_on an_goes_on : Option Addr} {sl_goes_on : Array (Option Value)} {oc_goes_on kV_goes_on dc_goes_on pm_goes_on cd_goes_on ct_goes_on : Value}
    {od_live_arcs an_live_arcs : Option Addr} {sl_live_arcs : Array (Option Value)} {oc_live_arcs kV_live_arcs dc_live_arcs pm_live_arcs cd_live_arcs ct_live_arcs : Value}
    {od_sure an_sure : Option Addr} {sl_sure : Array (Option Value)} {oc_sure kV_sure dc_sure pm_sure cd_sure ct_sure : Value}
    {od_l_state an_l_state : Option Addr} {sl_l_state : Array (Option Value)} {oc_l_state kV_l_state dc_l_state pm_l_state cd_l_state ct_l_state : Value}
    {od_l_draw an_l_draw : Option Addr} {sl_l_draw : Array (Option Value)} {oc_l_draw kV_l_draw dc_l_draw pm_l_draw cd_l_draw ct_l_draw : Value}
    {od_l_word an_l_word : Option Addr} {sl_l_word : Array (Option Value)} {oc_l_word kV_l_word dc_l_word pm_l_word cd_l_word ct_l_word : Value}
    {od_l_loom an_l_loom : Option Addr} {sl_l_loom : Array (Option Value)} {oc_l_loom kV_l_loom dc_l_loom pm_l_loom cd_l_loom ct_l_loom : Value}
    {od_l_made an_l_made : Option Addr} {sl_l_made : Array (Option Value)} {oc_l_made kV_l_made dc_l_made pm_l_made cd_l_made ct_l_made : Value}
    {od_l_leaving an_l_leaving : Option Addr} {sl_l_leaving : Array (Option Value)} {oc_l_leaving kV_l_leaving dc_l_leaving pm_l_leaving cd_l_leaving ct_l_leaving : Value}
    {od_l_met an_l_met : Option Addr} {sl_l_met : Array (Option Value)} {oc_l_met kV_l_met dc_l_met pm_l_met cd_l_met ct_l_met : Value}
    {od_l_odd an_l_odd : Option Addr} {sl_l_odd : Array (Option Value)} {oc_l_odd kV_l_odd dc_l_odd pm_l_odd cd_l_odd ct_l_odd : Value}
    {od_l_take an_l_take : Option Addr} {sl_l_take : Array (Option Value)} {oc_l_take kV_l_take dc_l_take pm_l_take cd_l_take ct_l_take : Value}
    {od_law an_law : Option Addr} {sl_law : Array (Option Value)} {oc_law kV_law dc_law pm_law cd_law ct_law : Value}
    {nm_InvalidLoom q_InvalidLoom : Str} {ns_InvalidLoom : Addr} {bs_InvalidLoom : List Value} {sn_InvalidLoom : List Str} {sub_InvalidLoom : List Value} {ab_InvalidLoom : Bool} {col_InvalidLoom : Option Bool} {dd_InvalidLoom : Option Addr} {m0_InvalidLoom m1_InvalidLoom m2_InvalidLoom m3_InvalidLoom m5_InvalidLoom : Option Value}
    {t_MOST_SIGNS : Tok}
    {t_LONGEST_WORD : Tok}
    {t_LONGEST_TEXT : Tok}
    {t_LAST_STATE : Tok}
    {t_MOST_ARCS : Tok}
    (a_CStuck : PySem.W.nsIn K mainGlobals "Stuck" = some (some (.ref C_Stuck)))
    (a_CInvalidText : PySem.W.nsIn K mainGlobals "InvalidText" = some (some (.ref C_InvalidText)))
    (a_CReadError : PySem.W.nsIn K mainGlobals "ReadError" = some (some (.ref C_ReadError)))
    (a_CTrail : PySem.W.nsIn K mainGlobals "Trail" = some (some (.ref C_Trail)))
    (a_CReader : PySem.W.nsIn K mainGlobals "Reader" = some (some (.ref C_Reader)))
    (a_CLoom : PySem.W.nsIn K mainGlobals "Loom" = some (some (.ref C_Loom)))
    (a_CInvalidLoom : PySem.W.nsIn K mainGlobals "InvalidLoom" = some (some (.ref C_InvalidLoom)))
    (a_InvalidLoom_init : PySem.W.findIn K (.ref C_InvalidLoom) "__init__" = some (some (.ref f_InvalidLoom_init)))
    (i_InvalidLoom_init : PySem.W.isFn K (.ref f_InvalidLoom_init) = true)
    (l_InvalidLoom_init : K.lookup f_InvalidLoom_init = some ⟨oc_InvalidLoom_init, od_InvalidLoom_init, .func (PySem.W.fnOf "__init__" "InvalidLoom.__init__" (defArgs s_InvalidLoom_init) (defBody s_InvalidLoom_init) (defScope s_InvalidLoom_init) .none kV_InvalidLoom_init dc_InvalidLoom_init pm_InvalidLoom_init an_InvalidLoom_init cd_InvalidLoom_init ct_InvalidLoom_init), sl_InvalidLoom_init⟩)
    (c_InvalidLoom_init : PySem.W.codeIn K cd_InvalidLoom_init "InvalidLoom.__init__" = true)
    (k_InvalidLoom_init : PySem.W.keepIn K (.ref f_InvalidLoom_init) = true)
    (a_is_number : PySem.W.nsIn K mainGlobals "is_number" = some (some (.ref f_is_number)))
    (l_is_number : K.lookup f_is_number = some ⟨oc_is_number, od_is_number, .func (PySem.W.fnOf "is_number" "is_number" (defArgs s_is_number) (defBody s_is_number) (defScope s_is_number) .none kV_is_number dc_is_number pm_is_number an_is_number cd_is_number ct_is_number), sl_is_number⟩)
    (c_is_number : PySem.W.codeIn K cd_is_number "is_number" = true)
    (k_is_number : PySem.W.keepIn K (.ref f_is_number) = true)
    (a_is_sequence : PySem.W.nsIn K mainGlobals "is_sequence" = some (some (.ref f_is_sequence)))
    (l_is_sequence : K.lookup f_is_sequence = some ⟨oc_is_sequence, od_is_sequence, .func (PySem.W.fnOf "is_sequence" "is_sequence" (defArgs s_is_sequence) (defBody s_is_sequence) (defScope s_is_sequence) .none kV_is_sequence dc_is_sequence pm_is_sequence an_is_sequence cd_is_sequence ct_is_sequence), sl_is_sequence⟩)
    (c_is_sequence : PySem.W.codeIn K cd_is_sequence "is_sequence" = true)
    (k_is_sequence : PySem.W.keepIn K (.ref f_is_sequence) = true)
    (a_is_signs : PySem.W.nsIn K mainGlobals "is_signs" = some (some (.ref f_is_signs)))
    (l_is_signs : K.lookup f_is_signs = some ⟨oc_is_signs, od_is_signs, .func (PySem.W.fnOf "is_signs" "is_signs" (defArgs s_is_signs) (defBody s_is_signs) (defScope s_is_signs) .none kV_is_signs dc_is_signs pm_is_signs an_is_signs cd_is_signs ct_is_signs), sl_is_signs⟩)
    (c_is_signs : PySem.W.codeIn K cd_is_signs "is_signs" = true)
    (k_is_signs : PySem.W.keepIn K (.ref f_is_signs) = true)
    (a_is_string_over : PySem.W.nsIn K mainGlobals "is_string_over" = some (some (.ref f_is_string_over)))
    (l_is_string_over : K.lookup f_is_string_over = some ⟨oc_is_string_over, od_is_string_over, .func (PySem.W.fnOf "is_string_over" "is_string_over" (defArgs s_is_string_over) (defBody s_is_string_over) (defScope s_is_string_over) .none kV_is_string_over dc_is_string_over pm_is_string_over an_is_string_over cd_is_string_over ct_is_string_over), sl_is_string_over⟩)
    (c_is_string_over : PySem.W.codeIn K cd_is_string_over "is_string_over" = true)
    (k_is_string_over : PySem.W.keepIn K (.ref f_is_string_over) = true)
    (a_is_word : PySem.W.nsIn K mainGlobals "is_word" = some (some (.ref f_is_word)))
    (l_is_word : K.lookup f_is_word = some ⟨oc_is_word, od_is_word, .func (PySem.W.fnOf "is_word" "is_word" (defArgs s_is_word) (defBody s_is_word) (defScope s_is_word) .none kV_is_word dc_is_word pm_is_word an_is_word cd_is_word ct_is_word), sl_is_word⟩)
    (c_is_word : PySem.W.codeIn K cd_is_word "is_word" = true)
    (k_is_word : PySem.W.keepIn K (.ref f_is_word) = true)
    (a_check_signs : PySem.W.nsIn K mainGlobals "check_signs" = some (some (.ref f_check_signs)))
    (l_check_signs : K.lookup f_check_signs = some ⟨oc_check_signs, od_check_signs, .func (PySem.W.fnOf "check_signs" "check_signs" (defArgs s_check_signs) (defBody s_check_signs) (defScope s_check_signs) .none kV_check_signs dc_check_signs pm_check_signs an_check_signs cd_check_signs ct_check_signs), sl_check_signs⟩)
    (c_check_signs : PySem.W.codeIn K cd_check_signs "check_signs" = true)
    (k_check_signs : PySem.W.keepIn K (.ref f_check_signs) = true)
    (a_check_state : PySem.W.nsIn K mainGlobals "check_state" = some (some (.ref f_check_state)))
    (l_check_state : K.lookup f_check_state = some ⟨oc_check_state, od_check_state, .func (PySem.W.fnOf "check_state" "check_state" (defArgs s_check_state) (defBody s_check_state) (defScope s_check_state) .none kV_check_state dc_check_state pm_check_state an_check_state cd_check_state ct_check_state), sl_check_state⟩)
    (c_check_state : PySem.W.codeIn K cd_check_state "check_state" = true)
    (k_check_state : PySem.W.keepIn K (.ref f_check_state) = true)
    (a_check_text : PySem.W.nsIn K mainGlobals "check_text" = some (some (.ref f_check_text)))
    (l_check_text : K.lookup f_check_text = some ⟨oc_check_text, od_check_text, .func (PySem.W.fnOf "check_text" "check_text" (defArgs s_check_text) (defBody s_check_text) (defScope s_check_text) .none kV_check_text dc_check_text pm_check_text an_check_text cd_check_text ct_check_text), sl_check_text⟩)
    (c_check_text : PySem.W.codeIn K cd_check_text "check_text" = true)
    (k_check_text : PySem.W.keepIn K (.ref f_check_text) = true)
    (a_Trail_init : PySem.W.findIn K (.ref C_Trail) "__init__" = some (some (.ref f_Trail_init)))
    (i_Trail_init : PySem.W.isFn K (.ref f_Trail_init) = true)
    (l_Trail_init : K.lookup f_Trail_init = some ⟨oc_Trail_init, od_Trail_init, .func (PySem.W.fnOf "__init__" "Trail.__init__" (defArgs s_Trail_init) (defBody s_Trail_init) (defScope s_Trail_init) .none kV_Trail_init dc_Trail_init pm_Trail_init an_Trail_init cd_Trail_init ct_Trail_init), sl_Trail_init⟩)
    (c_Trail_init : PySem.W.codeIn K cd_Trail_init "Trail.__init__" = true)
    (k_Trail_init : PySem.W.keepIn K (.ref f_Trail_init) = true)
    (a_cut : PySem.W.nsIn K mainGlobals "cut" = some (some (.ref f_cut)))
    (l_cut : K.lookup f_cut = some ⟨oc_cut, od_cut, .func (PySem.W.fnOf "cut" "cut" (defArgs s_cut) (defBody s_cut) (defScope s_cut) .none kV_cut dc_cut pm_cut an_cut cd_cut ct_cut), sl_cut⟩)
    (c_cut : PySem.W.codeIn K cd_cut "cut" = true)
    (k_cut : PySem.W.keepIn K (.ref f_cut) = true)
    (a_shared : PySem.W.nsIn K mainGlobals "shared" = some (some (.ref f_shared)))
    (l_shared : K.lookup f_shared = some ⟨oc_shared, od_shared, .func (PySem.W.fnOf "shared" "shared" (defArgs s_shared) (defBody s_shared) (defScope s_shared) .none kV_shared dc_shared pm_shared an_shared cd_shared ct_shared), sl_shared⟩)
    (c_shared : PySem.W.codeIn K cd_shared "shared" = true)
    (k_shared : PySem.W.keepIn K (.ref f_shared) = true)
    (a_numbers_beyond : PySem.W.nsIn K mainGlobals "numbers_beyond" = some (some (.ref f_numbers_beyond)))
    (l_numbers_beyond : K.lookup f_numbers_beyond = some ⟨oc_numbers_beyond, od_numbers_beyond, .func (PySem.W.fnOf "numbers_beyond" "numbers_beyond" (defArgs s_numbers_beyond) (defBody s_numbers_beyond) (defScope s_numbers_beyond) .none kV_numbers_beyond dc_numbers_beyond pm_numbers_beyond an_numbers_beyond cd_numbers_beyond ct_numbers_beyond), sl_numbers_beyond⟩)
    (c_numbers_beyond : PySem.W.codeIn K cd_numbers_beyond "numbers_beyond" = true)
    (k_numbers_beyond : PySem.W.keepIn K (.ref f_numbers_beyond) = true)
    (a_arcs_by_beginnings : PySem.W.nsIn K mainGlobals "arcs_by_beginnings" = some (some (.ref f_arcs_by_beginnings)))
    (l_arcs_by_beginnings : K.lookup f_arcs_by_beginnings = some ⟨oc_arcs_by_beginnings, od_arcs_by_beginnings, .func (PySem.W.fnOf "arcs_by_beginnings" "arcs_by_beginnings" (defArgs s_arcs_by_beginnings) (defBody s_arcs_by_beginnings) (defScope s_arcs_by_beginnings) .none kV_arcs_by_beginnings dc_arcs_by_beginnings pm_arcs_by_beginnings an_arcs_by_beginnings cd_arcs_by_beginnings ct_arcs_by_beginnings), sl_arcs_by_beginnings⟩)
    (c_arcs_by_beginnings : PySem.W.codeIn K cd_arcs_by_beginnings "arcs_by_beginnings" = true)
    (k_arcs_by_beginnings : PySem.W.keepIn K (.ref f_arcs_by_beginnings) = true)
    (a_Reader_init : PySem.W.findIn K (.ref C_Reader) "__init__" = some (some (.ref f_Reader_init)))
    (i_Reader_init : PySem.W.isFn K (.ref f_Reader_init) = true)
    (l_Reader_init : K.lookup f_Reader_init = some ⟨oc_Reader_init, od_Reader_init, .func (PySem.W.fnOf "__init__" "Reader.__init__" (defArgs s_Reader_init) (defBody s_Reader_init) (defScope s_Reader_init) .none kV_Reader_init dc_Reader_init pm_Reader_init an_Reader_init cd_Reader_init ct_Reader_init), sl_Reader_init⟩)
    (c_Reader_init : PySem.W.codeIn K cd_Reader_init "Reader.__init__" = true)
    (k_Reader_init : PySem.W.keepIn K (.ref f_Reader_init) = true)
    (a_Reader_take : PySem.W.findIn K (.ref C_Reader) "take" = some (some (.ref f_Reader_take)))
    (i_Reader_take : PySem.W.isFn K (.ref f_Reader_take) = true)
    (l_Reader_take : K.lookup f_Reader_take = some ⟨oc_Reader_take, od_Reader_take, .func (PySem.W.fnOf "take" "Reader.take" (defArgs s_Reader_take) (defBody s_Reader_take) (defScope s_Reader_take) .none kV_Reader_take dc_Reader_take pm_Reader_take an_Reader_take cd_Reader_take ct_Reader_take), sl_Reader_take⟩)
    (c_Reader_take : PySem.W.codeIn K cd_Reader_take "Reader.take" = true)
    (k_Reader_take : PySem.W.keepIn K (.ref f_Reader_take) = true)
    (a_Reader_told : PySem.W.findIn K (.ref C_Reader) "told" = some (some (.ref f_Reader_told)))
    (i_Reader_told : PySem.W.isFn K (.ref f_Reader_told) = true)
    (l_Reader_told : K.lookup f_Reader_told = some ⟨oc_Reader_told, od_Reader_told, .func (PySem.W.fnOf "told" "Reader.told" (defArgs s_Reader_told) (defBody s_Reader_told) (defScope s_Reader_told) .none kV_Reader_told dc_Reader_told pm_Reader_told an_Reader_told cd_Reader_told ct_Reader_told), sl_Reader_told⟩)
    (c_Reader_told : PySem.W.codeIn K cd_Reader_told "Reader.told" = true)
    (k_Reader_told : PySem.W.keepIn K (.ref f_Reader_told) = true)
    (a_Reader_text : PySem.W.findIn K (.ref C_Reader) "text" = some (some (.ref f_Reader_text)))
    (i_Reader_text : PySem.W.isFn K (.ref f_Reader_text) = true)
    (l_Reader_text : K.lookup f_Reader_text = some ⟨oc_Reader_text, od_Reader_text, .func (PySem.W.fnOf "text" "Reader.text" (defArgs s_Reader_text) (defBody s_Reader_text) (defScope s_Reader_text) .none kV_Reader_text dc_Reader_text pm_Reader_text an_Reader_text cd_Reader_text ct_Reader_text), sl_Reader_text⟩)
    (c_Reader_text : PySem.W.codeIn K cd_Reader_text "Reader.text" = true)
    (k_Reader_text : PySem.W.keepIn K (.ref f_Reader_text) = true)
    (a_Reader_twin : PySem.W.findIn K (.ref C_Reader) "twin" = some (some (.ref f_Reader_twin)))
    (i_Reader_twin : PySem.W.isFn K (.ref f_Reader_twin) = true)
    (l_Reader_twin : K.lookup f_Reader_twin = some ⟨oc_Reader_twin, od_Reader_twin, .func (PySem.W.fnOf "twin" "Reader.twin" (defArgs s_Reader_twin) (defBody s_Reader_twin) (defScope s_Reader_twin) .none kV_Reader_twin dc_Reader_twin pm_Reader_twin an_Reader_twin cd_Reader_twin ct_Reader_twin), sl_Reader_twin⟩)
    (c_Reader_twin : PySem.W.codeIn K cd_Reader_twin "Reader.twin" = true)
    (k_Reader_twin : PySem.W.keepIn K (.ref f_Reader_twin) = true)
    (a_Reader__covers : PySem.W.findIn K (.ref C_Reader) "_covers" = some (some (.ref f_Reader__covers)))
    (i_Reader__covers : PySem.W.isFn K (.ref f_Reader__covers) = true)
    (l_Reader__covers : K.lookup f_Reader__covers = some ⟨oc_Reader__covers, od_Reader__covers, .func (PySem.W.fnOf "_covers" "Reader._covers" (defArgs s_Reader__covers) (defBody s_Reader__covers) (defScope s_Reader__covers) .none kV_Reader__covers dc_Reader__covers pm_Reader__covers an_Reader__covers cd_Reader__covers ct_Reader__covers), sl_Reader__covers⟩)
    (c_Reader__covers : PySem.W.codeIn K cd_Reader__covers "Reader._covers" = true)
    (k_Reader__covers : PySem.W.keepIn K (.ref f_Reader__covers) = true)
    (a_sure_trail : PySem.W.nsIn K mainGlobals "sure_trail" = some (some (.ref f_sure_trail)))
    (l_sure_trail : K.lookup f_sure_trail = some ⟨oc_sure_trail, od_sure_trail, .func (PySem.W.fnOf "sure_trail" "sure_trail" (defArgs s_sure_trail) (defBody s_sure_trail) (defScope s_sure_trail) .none kV_sure_trail dc_sure_trail pm_sure_trail an_sure_trail cd_sure_trail ct_sure_trail), sl_sure_trail⟩)
    (c_sure_trail : PySem.W.codeIn K cd_sure_trail "sure_trail" = true)
    (k_sure_trail : PySem.W.keepIn K (.ref f_sure_trail) = true)
    (a_ends : PySem.W.nsIn K mainGlobals "ends" = some (some (.ref f_ends)))
    (l_ends : K.lookup f_ends = some ⟨oc_ends, od_ends, .func (PySem.W.fnOf "ends" "ends" (defArgs s_ends) (defBody s_ends) (defScope s_ends) .none kV_ends dc_ends pm_ends an_ends cd_ends ct_ends), sl_ends⟩)
    (c_ends : PySem.W.codeIn K cd_ends "ends" = true)
    (k_ends : PySem.W.keepIn K (.ref f_ends) = true)
    (a_is_arc : PySem.W.nsIn K mainGlobals "is_arc" = some (some (.ref f_is_arc)))
    (l_is_arc : K.lookup f_is_arc = some ⟨oc_is_arc, od_is_arc, .func (PySem.W.fnOf "is_arc" "is_arc" (defArgs s_is_arc) (defBody s_is_arc) (defScope s_is_arc) .none kV_is_arc dc_is_arc pm_is_arc an_is_arc cd_is_arc ct_is_arc), sl_is_arc⟩)
    (c_is_arc : PySem.W.codeIn K cd_is_arc "is_arc" = true)
    (k_is_arc : PySem.W.keepIn K (.ref f_is_arc) = true)
    (a_Loom_init : PySem.W.findIn K (.ref C_Loom) "__init__" = some (some (.ref f_Loom_init)))
    (i_Loom_init : PySem.W.isFn K (.ref f_Loom_init) = true)
    (l_Loom_init : K.lookup f_Loom_init = some ⟨oc_Loom_init, od_Loom_init, .func (PySem.W.fnOf "__init__" "Loom.__init__" (defArgs s_Loom_init) (defBody s_Loom_init) (defScope s_Loom_init) .none kV_Loom_init dc_Loom_init pm_Loom_init an_Loom_init cd_Loom_init ct_Loom_init), sl_Loom_init⟩)
    (c_Loom_init : PySem.W.codeIn K cd_Loom_init "Loom.__init__" = true)
    (k_Loom_init : PySem.W.keepIn K (.ref f_Loom_init) = true)
    (a_Loom_eq : PySem.W.findIn K (.ref C_Loom) "__eq__" = some (some (.ref f_Loom_eq)))
    (l_Loom_eq : K.lookup f_Loom_eq = some ⟨oc_Loom_eq, od_Loom_eq, .func (PySem.W.fnOf "__eq__" "Loom.__eq__" (defArgs s_Loom_eq) (defBody s_Loom_eq) (defScope s_Loom_eq) .none kV_Loom_eq dc_Loom_eq pm_Loom_eq an_Loom_eq cd_Loom_eq ct_Loom_eq), sl_Loom_eq⟩)
    (c_Loom_eq : PySem.W.codeIn K cd_Loom_eq "Loom.__eq__" = true)
    (k_Loom_eq : PySem.W.keepIn K (.ref f_Loom_eq) = true)
    (a_goes_on : PySem.W.nsIn K mainGlobals "goes_on" = some (some (.ref f_goes_on)))
    (l_goes_on : K.lookup f_goes_on = some ⟨oc_goes_on, od_goes_on, .func (PySem.W.fnOf "goes_on" "goes_on" (defArgs s_goes_on) (defBody s_goes_on) (defScope s_goes_on) .none kV_goes_on dc_goes_on pm_goes_on an_goes_on cd_goes_on ct_goes_on), sl_goes_on⟩)
    (c_goes_on : PySem.W.codeIn K cd_goes_on "goes_on" = true)
    (k_goes_on : PySem.W.keepIn K (.ref f_goes_on) = true)
    (a_live_arcs : PySem.W.nsIn K mainGlobals "live_arcs" = some (some (.ref f_live_arcs)))
    (l_live_arcs : K.lookup f_live_arcs = some ⟨oc_live_arcs, od_live_arcs, .func (PySem.W.fnOf "live_arcs" "live_arcs" (defArgs s_live_arcs) (defBody s_live_arcs) (defScope s_live_arcs) .none kV_live_arcs dc_live_arcs pm_live_arcs an_live_arcs cd_live_arcs ct_live_arcs), sl_live_arcs⟩)
    (c_live_arcs : PySem.W.codeIn K cd_live_arcs "live_arcs" = true)
    (k_live_arcs : PySem.W.keepIn K (.ref f_live_arcs) = true)
    (a_sure : PySem.W.nsIn K mainGlobals "sure" = some (some (.ref f_sure)))
    (l_sure : K.lookup f_sure = some ⟨oc_sure, od_sure, .func (PySem.W.fnOf "sure" "sure" (defArgs s_sure) (defBody s_sure) (defScope s_sure) .none kV_sure dc_sure pm_sure an_sure cd_sure ct_sure), sl_sure⟩)
    (c_sure : PySem.W.codeIn K cd_sure "sure" = true)
    (k_sure : PySem.W.keepIn K (.ref f_sure) = true)
    (a_l_state : PySem.W.nsIn K mainGlobals "_law_state" = some (some (.ref f_l_state)))
    (l_l_state : K.lookup f_l_state = some ⟨oc_l_state, od_l_state, .func (PySem.W.fnOf "_law_state" "_law_state" (defArgs s_l_state) (defBody s_l_state) (defScope s_l_state) .none kV_l_state dc_l_state pm_l_state an_l_state cd_l_state ct_l_state), sl_l_state⟩)
    (c_l_state : PySem.W.codeIn K cd_l_state "_law_state" = true)
    (k_l_state : PySem.W.keepIn K (.ref f_l_state) = true)
    (a_l_draw : PySem.W.nsIn K mainGlobals "_law_draw" = some (some (.ref f_l_draw)))
    (l_l_draw : K.lookup f_l_draw = some ⟨oc_l_draw, od_l_draw, .func (PySem.W.fnOf "_law_draw" "_law_draw" (defArgs s_l_draw) (defBody s_l_draw) (defScope s_l_draw) .none kV_l_draw dc_l_draw pm_l_draw an_l_draw cd_l_draw ct_l_draw), sl_l_draw⟩)
    (c_l_draw : PySem.W.codeIn K cd_l_draw "_law_draw" = true)
    (k_l_draw : PySem.W.keepIn K (.ref f_l_draw) = true)
    (a_l_word : PySem.W.nsIn K mainGlobals "_law_word" = some (some (.ref f_l_word)))
    (l_l_word : K.lookup f_l_word = some ⟨oc_l_word, od_l_word, .func (PySem.W.fnOf "_law_word" "_law_word" (defArgs s_l_word) (defBody s_l_word) (defScope s_l_word) .none kV_l_word dc_l_word pm_l_word an_l_word cd_l_word ct_l_word), sl_l_word⟩)
    (c_l_word : PySem.W.codeIn K cd_l_word "_law_word" = true)
    (k_l_word : PySem.W.keepIn K (.ref f_l_word) = true)
    (a_l_loom : PySem.W.nsIn K mainGlobals "_law_loom" = some (some (.ref f_l_loom)))
    (l_l_loom : K.lookup f_l_loom = some ⟨oc_l_loom, od_l_loom, .func (PySem.W.fnOf "_law_loom" "_law_loom" (defArgs s_l_loom) (defBody s_l_loom) (defScope s_l_loom) .none kV_l_loom dc_l_loom pm_l_loom an_l_loom cd_l_loom ct_l_loom), sl_l_loom⟩)
    (c_l_loom : PySem.W.codeIn K cd_l_loom "_law_loom" = true)
    (k_l_loom : PySem.W.keepIn K (.ref f_l_loom) = true)
    (a_l_made : PySem.W.nsIn K mainGlobals "_law_made" = some (some (.ref f_l_made)))
    (l_l_made : K.lookup f_l_made = some ⟨oc_l_made, od_l_made, .func (PySem.W.fnOf "_law_made" "_law_made" (defArgs s_l_made) (defBody s_l_made) (defScope s_l_made) .none kV_l_made dc_l_made pm_l_made an_l_made cd_l_made ct_l_made), sl_l_made⟩)
    (c_l_made : PySem.W.codeIn K cd_l_made "_law_made" = true)
    (k_l_made : PySem.W.keepIn K (.ref f_l_made) = true)
    (a_l_leaving : PySem.W.nsIn K mainGlobals "_law_leaving" = some (some (.ref f_l_leaving)))
    (l_l_leaving : K.lookup f_l_leaving = some ⟨oc_l_leaving, od_l_leaving, .func (PySem.W.fnOf "_law_leaving" "_law_leaving" (defArgs s_l_leaving) (defBody s_l_leaving) (defScope s_l_leaving) .none kV_l_leaving dc_l_leaving pm_l_leaving an_l_leaving cd_l_leaving ct_l_leaving), sl_l_leaving⟩)
    (c_l_leaving : PySem.W.codeIn K cd_l_leaving "_law_leaving" = true)
    (k_l_leaving : PySem.W.keepIn K (.ref f_l_leaving) = true)
    (a_l_met : PySem.W.nsIn K mainGlobals "_law_met" = some (some (.ref f_l_met)))
    (l_l_met : K.lookup f_l_met = some ⟨oc_l_met, od_l_met, .func (PySem.W.fnOf "_law_met" "_law_met" (defArgs s_l_met) (defBody s_l_met) (defScope s_l_met) .none kV_l_met dc_l_met pm_l_met an_l_met cd_l_met ct_l_met), sl_l_met⟩)
    (c_l_met : PySem.W.codeIn K cd_l_met "_law_met" = true)
    (k_l_met : PySem.W.keepIn K (.ref f_l_met) = true)
    (a_l_odd : PySem.W.nsIn K mainGlobals "_law_odd" = some (some (.ref f_l_odd)))
    (l_l_odd : K.lookup f_l_odd = some ⟨oc_l_odd, od_l_odd, .func (PySem.W.fnOf "_law_odd" "_law_odd" (defArgs s_l_odd) (defBody s_l_odd) (defScope s_l_odd) .none kV_l_odd dc_l_odd pm_l_odd an_l_odd cd_l_odd ct_l_odd), sl_l_odd⟩)
    (c_l_odd : PySem.W.codeIn K cd_l_odd "_law_odd" = true)
    (k_l_odd : PySem.W.keepIn K (.ref f_l_odd) = true)
    (a_l_take : PySem.W.nsIn K mainGlobals "_law_take" = some (some (.ref f_l_take)))
    (l_l_take : K.lookup f_l_take = some ⟨oc_l_take, od_l_take, .func (PySem.W.fnOf "_law_take" "_law_take" (defArgs s_l_take) (defBody s_l_take) (defScope s_l_take) .none kV_l_take dc_l_take pm_l_take an_l_take cd_l_take ct_l_take), sl_l_take⟩)
    (c_l_take : PySem.W.codeIn K cd_l_take "_law_take" = true)
    (k_l_take : PySem.W.keepIn K (.ref f_l_take) = true)
    (a_law : PySem.W.nsIn K mainGlobals "law" = some (some (.ref f_law)))
    (l_law : K.lookup f_law = some ⟨oc_law, od_law, .func (PySem.W.fnOf "law" "law" (defArgs s_law) (defBody s_law) (defScope s_law) .none kV_law dc_law pm_law an_law cd_law ct_law), sl_law⟩)
    (c_law : PySem.W.codeIn K cd_law "law" = true)
    (k_law : PySem.W.keepIn K (.ref f_law) = true)
    (pg_Trail : PySem.W.plainGet K C_Trail Str.empty = true)
    (hd_Trail : PySem.W.hasDictIn K C_Trail = true)
    (po_Trail : PySem.W.plainOver K C_Trail = true)
    (sa_Trail : PySem.W.findIn K (.ref C_Trail) "__setattr__" = some (some (.builtin "object.__setattr__")))
    (mk_Trail : PySem.W.makesIn K C_Trail = true)
    (kc_Trail : PySem.W.keepIn K (.ref C_Trail) = true)
    (na_Trail_ahead : PySem.W.findIn K (.ref C_Trail) "ahead" = some none)
    (na_Trail_number : PySem.W.findIn K (.ref C_Trail) "number" = some none)
    (na_Trail_many : PySem.W.findIn K (.ref C_Trail) "many" = some none)
    (na_Trail_jump : PySem.W.findIn K (.ref C_Trail) "jump" = some none)
    (pg_Reader : PySem.W.plainGet K C_Reader Str.empty = true)
    (hd_Reader : PySem.W.hasDictIn K C_Reader = true)
    (po_Reader : PySem.W.plainOver K C_Reader = true)
    (sa_Reader : PySem.W.findIn K (.ref C_Reader) "__setattr__" = some (some (.builtin "object.__setattr__")))
    (mk_Reader : PySem.W.makesIn K C_Reader = true)
    (kc_Reader : PySem.W.keepIn K (.ref C_Reader) = true)
    (na_Reader__loom : PySem.W.findIn K (.ref C_Reader) "_loom" = some none)
    (na_Reader__state : PySem.W.findIn K (.ref C_Reader) "_state" = some none)
    (na_Reader__arcs : PySem.W.findIn K (.ref C_Reader) "_arcs" = some none)
    (na_Reader__text : PySem.W.findIn K (.ref C_Reader) "_text" = some none)
    (na_Reader__told : PySem.W.findIn K (.ref C_Reader) "_told" = some none)
    (na_Reader__places : PySem.W.findIn K (.ref C_Reader) "_places" = some none)
    (pg_Loom : PySem.W.plainGet K C_Loom Str.empty = true)
    (hd_Loom : PySem.W.hasDictIn K C_Loom = true)
    (po_Loom : PySem.W.plainOver K C_Loom = true)
    (sa_Loom : PySem.W.findIn K (.ref C_Loom) "__setattr__" = some (some (.builtin "object.__setattr__")))
    (mk_Loom : PySem.W.makesIn K C_Loom = true)
    (kc_Loom : PySem.W.keepIn K (.ref C_Loom) = true)
    (na_Loom_signs : PySem.W.findIn K (.ref C_Loom) "signs" = some none)
    (na_Loom_arcs : PySem.W.findIn K (.ref C_Loom) "arcs" = some none)
    (kc_ReadError : PySem.W.keepIn K (.ref C_ReadError) = true)
    (e1_ReadError : PySem.W.findIn K (.ref C_ReadError) "__getattribute__" = some (some (.builtin "BaseException.__getattribute__")))
    (e2_ReadError : PySem.W.findIn K (.ref C_ReadError) "__getattr__" = some none)
    (e3_ReadError : PySem.W.subIn K (.ref C_ReadError) (.type "BaseException") = some true)
    (e4_ReadError : PySem.W.hasDictIn K C_ReadError = true)
    (e5_ReadError : PySem.W.findIn K (.ref C_ReadError) "__class__" = some (some (.builtin "object.__class__")))
    (e8_ReadError : PySem.W.mroIn K C_ReadError (.type "object") = some true)
    (ty_ReadError : PySem.W.typeIn K (.ref C_ReadError) = some (.type "type"))
    (in_ReadError : PySem.W.excIn K C_ReadError [.type "Exception", .type "BaseException", .type "object"] "Exception.__new__" = true)
    (kc_InvalidLoom : PySem.W.keepIn K (.ref C_InvalidLoom) = true)
    (e1_InvalidLoom : PySem.W.findIn K (.ref C_InvalidLoom) "__getattribute__" = some (some (.builtin "BaseException.__getattribute__")))
    (e2_InvalidLoom : PySem.W.findIn K (.ref C_InvalidLoom) "__getattr__" = some none)
    (e3_InvalidLoom : PySem.W.subIn K (.ref C_InvalidLoom) (.type "BaseException") = some true)
    (e4_InvalidLoom : PySem.W.hasDictIn K C_InvalidLoom = true)
    (e5_InvalidLoom : PySem.W.findIn K (.ref C_InvalidLoom) "__class__" = some (some (.builtin "object.__class__")))
    (e8_InvalidLoom : PySem.W.mroIn K C_InvalidLoom (.type "object") = some true)
    (ty_InvalidLoom : PySem.W.typeIn K (.ref C_InvalidLoom) = some (.type "type"))
    (xi_InvalidLoom : K.lookup C_InvalidLoom = some (excClassObj nm_InvalidLoom q_InvalidLoom C_InvalidLoom ns_InvalidLoom bs_InvalidLoom [.ref C_ReadError, .type "Exception", .type "BaseException", .type "object"] true sn_InvalidLoom sub_InvalidLoom ab_InvalidLoom col_InvalidLoom dd_InvalidLoom m0_InvalidLoom m1_InvalidLoom m2_InvalidLoom m3_InvalidLoom m5_InvalidLoom "Exception.__new__"))
    (tf_InvalidLoom : PySem.W.typeIn K (.ref f_InvalidLoom_init) = some (.type "function"))
    (sa_InvalidLoom : PySem.W.findIn K (.ref C_InvalidLoom) "__setattr__" = some (some (.builtin "object.__setattr__")))
    (no_InvalidLoom_part : PySem.W.findIn K (.ref C_InvalidLoom) "part" = some none)
    (no_InvalidLoom_at : PySem.W.findIn K (.ref C_InvalidLoom) "at" = some none)
    (kc_InvalidText : PySem.W.keepIn K (.ref C_InvalidText) = true)
    (e1_InvalidText : PySem.W.findIn K (.ref C_InvalidText) "__getattribute__" = some (some (.builtin "BaseException.__getattribute__")))
    (e2_InvalidText : PySem.W.findIn K (.ref C_InvalidText) "__getattr__" = some none)
    (e3_InvalidText : PySem.W.subIn K (.ref C_InvalidText) (.type "BaseException") = some true)
    (e4_InvalidText : PySem.W.hasDictIn K C_InvalidText = true)
    (e5_InvalidText : PySem.W.findIn K (.ref C_InvalidText) "__class__" = some (some (.builtin "object.__class__")))
    (e8_InvalidText : PySem.W.mroIn K C_InvalidText (.type "object") = some true)
    (ty_InvalidText : PySem.W.typeIn K (.ref C_InvalidText) = some (.type "type"))
    (in_InvalidText : PySem.W.excIn K C_InvalidText [.type "Exception", .type "BaseException", .type "object"] "Exception.__new__" = true)
    (kc_Stuck : PySem.W.keepIn K (.ref C_Stuck) = true)
    (e1_Stuck : PySem.W.findIn K (.ref C_Stuck) "__getattribute__" = some (some (.builtin "BaseException.__getattribute__")))
    (e2_Stuck : PySem.W.findIn K (.ref C_Stuck) "__getattr__" = some none)
    (e3_Stuck : PySem.W.subIn K (.ref C_Stuck) (.type "BaseException") = some true)
    (e4_Stuck : PySem.W.hasDictIn K C_Stuck = true)
    (e5_Stuck : PySem.W.findIn K (.ref C_Stuck) "__class__" = some (some (.builtin "object.__class__")))
    (e8_Stuck : PySem.W.mroIn K C_Stuck (.type "object") = some true)
    (ty_Stuck : PySem.W.typeIn K (.ref C_Stuck) = some (.type "type"))
    (in_Stuck : PySem.W.excIn K C_Stuck [.type "Exception", .type "BaseException", .type "object"] "Exception.__new__" = true)
    (e6 : PySem.W.specialIn K (.builtin "object.__class__") "__get__" = some (some (.builtin "getset_descriptor.__get__")))
    (e7 : PySem.W.takesIn K (.builtin "object.__class__") = some true)
    (eqo_Trail : PySem.W.findIn K (.ref C_Trail) "__eq__" = some (some (.builtin "object.__eq__")))
    (neo_Trail : PySem.W.findIn K (.ref C_Trail) "__ne__" = some (some (.builtin "object.__ne__")))
    (mro_Trail : PySem.W.mroIn K C_Trail (.type "object") = some true)
    (ic_Loom : PySem.W.findIn K (.ref C_Loom) "__class__" = some (some (.builtin "object.__class__")))
    (ig : PySem.W.specialIn K (.builtin "object.__class__") "__get__" = some (some (.builtin "getset_descriptor.__get__")))
    (it : PySem.W.takesIn K (.builtin "object.__class__") = some true)
    (im_Loom : PySem.W.mroIn K C_Loom (.type "object") = some true)
    (si_InvalidLoom : PySem.W.subIn K (.ref C_InvalidLoom) (.type "int") = some false)
    (si_Loom : PySem.W.subIn K (.ref C_Loom) (.type "int") = some false)
    (sl_InvalidLoom : PySem.W.subIn K (.ref C_InvalidLoom) (.type "list") = some false)
    (st_InvalidLoom : PySem.W.subIn K (.ref C_InvalidLoom) (.type "tuple") = some false)
    (sl_Loom : PySem.W.subIn K (.ref C_Loom) (.type "list") = some false)
    (st_Loom : PySem.W.subIn K (.ref C_Loom) (.type "tuple") = some false)
    (sx_Loom : PySem.W.subIn K (.ref C_Loom) (.type "str") = some false)
    (cl_InvalidText : PySem.W.isClsIn K C_InvalidText = true)
    (cl_Stuck : PySem.W.isClsIn K C_Stuck = true)
    (cl_ReadError : PySem.W.isClsIn K C_ReadError = true)
    (su_InvalidText_InvalidText : PySem.W.subIn K (.ref C_InvalidText) (.ref C_InvalidText) = some true)
    (su_InvalidText_Stuck : PySem.W.subIn K (.ref C_InvalidText) (.ref C_Stuck) = some false)
    (su_Stuck_InvalidText : PySem.W.subIn K (.ref C_Stuck) (.ref C_InvalidText) = some false)
    (su_Stuck_Stuck : PySem.W.subIn K (.ref C_Stuck) (.ref C_Stuck) = some true)
    (sx_InvalidLoom : PySem.W.subIn K (.ref C_InvalidLoom) (.type "str") = some false)
    (z_all : PySem.W.nsIn K mainGlobals "all" = some none)
    (z_bool : PySem.W.nsIn K mainGlobals "bool" = some none)
    (z_enumerate : PySem.W.nsIn K mainGlobals "enumerate" = some none)
    (z_int : PySem.W.nsIn K mainGlobals "int" = some none)
    (z_isinstance : PySem.W.nsIn K mainGlobals "isinstance" = some none)
    (z_len : PySem.W.nsIn K mainGlobals "len" = some none)
    (z_list : PySem.W.nsIn K mainGlobals "list" = some none)
    (z_range : PySem.W.nsIn K mainGlobals "range" = some none)
    (z_reversed : PySem.W.nsIn K mainGlobals "reversed" = some none)
    (z_sorted : PySem.W.nsIn K mainGlobals "sorted" = some none)
    (z_str : PySem.W.nsIn K mainGlobals "str" = some none)
    (z_tuple : PySem.W.nsIn K mainGlobals "tuple" = some none)
    (z_zip : PySem.W.nsIn K mainGlobals "zip" = some none)
    (g_MOST_SIGNS : PySem.W.nsIn K mainGlobals "MOST_SIGNS" = some (some (.int 4 t_MOST_SIGNS)))
    (g_LONGEST_WORD : PySem.W.nsIn K mainGlobals "LONGEST_WORD" = some (some (.int 12 t_LONGEST_WORD)))
    (g_LONGEST_TEXT : PySem.W.nsIn K mainGlobals "LONGEST_TEXT" = some (some (.int 2000 t_LONGEST_TEXT)))
    (g_LAST_STATE : PySem.W.nsIn K mainGlobals "LAST_STATE" = some (some (.int 63 t_LAST_STATE)))
    (g_MOST_ARCS : PySem.W.nsIn K mainGlobals "MOST_ARCS" = some (some (.int 200 t_MOST_ARCS)))
    : ∃ fd : FuncData, (∀ (s : Shared) (v : Value), BindsTo s fd ⟨[v], []⟩ [("_law_script", v)]) ∧ ∀ base : Heap, K.In base → base.Ns mainGlobals mg → FnOk l.prog w K mg base CX0 9 fa fd P_law (spLaw K) := by
  have e := hfa.symm.trans (PySem.W.mg_of X G a_law)
  cases e
  have F_InvalidLoom_init := fun_mk (st := s_InvalidLoom_init) l_InvalidLoom_init c_InvalidLoom_init k_InvalidLoom_init
  have b_InvalidLoom_init := F_InvalidLoom_init.binds (ps := P_InvalidLoom_init) fun _ _ _ _ _ _ us hl => match us, hl with | [_, _, _], _ => rfl
  have F_is_number := fun_mk (st := s_is_number) l_is_number c_is_number k_is_number
  have b_is_number := F_is_number.binds (ps := P_is_number) fun _ _ _ _ _ _ us hl => match us, hl with | [_, _, _], _ => rfl
  have F_is_sequence := fun_mk (st := s_is_sequence) l_is_sequence c_is_sequence k_is_sequence
  have b_is_sequence := F_is_sequence.binds (ps := P_is_sequence) fun _ _ _ _ _ _ us hl => match us, hl with | [_, _, _], _ => rfl
  have F_is_signs := fun_mk (st := s_is_signs) l_is_signs c_is_signs k_is_signs
  have b_is_signs := F_is_signs.binds (ps := P_is_signs) fun _ _ _ _ _ _ us hl => match us, hl with | [_], _ => rfl
  have F_is_string_over := fun_mk (st := s_is_string_over) l_is_string_over c_is_string_over k_is_string_over
  have b_is_string_over := F_is_string_over.binds (ps := P_is_string_over) fun _ _ _ _ _ _ us hl => match us, hl with | [_, _, _, _], _ => rfl
  have F_is_word := fun_mk (st := s_is_word) l_is_word c_is_word k_is_word
  have b_is_word := F_is_word.binds (ps := P_is_word) fun _ _ _ _ _ _ us hl => match us, hl with | [_, _], _ => rfl
  have F_check_signs := fun_mk (st := s_check_signs) l_check_signs c_check_signs k_check_signs
  have b_check_signs := F_check_signs.binds (ps := P_check_signs) fun _ _ _ _ _ _ us hl => match us, hl with | [_], _ => rfl
  have F_check_state := fun_mk (st := s_check_state) l_check_state c_check_state k_check_state
  have b_check_state := F_check_state.binds (ps := P_check_state) fun _ _ _ _ _ _ us hl => match us, hl with | [_], _ => rfl
  have F_check_text := fun_mk (st := s_check_text) l_check_text c_check_text k_check_text
  have b_check_text := F_check_text.binds (ps := P_check_text) fun _ _ _ _ _ _ us hl => match us, hl with | [_, _], _ => rfl
  have F_Trail_init := fun_mk (st := s_Trail_init) l_Trail_init c_Trail_init k_Trail_init
  have b_Trail_init := F_Trail_init.binds (ps := P_Trail_init) fun _ _ _ _ _ _ us hl => match us, hl with | [_, _, _], _ => rfl
  have F_cut := fun_mk (st := s_cut) l_cut c_cut k_cut
  have b_cut := F_cut.binds (ps := P_cut) fun _ _ _ _ _ _ us hl => match us, hl with | [_, _], _ => rfl
  have F_shared := fun_mk (st := s_shared) l_shared c_shared k_shared
  have b_shared := F_shared.binds (ps := P_shared) fun _ _ _ _ _ _ us hl => match us, hl with | [_, _], _ => rfl
  have F_numbers_beyond := fun_mk (st := s_numbers_beyond) l_numbers_beyond c_numbers_beyond k_numbers_beyond
  have b_numbers_beyond := F_numbers_beyond.binds (ps := P_numbers_beyond) fun _ _ _ _ _ _ us hl => match us, hl with | [_, _], _ => rfl
  have F_arcs_by_beginnings := fun_mk (st := s_arcs_by_beginnings) l_arcs_by_beginnings c_arcs_by_beginnings k_arcs_by_beginnings
  have b_arcs_by_beginnings := F_arcs_by_beginnings.binds (ps := P_arcs_by_beginnings) fun _ _ _ _ _ _ us hl => match us, hl with | [_], _ => rfl
  have F_Reader_init := fun_mk (st := s_Reader_init) l_Reader_init c_Reader_init k_Reader_init
  have b_Reader_init := F_Reader_init.binds (ps := P_Reader_init) fun _ _ _ _ _ _ us hl => match us, hl with | [_, _, _], _ => rfl
  have F_Reader_take := fun_mk (st := s_Reader_take) l_Reader_take c_Reader_take k_Reader_take
  have b_Reader_take := F_Reader_take.binds (ps := P_Reader_take) fun _ _ _ _ _ _ us hl => match us, hl with | [_, _], _ => rfl
  have F_Reader_told := fun_mk (st := s_Reader_told) l_Reader_told c_Reader_told k_Reader_told
  have b_Reader_told := F_Reader_told.binds (ps := P_Reader_told) fun _ _ _ _ _ _ us hl => match us, hl with | [_], _ => rfl
  have F_Reader_text := fun_mk (st := s_Reader_text) l_Reader_text c_Reader_text k_Reader_text
  have b_Reader_text := F_Reader_text.binds (ps := P_Reader_text) fun _ _ _ _ _ _ us hl => match us, hl with | [_], _ => rfl
  have F_Reader_twin := fun_mk (st := s_Reader_twin) l_Reader_twin c_Reader_twin k_Reader_twin
  have b_Reader_twin := F_Reader_twin.binds (ps := P_Reader_twin) fun _ _ _ _ _ _ us hl => match us, hl with | [_], _ => rfl
  have F_Reader__covers := fun_mk (st := s_Reader__covers) l_Reader__covers c_Reader__covers k_Reader__covers
  have b_Reader__covers := F_Reader__covers.binds (ps := P_Reader__covers) fun _ _ _ _ _ _ us hl => match us, hl with | [_, _], _ => rfl
  have F_sure_trail := fun_mk (st := s_sure_trail) l_sure_trail c_sure_trail k_sure_trail
  have b_sure_trail := F_sure_trail.binds (ps := P_sure_trail) fun _ _ _ _ _ _ us hl => match us, hl with | [_], _ => rfl
  have F_ends := fun_mk (st := s_ends) l_ends c_ends k_ends
  have b_ends := F_ends.binds (ps := P_ends) fun _ _ _ _ _ _ us hl => match us, hl with | [_], _ => rfl
  have F_is_arc := fun_mk (st := s_is_arc) l_is_arc c_is_arc k_is_arc
  have b_is_arc := F_is_arc.binds (ps := P_is_arc) fun _ _ _ _ _ _ us hl => match us, hl with | [_, _], _ => rfl
  have F_Loom_init := fun_mk (st := s_Loom_init) l_Loom_init c_Loom_init k_Loom_init
  have b_Loom_init := F_Loom_init.binds (ps := P_Loom_init) fun _ _ _ _ _ _ us hl => match us, hl with | [_, _, _], _ => rfl
  have F_Loom_eq := fun_mk (st := s_Loom_eq) l_Loom_eq c_Loom_eq k_Loom_eq
  have b_Loom_eq := F_Loom_eq.binds (ps := P_Loom_eq) fun _ _ _ _ _ _ us hl => match us, hl with | [_, _], _ => rfl
  have F_goes_on := fun_mk (st := s_goes_on) l_goes_on c_goes_on k_goes_on
  have b_goes_on := F_goes_on.binds (ps := P_goes_on) fun _ _ _ _ _ _ us hl => match us, hl with | [_, _, _, _, _], _ => rfl
  have F_live_arcs := fun_mk (st := s_live_arcs) l_live_arcs c_live_arcs k_live_arcs
  have b_live_arcs := F_live_arcs.binds (ps := P_live_arcs) fun _ _ _ _ _ _ us hl => match us, hl with | [_, _, _], _ => rfl
  have F_sure := fun_mk (st := s_sure) l_sure c_sure k_sure
  have b_sure := F_sure.binds (ps := P_sure) fun _ _ _ _ _ _ us hl => match us, hl with | [_, _, _], _ => rfl
  have F_l_state := fun_mk (st := s_l_state) l_l_state c_l_state k_l_state
  have b_l_state := F_l_state.binds (ps := P_l_state) fun _ _ _ _ _ _ us hl => match us, hl with | [_], _ => rfl
  have F_l_draw := fun_mk (st := s_l_draw) l_l_draw c_l_draw k_l_draw
  have b_l_draw := F_l_draw.binds (ps := P_l_draw) fun _ _ _ _ _ _ us hl => match us, hl with | [_, _], _ => rfl
  have F_l_word := fun_mk (st := s_l_word) l_l_word c_l_word k_l_word
  have b_l_word := F_l_word.binds (ps := P_l_word) fun _ _ _ _ _ _ us hl => match us, hl with | [_, _, _], _ => rfl
  have F_l_loom := fun_mk (st := s_l_loom) l_l_loom c_l_loom k_l_loom
  have b_l_loom := F_l_loom.binds (ps := P_l_loom) fun _ _ _ _ _ _ us hl => match us, hl with | [_], _ => rfl
  have F_l_made := fun_mk (st := s_l_made) l_l_made c_l_made k_l_made
  have b_l_made := F_l_made.binds (ps := P_l_made) fun _ _ _ _ _ _ us hl => match us, hl with | [_], _ => rfl
  have F_l_leaving := fun_mk (st := s_l_leaving) l_l_leaving c_l_leaving k_l_leaving
  have b_l_leaving := F_l_leaving.binds (ps := P_l_leaving) fun _ _ _ _ _ _ us hl => match us, hl with | [_, _], _ => rfl
  have F_l_met := fun_mk (st := s_l_met) l_l_met c_l_met k_l_met
  have b_l_met := F_l_met.binds (ps := P_l_met) fun _ _ _ _ _ _ us hl => match us, hl with | [_], _ => rfl
  have F_l_odd := fun_mk (st := s_l_odd) l_l_odd c_l_odd k_l_odd
  have b_l_odd := F_l_odd.binds (ps := P_l_odd) fun _ _ _ _ _ _ us hl => match us, hl with | [_], _ => rfl
  have F_l_take := fun_mk (st := s_l_take) l_l_take c_l_take k_l_take
  have b_l_take := F_l_take.binds (ps := P_l_take) fun _ _ _ _ _ _ us hl => match us, hl with | [_, _], _ => rfl
  have F_law := fun_mk (st := s_law) l_law c_law k_law
  have b_law := F_law.binds (ps := P_law) fun _ _ _ _ _ _ us hl => match us, hl with | [_], _ => rfl
  exact ⟨_, fun s v => .of_eq rfl, fun base _ _ => ok_law {
    f_InvalidLoom_init := _
    fd_InvalidLoom_init := _
    F_InvalidLoom_init := F_InvalidLoom_init
    b_InvalidLoom_init := b_InvalidLoom_init
    f_is_number := _
    fd_is_number := _
    F_is_number := F_is_number
    b_is_number := b_is_number
    m_is_number := PySem.W.mg_of X G a_is_number
    f_is_sequence := _
    fd_is_sequence := _
    F_is_sequence := F_is_sequence
    b_is_sequence := b_is_sequence
    m_is_sequence := PySem.W.mg_of X G a_is_sequence
    f_is_signs := _
    fd_is_signs := _
    F_is_signs := F_is_signs
    b_is_signs := b_is_signs
    m_is_signs := PySem.W.mg_of X G a_is_signs
    f_is_string_over := _
    fd_is_string_over := _
    F_is_string_over := F_is_string_over
    b_is_string_over := b_is_string_over
    m_is_string_over := PySem.W.mg_of X G a_is_string_over
    f_is_word := _
    fd_is_word := _
    F_is_word := F_is_word
    b_is_word := b_is_word
    m_is_word := PySem.W.mg_of X G a_is_word
    f_check_signs := _
    fd_check_signs := _
    F_check_signs := F_check_signs
    b_check_signs := b_check_signs
    m_check_signs := PySem.W.mg_of X G a_check_signs
    f_check_state := _
    fd_check_state := _
    F_check_state := F_check_state
    b_check_state := b_check_state
    m_check_state := PySem.W.mg_of X G a_check_state
    f_check_text := _
    fd_check_text := _
    F_check_text := F_check_text
    b_check_text := b_check_text
    m_check_text := PySem.W.mg_of X G a_check_text
    f_Trail_init := _
    fd_Trail_init := _
    F_Trail_init := F_Trail_init
    b_Trail_init := b_Trail_init
    f_cut := _
    fd_cut := _
    F_cut := F_cut
    b_cut := b_cut
    m_cut := PySem.W.mg_of X G a_cut
    f_shared := _
    fd_shared := _
    F_shared := F_shared
    b_shared := b_shared
    m_shared := PySem.W.mg_of X G a_shared
    f_numbers_beyond := _
    fd_numbers_beyond := _
    F_numbers_beyond := F_numbers_beyond
    b_numbers_beyond := b_numbers_beyond
    m_numbers_beyond := PySem.W.mg_of X G a_numbers_beyond
    f_arcs_by_beginnings := _
    fd_arcs_by_beginnings := _
    F_arcs_by_beginnings := F_arcs_by_beginnings
    b_arcs_by_beginnings := b_arcs_by_beginnings
    m_arcs_by_beginnings := PySem.W.mg_of X G a_arcs_by_beginnings
    f_Reader_init := _
    fd_Reader_init := _
    F_Reader_init := F_Reader_init
    b_Reader_init := b_Reader_init
    f_Reader_take := _
    fd_Reader_take := _
    F_Reader_take := F_Reader_take
    b_Reader_take := b_Reader_take
    f_Reader_told := _
    fd_Reader_told := _
    F_Reader_told := F_Reader_told
    b_Reader_told := b_Reader_told
    f_Reader_text := _
    fd_Reader_text := _
    F_Reader_text := F_Reader_text
    b_Reader_text := b_Reader_text
    f_Reader_twin := _
    fd_Reader_twin := _
    F_Reader_twin := F_Reader_twin
    b_Reader_twin := b_Reader_twin
    f_Reader__covers := _
    fd_Reader__covers := _
    F_Reader__covers := F_Reader__covers
    b_Reader__covers := b_Reader__covers
    f_sure_trail := _
    fd_sure_trail := _
    F_sure_trail := F_sure_trail
    b_sure_trail := b_sure_trail
    m_sure_trail := PySem.W.mg_of X G a_sure_trail
    f_ends := _
    fd_ends := _
    F_ends := F_ends
    b_ends := b_ends
    m_ends := PySem.W.mg_of X G a_ends
    f_is_arc := _
    fd_is_arc := _
    F_is_arc := F_is_arc
    b_is_arc := b_is_arc
    m_is_arc := PySem.W.mg_of X G a_is_arc
    f_Loom_init := _
    fd_Loom_init := _
    F_Loom_init := F_Loom_init
    b_Loom_init := b_Loom_init
    f_Loom_eq := _
    fd_Loom_eq := _
    F_Loom_eq := F_Loom_eq
    b_Loom_eq := b_Loom_eq
    f_goes_on := _
    fd_goes_on := _
    F_goes_on := F_goes_on
    b_goes_on := b_goes_on
    m_goes_on := PySem.W.mg_of X G a_goes_on
    f_live_arcs := _
    fd_live_arcs := _
    F_live_arcs := F_live_arcs
    b_live_arcs := b_live_arcs
    m_live_arcs := PySem.W.mg_of X G a_live_arcs
    f_sure := _
    fd_sure := _
    F_sure := F_sure
    b_sure := b_sure
    m_sure := PySem.W.mg_of X G a_sure
    f_l_state := _
    fd_l_state := _
    F_l_state := F_l_state
    b_l_state := b_l_state
    m_l_state := PySem.W.mg_of X G a_l_state
    f_l_draw := _
    fd_l_draw := _
    F_l_draw := F_l_draw
    b_l_draw := b_l_draw
    m_l_draw := PySem.W.mg_of X G a_l_draw
    f_l_word := _
    fd_l_word := _
    F_l_word := F_l_word
    b_l_word := b_l_word
    m_l_word := PySem.W.mg_of X G a_l_word
    f_l_loom := _
    fd_l_loom := _
    F_l_loom := F_l_loom
    b_l_loom := b_l_loom
    m_l_loom := PySem.W.mg_of X G a_l_loom
    f_l_made := _
    fd_l_made := _
    F_l_made := F_l_made
    b_l_made := b_l_made
    m_l_made := PySem.W.mg_of X G a_l_made
    f_l_leaving := _
    fd_l_leaving := _
    F_l_leaving := F_l_leaving
    b_l_leaving := b_l_leaving
    m_l_leaving := PySem.W.mg_of X G a_l_leaving
    f_l_met := _
    fd_l_met := _
    F_l_met := F_l_met
    b_l_met := b_l_met
    m_l_met := PySem.W.mg_of X G a_l_met
    f_l_odd := _
    fd_l_odd := _
    F_l_odd := F_l_odd
    b_l_odd := b_l_odd
    m_l_odd := PySem.W.mg_of X G a_l_odd
    f_l_take := _
    fd_l_take := _
    F_l_take := F_l_take
    b_l_take := b_l_take
    m_l_take := PySem.W.mg_of X G a_l_take
    f_law := _
    fd_law := _
    F_law := F_law
    b_law := b_law
    m_law := PySem.W.mg_of X G a_law
    n_all := PySem.W.mg_none_of X G z_all
    n_bool := PySem.W.mg_none_of X G z_bool
    n_enumerate := PySem.W.mg_none_of X G z_enumerate
    n_int := PySem.W.mg_none_of X G z_int
    n_isinstance := PySem.W.mg_none_of X G z_isinstance
    n_len := PySem.W.mg_none_of X G z_len
    n_list := PySem.W.mg_none_of X G z_list
    n_range := PySem.W.mg_none_of X G z_range
    n_reversed := PySem.W.mg_none_of X G z_reversed
    n_sorted := PySem.W.mg_none_of X G z_sorted
    n_str := PySem.W.mg_none_of X G z_str
    n_tuple := PySem.W.mg_none_of X G z_tuple
    n_zip := PySem.W.mg_none_of X G z_zip
    t_MOST_SIGNS := t_MOST_SIGNS
    g_MOST_SIGNS := PySem.W.mg_of X G g_MOST_SIGNS
    t_LONGEST_WORD := t_LONGEST_WORD
    g_LONGEST_WORD := PySem.W.mg_of X G g_LONGEST_WORD
    t_LONGEST_TEXT := t_LONGEST_TEXT
    g_LONGEST_TEXT := PySem.W.mg_of X G g_LONGEST_TEXT
    t_LAST_STATE := t_LAST_STATE
    g_LAST_STATE := PySem.W.mg_of X G g_LAST_STATE
    t_MOST_ARCS := t_MOST_ARCS
    g_MOST_ARCS := PySem.W.mg_of X G g_MOST_ARCS
    C_Trail := C_Trail
    M_Trail := ⟨mk_Trail, a_Trail_init, i_Trail_init, kc_Trail⟩
    cl_Trail := ⟨pg_Trail, hd_Trail, po_Trail, sa_Trail⟩
    g_Trail := PySem.W.mg_of X G a_CTrail
    na_Trail_ahead := na_Trail_ahead
    na_Trail_number := na_Trail_number
    na_Trail_many := na_Trail_many
    na_Trail_jump := na_Trail_jump
    C_Reader := C_Reader
    M_Reader := ⟨mk_Reader, a_Reader_init, i_Reader_init, kc_Reader⟩
    cl_Reader := ⟨pg_Reader, hd_Reader, po_Reader, sa_Reader⟩
    g_Reader := PySem.W.mg_of X G a_CReader
    na_Reader__loom := na_Reader__loom
    na_Reader__state := na_Reader__state
    na_Reader__arcs := na_Reader__arcs
    na_Reader__text := na_Reader__text
    na_Reader__told := na_Reader__told
    na_Reader__places := na_Reader__places
    me_Reader_take := ⟨a_Reader_take, i_Reader_take, k_Reader_take⟩
    me_Reader_told := ⟨a_Reader_told, i_Reader_told, k_Reader_told⟩
    me_Reader_text := ⟨a_Reader_text, i_Reader_text, k_Reader_text⟩
    me_Reader_twin := ⟨a_Reader_twin, i_Reader_twin, k_Reader_twin⟩
    me_Reader__covers := ⟨a_Reader__covers, i_Reader__covers, k_Reader__covers⟩
    C_Loom := C_Loom
    M_Loom := ⟨mk_Loom, a_Loom_init, i_Loom_init, kc_Loom⟩
    cl_Loom := ⟨pg_Loom, hd_Loom, po_Loom, sa_Loom⟩
    g_Loom := PySem.W.mg_of X G a_CLoom
    na_Loom_signs := na_Loom_signs
    na_Loom_arcs := na_Loom_arcs
    C_ReadError := C_ReadError
    g_ReadError := PySem.W.mg_of X G a_CReadError
    kc_ReadError := kc_ReadError
    E_ReadError := ⟨e1_ReadError, e2_ReadError, e3_ReadError, e4_ReadError, e5_ReadError, e6, e7, e8_ReadError⟩
    ty_ReadError := ty_ReadError
    in_ReadError := in_ReadError
    C_InvalidLoom := C_InvalidLoom
    g_InvalidLoom := PySem.W.mg_of X G a_CInvalidLoom
    kc_InvalidLoom := kc_InvalidLoom
    E_InvalidLoom := ⟨e1_InvalidLoom, e2_InvalidLoom, e3_InvalidLoom, e4_InvalidLoom, e5_InvalidLoom, e6, e7, e8_InvalidLoom⟩
    ty_InvalidLoom := ty_InvalidLoom
    X_InvalidLoom := { gC := PySem.W.mg_of X G a_CInvalidLoom, cls := ⟨_, _, _, _, _, _, _, _, _, _, _, _, _, _, _, xi_InvalidLoom, by first | rfl | decide +kernel⟩, sa := sa_InvalidLoom, ga := e1_InvalidLoom, gg := e2_InvalidLoom, no := fun f hf => by simp only [List.mem_cons, List.not_mem_nil, or_false] at hf; rcases hf with rfl | rfl <;> assumption, iC := a_InvalidLoom_init, tC := tf_InvalidLoom, kC := kc_InvalidLoom, exC := e3_InvalidLoom, tyC := ty_InvalidLoom, hdC := e4_InvalidLoom, fn := ⟨_, _, _, _, _, _, _, _, _, l_InvalidLoom_init, c_InvalidLoom_init⟩ }
    C_InvalidText := C_InvalidText
    g_InvalidText := PySem.W.mg_of X G a_CInvalidText
    kc_InvalidText := kc_InvalidText
    E_InvalidText := ⟨e1_InvalidText, e2_InvalidText, e3_InvalidText, e4_InvalidText, e5_InvalidText, e6, e7, e8_InvalidText⟩
    ty_InvalidText := ty_InvalidText
    in_InvalidText := in_InvalidText
    C_Stuck := C_Stuck
    g_Stuck := PySem.W.mg_of X G a_CStuck
    kc_Stuck := kc_Stuck
    E_Stuck := ⟨e1_Stuck, e2_Stuck, e3_Stuck, e4_Stuck, e5_Stuck, e6, e7, e8_Stuck⟩
    ty_Stuck := ty_Stuck
    in_Stuck := in_Stuck
    eqo_Trail := eqo_Trail
    neo_Trail := neo_Trail
    mro_Trail := mro_Trail
    ic_Loom := ic_Loom
    ig := ig
    it := it
    im_Loom := im_Loom
    si_InvalidLoom := si_InvalidLoom
    si_Loom := si_Loom
    sl_InvalidLoom := sl_InvalidLoom
    st_InvalidLoom := st_InvalidLoom
    sl_Loom := sl_Loom
    st_Loom := st_Loom
    sx_Loom := sx_Loom
    cl_InvalidText := cl_InvalidText
    cl_Stuck := cl_Stuck
    cl_ReadError := cl_ReadError
    su_InvalidText_InvalidText := su_InvalidText_InvalidText
    su_InvalidText_Stuck := su_InvalidText_Stuck
    su_Stuck_InvalidText := su_Stuck_InvalidText
    su_Stuck_Stuck := su_Stuck_Stuck
    sx_InvalidLoom := sx_InvalidLoom }⟩
theorem walk {l : PySem.W.OpenLaw} {q : Program} {loose : List Str} {XP : (Str → Option Value) → Heap → Prop} {YP : World → Heap → Prop} {d : DefRec} {K : Params → PySem.W.Frag} (hn : l.most = some 63) (hdf : d.params.defaults = [])
    (hY : ∀ (w : World) (h : Heap), YP w h → (K w.params).In h)
    (F : ∀ (w : World) (mg : Str → Option Value) (fa : Addr) (h : Heap), (K w.params).In h → h.Ns mainGlobals mg → mg d.name = some (.ref fa) →
      ∃ fd : FuncData, (∀ (s : Shared) (u : Value), BindsTo s fd ⟨[u], []⟩ [("_law_script", u)]) ∧ ∀ base : Heap, (K w.params).In base → base.Ns mainGlobals mg → FnOk l.prog w (K w.params) mg base CX0 9 fa fd P_law (spLaw (K w.params))) :
    PySem.W.WalkO q loose XP YP l.row.toRowW d [] (fun f vs => PySem.call f vs) :=
  L2.walk_of (n := 63) (k := 9) (x := "_law_script") (CX := fun _ => CX0) (sp := fun w => spLaw (K w.params)) hn (by decide) hdf ⟨rfl, by decide, by decide⟩ hY F (fun _ _ a ns hl _ hS => ⟨a, ns, rfl, hS, hl, fun _ => rfl⟩) fun _ _ _ _ _ z => z
end J

open PySem PySem.W PyProof.Rows in
set_option maxRecDepth 100000 in
set_option maxHeartbeats 0 in
theorem PySem.Challenge.cw_onewayread_k07_readers_stuck_and_twins_holds : PySem.Challenge.rw_onewayread_k07_readers_stuck_and_twins.Holds := by
  w_on; o_law; k_head; (case hw => w_witness2)
  k_fill
  refine J.walk (l := PySem.Challenge.rw_onewayread_k07_readers_stuck_and_twins) rfl rfl (fun w h Y => PySem.W.kIn_of Y) ?F
  case F =>
    intro w mg fa h KX G hmg
    refine' J.all_mk KX G hmg ?a_CStuck ?a_CInvalidText ?a_CReadError ?a_CTrail ?a_CReader ?a_CLoom ?a_CInvalidLoom ?a_InvalidLoom_init ?i_InvalidLoom_init ?l_InvalidLoom_init ?c_InvalidLoom_init ?k_InvalidLoom_init ?a_is_number ?l_is_number ?c_is_number ?k_is_number ?a_is_sequence ?l_is_sequence ?c_is_sequence ?k_is_sequence ?a_is_signs ?l_is_signs ?c_is_signs ?k_is_signs ?a_is_string_over ?l_is_string_over ?c_is_string_over ?k_is_string_over ?a_is_word ?l_is_word ?c_is_word ?k_is_word ?a_check_signs ?l_check_signs ?c_check_signs ?k_check_signs ?a_check_state ?l_check_state ?c_check_state ?k_check_state ?a_check_text ?l_check_text ?c_check_text ?k_check_text ?a_Trail_init ?i_Trail_init ?l_Trail_init ?c_Trail_init ?k_Trail_init ?a_cut ?l_cut ?c_cut ?k_cut ?a_shared ?l_shared ?c_shared ?k_shared ?a_numbers_beyond ?l_numbers_beyond ?c_numbers_beyond ?k_numbers_beyond ?a_arcs_by_beginnings ?l_arcs_by_beginnings ?c_arcs_by_beginnings ?k_arcs_by_beginnings ?a_Reader_init ?i_Reader_init ?l_Reader_init ?c_Reader_init ?k_Reader_init ?a_Reader_take ?i_Reader_take ?l_Reader_take ?c_Reader_take ?k_Reader_take ?a_Reader_told ?i_Reader_told ?l_Reader_told ?c_Reader_told ?k_Reader_told ?a_Reader_text ?i_Reader_text ?l_Reader_text ?c_Reader_text ?k_Reader_text ?a_Reader_twin ?i_Reader_twin ?l_Reader_twin ?c_Reader_twin ?k_Reader_twin ?a_Reader__covers ?i_Reader__covers ?l_Reader__covers ?c_Reader__covers ?k_Reader__covers ?a_sure_trail ?l_sure_trail ?c_sure_trail ?k_sure_trail ?a_ends ?l_ends ?c_ends ?k_ends ?a_is_arc ?l_is_arc ?c_is_arc ?k_is_arc ?a_Loom_init ?i_Loom_init ?l_Loom_init ?c_Loom_init ?k_Loom_init ?a_Loom_eq ?l_Loom_eq ?c_Loom_eq ?k_Loom_eq ?a_goes_on ?l_goes_on ?c_goes_on ?k_goes_on ?a_live_arcs ?l_live_arcs ?c_live_arcs ?k_live_arcs ?a_sure ?l_sure ?c_sure ?k_sure ?a_l_state ?l_l_state ?c_l_state ?k_l_state ?a_l_draw ?l_l_draw ?c_l_draw ?k_l_draw ?a_l_word ?l_l_word ?c_l_word ?k_l_word ?a_l_loom ?l_l_loom ?c_l_loom ?k_l_loom ?a_l_made ?l_l_made ?c_l_made ?k_l_made ?a_l_leaving ?l_l_leaving ?c_l_leaving ?k_l_leaving ?a_l_met ?l_l_met ?c_l_met ?k_l_met ?a_l_odd ?l_l_odd ?c_l_odd ?k_l_odd ?a_l_take ?l_l_take ?c_l_take ?k_l_take ?a_law ?l_law ?c_law ?k_law ?pg_Trail ?hd_Trail ?po_Trail ?sa_Trail ?mk_Trail ?kc_Trail ?na_Trail_ahead ?na_Trail_number ?na_Trail_many ?na_Trail_jump ?pg_Reader ?hd_Reader ?po_Reader ?sa_Reader ?mk_Reader ?kc_Reader ?na_Reader__loom ?na_Reader__state ?na_Reader__arcs ?na_Reader__text ?na_Reader__told ?na_Reader__places ?pg_Loom ?hd_Loom ?po_Loom ?sa_Loom ?mk_Loom ?kc_Loom ?na_Loom_signs ?na_Loom_arcs ?kc_ReadError ?e1_ReadError ?e2_ReadError ?e3_ReadError ?e4_ReadError ?e5_ReadError ?e8_ReadError ?ty_ReadError ?in_ReadError ?kc_InvalidLoom ?e1_InvalidLoom ?e2_InvalidLoom ?e3_InvalidLoom ?e4_InvalidLoom ?e5_InvalidLoom ?e8_InvalidLoom ?ty_InvalidLoom ?xi_InvalidLoom ?tf_InvalidLoom ?sa_InvalidLoom ?no_InvalidLoom_part ?no_InvalidLoom_at ?kc_InvalidText ?e1_InvalidText ?e2_InvalidText ?e3_InvalidText ?e4_InvalidText ?e5_InvalidText ?e8_InvalidText ?ty_InvalidText ?in_InvalidText ?kc_Stuck ?e1_Stuck ?e2_Stuck ?e3_Stuck ?e4_Stuck ?e5_Stuck ?e8_Stuck ?ty_Stuck ?in_Stuck ?e6 ?e7 ?eqo_Trail ?neo_Trail ?mro_Trail ?ic_Loom ?ig ?it ?im_Loom ?si_InvalidLoom ?si_Loom ?sl_InvalidLoom ?st_InvalidLoom ?sl_Loom ?st_Loom ?sx_Loom ?cl_InvalidText ?cl_Stuck ?cl_ReadError ?su_InvalidText_InvalidText ?su_InvalidText_Stuck ?su_Stuck_InvalidText ?su_Stuck_Stuck ?sx_InvalidLoom ?z_all ?z_bool ?z_enumerate ?z_int ?z_isinstance ?z_len ?z_list ?z_range ?z_reversed ?z_sorted ?z_str ?z_tuple ?z_zip ?g_MOST_SIGNS ?g_LONGEST_WORD ?g_LONGEST_TEXT ?g_LAST_STATE ?g_MOST_ARCS
    (case a_CStuck => k_is)
    (case a_CInvalidText => k_is)
    (case a_CReadError => k_is)
    (case a_CTrail => k_is)
    (case a_CReader => k_is)
    (case a_CLoom => k_is)
    (case a_CInvalidLoom => k_is)
    (case a_InvalidLoom_init => k_is)
    (case i_InvalidLoom_init => k_is)
    (case l_InvalidLoom_init => k_is)
    (case c_InvalidLoom_init => k_is)
    (case k_InvalidLoom_init => k_is)
    (case a_is_number => k_is)
    (case l_is_number => k_is)
    (case c_is_number => k_is)
    (case k_is_number => k_is)
    (case a_is_sequence => k_is)
    (case l_is_sequence => k_is)
    (case c_is_sequence => k_is)
    (case k_is_sequence => k_is)
    (case a_is_signs => k_is)
    (case l_is_signs => k_is)
    (case c_is_signs => k_is)
    (case k_is_signs => k_is)
    (case a_is_string_over => k_is)
    (case l_is_string_over => k_is)
    (case c_is_string_over => k_is)
    (case k_is_string_over => k_is)
    (case a_is_word => k_is)
    (case l_is_word => k_is)
    (case c_is_word => k_is)
    (case k_is_word => k_is)
    (case a_check_signs => k_is)
    (case l_check_signs => k_is)
    (case c_check_signs => k_is)
    (case k_check_signs => k_is)
    (case a_check_state => k_is)
    (case l_check_state => k_is)
    (case c_check_state => k_is)
    (case k_check_state => k_is)
    (case a_check_text => k_is)
    (case l_check_text => k_is)
    (case c_check_text => k_is)
    (case k_check_text => k_is)
    (case a_Trail_init => k_is)
    (case i_Trail_init => k_is)
    (case l_Trail_init => k_is)
    (case c_Trail_init => k_is)
    (case k_Trail_init => k_is)
    (case a_cut => k_is)
    (case l_cut => k_is)
    (case c_cut => k_is)
    (case k_cut => k_is)
    (case a_shared => k_is)
    (case l_shared => k_is)
    (case c_shared => k_is)
    (case k_shared => k_is)
    (case a_numbers_beyond => k_is)
    (case l_numbers_beyond => k_is)
    (case c_numbers_beyond => k_is)
    (case k_numbers_beyond => k_is)
    (case a_arcs_by_beginnings => k_is)
    (case l_arcs_by_beginnings => k_is)
    (case c_arcs_by_beginnings => k_is)
    (case k_arcs_by_beginnings => k_is)
    (case a_Reader_init => k_is)
    (case i_Reader_init => k_is)
    (case l_Reader_init => k_is)
    (case c_Reader_init => k_is)
    (case k_Reader_init => k_is)
    (case a_Reader_take => k_is)
    (case i_Reader_take => k_is)
    (case l_Reader_take => k_is)
    (case c_Reader_take => k_is)
    (case k_Reader_take => k_is)
    (case a_Reader_told => k_is)
    (case i_Reader_told => k_is)
    (case l_Reader_told => k_is)
    (case c_Reader_told => k_is)
    (case k_Reader_told => k_is)
    (case a_Reader_text => k_is)
    (case i_Reader_text => k_is)
    (case l_Reader_text => k_is)
    (case c_Reader_text => k_is)
    (case k_Reader_text => k_is)
    (case a_Reader_twin => k_is)
    (case i_Reader_twin => k_is)
    (case l_Reader_twin => k_is)
    (case c_Reader_twin => k_is)
    (case k_Reader_twin => k_is)
    (case a_Reader__covers => k_is)
    (case i_Reader__covers => k_is)
    (case l_Reader__covers => k_is)
    (case c_Reader__covers => k_is)
    (case k_Reader__covers => k_is)
    (case a_sure_trail => k_is)
    (case l_sure_trail => k_is)
    (case c_sure_trail => k_is)
    (case k_sure_trail => k_is)
    (case a_ends => k_is)
    (case l_ends => k_is)
    (case c_ends => k_is)
    (case k_ends => k_is)
    (case a_is_arc => k_is)
    (case l_is_arc => k_is)
    (case c_is_arc => k_is)
    (case k_is_arc => k_is)
    (case a_Loom_init => k_is)
    (case i_Loom_init => k_is)
    (case l_Loom_init => k_is)
    (case c_Loom_init => k_is)
    (case k_Loom_init => k_is)
    (case a_Loom_eq => k_is)
    (case l_Loom_eq => k_is)
    (case c_Loom_eq => k_is)
    (case k_Loom_eq => k_is)
    (case a_goes_on => k_is)
    (case l_goes_on => k_is)
    (case c_goes_on => k_is)
    (case k_goes_on => k_is)
    (case a_live_arcs => k_is)
    (case l_live_arcs => k_is)
    (case c_live_arcs => k_is)
    (case k_live_arcs => k_is)
    (case a_sure => k_is)
    (case l_sure => k_is)
    (case c_sure => k_is)
    (case k_sure => k_is)
    (case a_l_state => k_is)
    (case l_l_state => k_is)
    (case c_l_state => k_is)
    (case k_l_state => k_is)
    (case a_l_draw => k_is)
    (case l_l_draw => k_is)
    (case c_l_draw => k_is)
    (case k_l_draw => k_is)
    (case a_l_word => k_is)
    (case l_l_word => k_is)
    (case c_l_word => k_is)
    (case k_l_word => k_is)
    (case a_l_loom => k_is)
    (case l_l_loom => k_is)
    (case c_l_loom => k_is)
    (case k_l_loom => k_is)
    (case a_l_made => k_is)
    (case l_l_made => k_is)
    (case c_l_made => k_is)
    (case k_l_made => k_is)
    (case a_l_leaving => k_is)
    (case l_l_leaving => k_is)
    (case c_l_leaving => k_is)
    (case k_l_leaving => k_is)
    (case a_l_met => k_is)
    (case l_l_met => k_is)
    (case c_l_met => k_is)
    (case k_l_met => k_is)
    (case a_l_odd => k_is)
    (case l_l_odd => k_is)
    (case c_l_odd => k_is)
    (case k_l_odd => k_is)
    (case a_l_take => k_is)
    (case l_l_take => k_is)
    (case c_l_take => k_is)
    (case k_l_take => k_is)
    (case a_law => k_is)
    (case l_law => k_is)
    (case c_law => k_is)
    (case k_law => k_is)
    (case pg_Trail => k_is)
    (case hd_Trail => k_is)
    (case po_Trail => k_is)
    (case sa_Trail => k_is)
    (case mk_Trail => k_is)
    (case kc_Trail => k_is)
    (case na_Trail_ahead => k_is)
    (case na_Trail_number => k_is)
    (case na_Trail_many => k_is)
    (case na_Trail_jump => k_is)
    (case pg_Reader => k_is)
    (case hd_Reader => k_is)
    (case po_Reader => k_is)
    (case sa_Reader => k_is)
    (case mk_Reader => k_is)
    (case kc_Reader => k_is)
    (case na_Reader__loom => k_is)
    (case na_Reader__state => k_is)
    (case na_Reader__arcs => k_is)
    (case na_Reader__text => k_is)
    (case na_Reader__told => k_is)
    (case na_Reader__places => k_is)
    (case pg_Loom => k_is)
    (case hd_Loom => k_is)
    (case po_Loom => k_is)
    (case sa_Loom => k_is)
    (case mk_Loom => k_is)
    (case kc_Loom => k_is)
    (case na_Loom_signs => k_is)
    (case na_Loom_arcs => k_is)
    (case kc_ReadError => k_is)
    (case e1_ReadError => k_is)
    (case e2_ReadError => k_is)
    (case e3_ReadError => k_is)
    (case e4_ReadError => k_is)
    (case e5_ReadError => k_is)
    (case e8_ReadError => k_is)
    (case ty_ReadError => k_is)
    (case in_ReadError => k_exc)
    (case kc_InvalidLoom => k_is)
    (case e1_InvalidLoom => k_is)
    (case e2_InvalidLoom => k_is)
    (case e3_InvalidLoom => k_is)
    (case e4_InvalidLoom => k_is)
    (case e5_InvalidLoom => k_is)
    (case e8_InvalidLoom => k_is)
    (case ty_InvalidLoom => k_is)
    (case xi_InvalidLoom => k_is)
    (case tf_InvalidLoom => k_is)
    (case sa_InvalidLoom => k_is)
    (case no_InvalidLoom_part => k_is)
    (case no_InvalidLoom_at => k_is)
    (case kc_InvalidText => k_is)
    (case e1_InvalidText => k_is)
    (case e2_InvalidText => k_is)
    (case e3_InvalidText => k_is)
    (case e4_InvalidText => k_is)
    (case e5_InvalidText => k_is)
    (case e8_InvalidText => k_is)
    (case ty_InvalidText => k_is)
    (case in_InvalidText => k_exc)
    (case kc_Stuck => k_is)
    (case e1_Stuck => k_is)
    (case e2_Stuck => k_is)
    (case e3_Stuck => k_is)
    (case e4_Stuck => k_is)
    (case e5_Stuck => k_is)
    (case e8_Stuck => k_is)
    (case ty_Stuck => k_is)
    (case in_Stuck => k_exc)
    (case e6 => k_is)
    (case e7 => k_is)
    (case eqo_Trail => k_is)
    (case neo_Trail => k_is)
    (case mro_Trail => k_is)
    (case ic_Loom => k_is)
    (case ig => k_is)
    (case it => k_is)
    (case im_Loom => k_is)
    (case si_InvalidLoom => k_is)
    (case si_Loom => k_is)
    (case sl_InvalidLoom => k_is)
    (case st_InvalidLoom => k_is)
    (case sl_Loom => k_is)
    (case st_Loom => k_is)
    (case sx_Loom => k_is)
    (case cl_InvalidText => k_is)
    (case cl_Stuck => k_is)
    (case cl_ReadError => k_is)
    (case su_InvalidText_InvalidText => k_is)
    (case su_InvalidText_Stuck => k_is)
    (case su_Stuck_InvalidText => k_is)
    (case su_Stuck_Stuck => k_is)
    (case sx_InvalidLoom => k_is)
    (case z_all => k_is)
    (case z_bool => k_is)
    (case z_enumerate => k_is)
    (case z_int => k_is)
    (case z_isinstance => k_is)
    (case z_len => k_is)
    (case z_list => k_is)
    (case z_range => k_is)
    (case z_reversed => k_is)
    (case z_sorted => k_is)
    (case z_str => k_is)
    (case z_tuple => k_is)
    (case z_zip => k_is)
    (case g_MOST_SIGNS => k_is)
    (case g_LONGEST_WORD => k_is)
    (case g_LONGEST_TEXT => k_is)
    (case g_LAST_STATE => k_is)
    (case g_MOST_ARCS => k_is)

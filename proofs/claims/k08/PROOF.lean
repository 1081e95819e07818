import PyProof.Rows.All
import Wide.All
import OpenK.AllK
import Wide.FinOn
import HandS.ForMost
import HandS.Walk
import KE.GoesEnum
import HandS.ForExc
import HandS.ExcValue
import HandS.ExcIs
import HandS.ExcInit
import HandS.IsInst
import KE.KExcInit
import HandS.Strs
import HandS.Set
import HandS.SortInts
import KE.KSetDisp
import HandS.Defaults
import KE.KxIndex
import HandS.SetKeys
import PyProof.DictMoreH
import KE.GoesMore
import HandS.OwnEq
import HandS.More
import HandS.List
import HandS.SortOrd
import HandS.SortRule
import KE.KSortTup
import PyProof.EqKinds
import HandS.Conv
import KE.KDictSum
import HandS.Deep
import HandS.Iter
import KE.KDictWalk
import HandS.DictComp
import HandS.FStr
import HandS.SetBool
import HandS.SetFor
import HandS.Flow
import HandS.ListItems
import HandS.Sort
import KE.KDictList
import HandS.Zip
import HandS.TryMany
import KE.SortData
import HandS.StrMore
import HandS.Codes
import HandS.Style
import HandS.ExcField
import HandS.NestedK
import HandS.TupLen
import HandS.RevRange
import PySem.Challenge.RW_onewayread_k08_texts_and_states_refused
set_option Elab.async false
set_option linter.all false
set_option maxRecDepth 100000
set_option maxHeartbeats 4000000
/-! enumerate of a tuple -/
namespace PySem
open Sem (wp)
open PySem.Spec PyProof.Rows
theorem meets_enumerate_newB1 {v : Value} {o : Obj} {H : Heap → Prop} (B : Begins v o H) :
    Meets (Builtin.«enumerate.__new__» ⟨[.type "enumerate", v], []⟩) (fun _ R s => H s.heap ∧
      R (.ok (.ret (.ref (s.heap.push o).objs.size))) { s with heap := (s.heap.push o).push { cls := .type "enumerate", data := .fields #[.none, .bool false, .ref s.heap.objs.size, rawInt 0, .none, .none] } }) :=
  .of_wp fun prog w A R s h => by
    obtain ⟨hp, g, d, tk, os⟩ := s; obtain ⟨h1, h⟩ := h
    have hsub := sub_enumerate
    have q1 : ∀ {A' : Around} {E : Value → Shared → Prop} {Q : Value → Shared → Prop}, Q (.ref hp.objs.size) ⟨hp.push o, g, d, tk, os⟩ → wpAny (model prog w) A' (pyIter v) Q E ⟨hp, g, d, tk, os⟩ :=
      fun q => B.iter prog w _ _ ⟨hp, g, d, tk, os⟩ _ h1 q
    wp_walk using q1
    refine wpAny_stack_any fun st => wpAny_pure ?_
    split
    · rename_i c _ _ _ _ _
      cases (c == Value.type "enumerate")
      · wp_walk using q1
        exact ⟨_, rfl, h⟩
      · wp_walk using q1
        exact ⟨_, rfl, h⟩
    · wp_walk using q1
      exact ⟨_, rfl, h⟩
section
variable {prog : Program} {w : World} {A : Around} {E : Value → Shared → Prop} {s : Shared}
theorem enum_begins1 {v : Value} {o : Obj} {H : Heap → Prop} {Q : Value → Shared → Prop} (B : Begins v o H) (h1 : H s.heap)
    (h : ∀ h', IsEnum h' (s.heap.objs.size + 1) s.heap.objs.size 0 .none → h'.get? s.heap.objs.size = some o → h'.objs.size = s.heap.objs.size + 2 →
      (∀ b o, s.heap.get? b = some o → h'.get? b = some o) → Q (.ref (s.heap.objs.size + 1)) { s with heap := h' }) :
    wpAny (model prog w) A (call (.type "enumerate") [v]) Q E s := by
  refine callType_new F.called_enumerate (by decide) (F.typeCall_enumerate_1 _) (F.newCall_enumerate_1 _) (fun obj => F.args_object_init_2 obj _) F.entry_enumerate_new
    (meets_enumerate_newB1 B) ⟨h1, ?_⟩
  have hz : (s.heap.push o).objs.size = s.heap.objs.size + 1 := Heap.size_push ..
  show _ ∧ _
  rw [hz]
  have he : IsEnum ((s.heap.push o).push { cls := .type "enumerate", data := .fields #[.none, .bool false, .ref s.heap.objs.size, rawInt 0, .none, .none] }) (s.heap.objs.size + 1) s.heap.objs.size 0 .none := by
    have := Heap.get?_push_size (s.heap.push o) (o := { cls := .type "enumerate", data := .fields #[.none, .bool false, .ref s.heap.objs.size, rawInt 0, .none, .none] }) rfl
    rw [hz] at this; exact this
  refine ⟨⟨_, he, rfl⟩, h _ he (Heap.get?_push_of_some _ (Heap.get?_push_size _ B.free)) (by rw [Heap.size_push, hz]) fun b o x => Heap.get?_push_of_some _ (Heap.get?_push_of_some _ x)⟩
end
end PySem
namespace L2
open PySem PySem.Spec PyProof.Rows
/-- the tuple at a, each item in a new pair -/
def IteT (K : PySem.W.Frag) (a : Addr) : It :=
  ⟨fun i H => ∃ (xs : List V) (x : V), SqT K H a xs ∧ xs[i]? = some x, fun i H v H' => ∃ T x, v = .ref T ∧ H T = none ∧ H' = upd H T (.tup [.int (i : Nat), x]) ∧ ∀ xs, SqT K H a xs → xs[i]? = some x, fun i H => ∃ xs : List V, SqT K H a xs ∧ xs.length = i⟩
theorem turn_enumT {P : Program} {w : World} {K : PySem.W.Frag} {elts : List Expr} {kk : Nat} {tpos : Pos} (a e it : Addr) (hn : e ≠ it) (hae : a ≠ e) (hai : a ≠ it) :
    Turn P w K (.Tuple elts kk tpos) (IteT K a) [e, it] e (fun i h => (∃ old, IsEnum h e it ((i : Nat) : Int) old) ∧ h.IsTupleIter it a i) where
  mem := by simp
  obj := fun i h st b hb => by
    obtain ⟨⟨old, he⟩, ⟨o, ho, hc, hd⟩⟩ := st
    have e' : b = e ∨ b = it := by simpa using hb
    rcases e' with z | z
    · rw [z]; exact ⟨_, he, fun v q => nomatch q⟩
    · rw [z]; exact ⟨o, ho, fun v q => by rw [hd] at q; cases q⟩
  keep := fun i h h' st k => by
    obtain ⟨⟨old, he⟩, ⟨o, ho, r⟩⟩ := st
    exact ⟨⟨old, k e (by simp) _ he⟩, ⟨o, k it (by simp) _ ho, r⟩⟩
  item := by
    intro X hP hw hK hc i pins s σ H E I hf st hg
    subst hP hw hK
    obtain ⟨⟨old, he⟩, hit⟩ := st
    obtain ⟨xs, x, hq, hx⟩ := hg
    obtain ⟨its, rv, p, hz⟩ := I.tuple hq
    obtain ⟨u, hu, ru⟩ := rv.get hx
    have hel : e < s.heap.objs.size := Heap.lt_size he
    have hil : it < s.heap.objs.size := by obtain ⟨_, q, _⟩ := hit; exact Heap.lt_size q
    have hlt : i < its.toArray.size := by
      have q := (List.getElem?_eq_some_iff.mp hu).1
      simpa using q
    refine wpAny_pyNext_enum_itemD (Draws.tuple (A := X.A.in1) (I.ok.hd hc) it a hai its.toArray) he ⟨hit, p⟩ hlt hn (by simp [hn]; exact fun z => hae z.symm) fun y h' tk hy ho hst hT hsz hk => ?_
    have hyu : y = u := by
      have q : its.toArray[i]? = some y := hy
      have q2 : its.toArray[i]? = some u := by simpa using hu
      rw [q] at q2
      exact Option.some.inj q2
    subst hyu
    refine ⟨_, rfl, wpAny_letOwnedTupleGo_enum (s := { s with heap := h', toks := tk + 1 }) ho fun h'' he' sb => ?_⟩
    have hT2 : h''.get? s.heap.objs.size = some { cls := .type "tuple", data := .seq #[.int i tk, y] } := (sb.2 _ (Nat.ne_of_gt hel)).trans hT
    have new : ObjOk X.prog X.w (upd H s.heap.objs.size (.tup [.int (i : Nat), x])) h'' s.heap.objs.size (.tup [.int (i : Nat), x]) :=
      ⟨by show 2 ≤ sizeLine; decide, [.int i tk, y], .cons ⟨_, rfl⟩ (.cons ru .nil), ⟨_, hT2, rfl, _, rfl⟩⟩
    have I1 : Inv X pins σ (upd H s.heap.objs.size (.tup [.int (i : Nat), x])) { s with heap := h'', toks := tk + 1 } :=
      I.turnedNew (ch := [e, it]) (fun b ob hb q => (sb.2 b (fun z => hb (by simp [z]))).trans (hk b ob (fun z => hb (by simp [z])) (fun z => hb (by simp [z])) q)) hf (Nat.le_refl _) new
    obtain ⟨oi, hoi, ri⟩ := hst.1
    refine ⟨.ref s.heap.objs.size, _, I1, rfl, ⟨_, x, rfl, I.hok.fresh (Nat.le_refl _), rfl, fun ys hy => by rw [I.tuple_inj hy hq]; exact hx⟩, ⟨⟨y, ?_⟩, ⟨oi, (sb.2 it (Ne.symm hn)).trans hoi, ri⟩⟩, fun b hb => ?_⟩
    · have e1 : ((i + 1 : Nat) : Int) = (i : Int) + 1 := by omega
      rw [e1]; exact he'
    · have hb' : b < s.heap.objs.size := by
        have e' : b = e ∨ b = it := by simpa using hb
        rcases e' with z | z
        · rw [z]; exact hel
        · rw [z]; exact hil
      rw [upd_ne (Nat.ne_of_lt hb')]
      exact (hf b hb).1
  done := by
    intro X hP hw hK hc i pins s σ H E I hf st hg
    subst hP hw hK
    obtain ⟨⟨old, he⟩, hit⟩ := st
    obtain ⟨xs, hq, hx⟩ := hg
    obtain ⟨its, rv, p, hz⟩ := I.tuple hq
    obtain ⟨f0, f1, f2, f3, f4, f5⟩ := hf it (by simp)
    have hl := rv.length
    have hn' : i = its.toArray.size := by simp; omega
    subst hn'
    exact wpAny_pyNext_enum_endD (Draws.tuple (A := X.A.in1) (I.ok.hd hc) it a hai its.toArray) he ⟨hit, p⟩ fun h' eb => ⟨rfl, I.turned (t' := s.toks) (fun b o hb q => eb b o hb q) f0 f1 f3 f4 f5⟩
  self := fun A i s Q E st h => let ⟨⟨_, he⟩, _⟩ := st; wpAny_pyIter_enum he h
def iEnumT (K : PySem.W.Frag) (ta : TA) : TI := fun σ H R => ta σ H fun vs H1 => ∃ a xs, vs = [.ref a] ∧ SqT K H1 a xs ∧ R (IteT K a) H1
theorem pi_enumT {X : Cx} {e : Expr} {ta : TA} {p pos tpos : Pos} {elts : List Expr} {kk : Nat} (hg : Gl X "enumerate") (hm : X.mg "enumerate" = none) (ha : PA X [e] ta) (hs : starEach [e] X.env = [(false, eval e X.env)] := by rfl) :
    PI X (.Tuple elts kk tpos) (.Call (.Name "enumerate" p) [e] [] pos) (iEnumT X.K ta) := by
  refine ⟨fun pins s σ H R I h => ?_⟩
  refine Call_ (ld_blt I hg hm boot_enumerate (PyProof.Rows.callWith_type1 (thn (ha.run pos pins s σ H _ I h) fun us s1 ⟨vs, H1, I1, r1, q1⟩ => ?_) hs rfl))
  obtain ⟨a, xs, ex, hq, q⟩ := q1
  subst ex
  cases r1 with
  | cons r rr =>
    cases rr
    cases r
    obtain ⟨its, rv, p', hz⟩ := I1.tuple hq
    have hal : a < s1.heap.objs.size := by obtain ⟨_, q, _⟩ := p'; exact Heap.lt_size q
    refine enum_begins1 (begins_tuple a its.toArray) (show s1.heap.IsTuple a its.toArray from p') fun h' he hit hsz hk => wpAny_pyIter_enum he ?_
    have I2 : Inv X pins σ H1 { s1 with heap := h' } := I1.kept (t' := s1.toks) hk
    refine ⟨s1.heap.objs.size + 1, [s1.heap.objs.size + 1, s1.heap.objs.size], _, _, H1, rfl, I2, turn_enumT a (s1.heap.objs.size + 1) s1.heap.objs.size (Nat.succ_ne_self _) (Nat.ne_of_lt (Nat.lt_succ_of_lt hal)) (Nat.ne_of_lt hal), ⟨⟨.none, he⟩, ⟨_, hit, rfl, rfl⟩⟩, fun b hb => ?_, q⟩
    have e' : b = s1.heap.objs.size + 1 ∨ b = s1.heap.objs.size := by simpa using hb
    have hle : s1.heap.objs.size ≤ b := by
      rcases e' with z | z
      · rw [z]; exact Nat.le_add_right _ _
      · rw [z]; exact Nat.le_refl _
    exact I1.fpOk hle (I1.hok.fresh hle)
theorem walk_enumT {K : PySem.W.Frag} {a : Addr} {xs : List V} : Walk (IteT K a) xs.length (fun H => SqT K H a xs) (YPair (fun i => some (.int (i : Nat))) (fun i => xs[i]?)) :=
by
  refine ⟨fun i _ hi q => ⟨xs, xs[i], q, by simp [hi]⟩, fun _ q => ⟨xs, q, rfl⟩, fun i H v H' _ q y => ?_⟩
  obtain ⟨T, x, h1, h2, h3, h4⟩ := y
  exact ⟨T, .int (i : Nat), x, h1, h2, h3, rfl, h4 xs q⟩
end L2

set_option Elab.async false
set_option linter.all false
set_option maxRecDepth 100000
set_option maxHeartbeats 4000000
/-! own exceptions without arguments: raised, and as values -/
namespace L2
open PySem PySem.Spec PyProof.Rows
section
variable {X : Cx} {C : Addr} {bmB : List Value} {B newId initId : String}
theorem pmk_own0 {x : Str} {p pos : Pos} (F : ExcBaseFacts B newId initId bmB) (q : PySem.W.excIn X.K C bmB newId = true) (gC : X.mg x = some (.ref C)) (kC : PySem.W.keepIn X.K (.ref C) = true) (r : Raises X (.ref C)) (hg : Gl X x)
    (hdb : (x == ("__debug__" : Str)) = false := by decide) : PMk X (.Call (.Name x p) [] [] pos) (fun _ H Q => Q (.ref C) none H) := by
  intro pins s σ H Q I h
  refine wpAny_Call_Name_kw (ld_glob I hg gC ?_ hdb)
  refine PySem.W.callWith_K0 I.kIn kC ?_
  obtain ⟨bm, N, nm, qn, bs, hdct, sn, sub, ab, col, dd, k0, k1, k2, k3, k5, mN, hC, hN, hni, T⟩ := exc_obj I.kIn q
  refine wpAny_call_exc_subT F T hC hN hni (fun h' e hm => ?_) (by show 0 ≤ sizeLine; exact Nat.zero_le _)
  exact mk_of I hm r h (I.hok.gone hm.new)
/-- X(), as a value -/
theorem pe_exc0 {x : Str} {p pos : Pos} (F : ExcBaseFacts B newId initId bmB) (q : PySem.W.excIn X.K C bmB newId = true) (gC : X.mg x = some (.ref C)) (kC : PySem.W.keepIn X.K (.ref C) = true) (hg : Gl X x)
    (hdb : (x == ("__debug__" : Str)) = false := by decide) : PE X (.Call (.Name x p) [] [] pos) (fun σ H Q => ∀ a, H a = none → Q (.ref a) (upd H a (ExO (.ref C) a))) := by
  refine ⟨fun pins s σ H Q I h => ?_⟩
  refine wpAny_Call_Name_kw (ld_glob I hg gC ?_ hdb)
  refine PySem.W.callWith_K0 I.kIn kC ?_
  obtain ⟨bm, N, nm, qn, bs, hdct, sn, sub, ab, col, dd, k0, k1, k2, k3, k5, mN, hC, hN, hni, T⟩ := exc_obj I.kIn q
  refine wpAny_call_exc_subT F T hC hN hni (fun h' a hm => ?_) (by show 0 ≤ sizeLine; exact Nat.zero_le _)
  have hn : H a = none := I.hok.gone hm.new
  obtain ⟨t, ht, _, _⟩ := hm.there
  exact ⟨.ref a, upd H a (ExO (.ref C) a), I.laidN hm.keeps hm.new hn (exO_ok ht ⟨rfl, rfl⟩ rfl rfl rfl (show 4 < 6 by decide)), rfl, h a hn⟩
end
end L2

set_option Elab.async false
set_option linter.all false
set_option maxRecDepth 100000
set_option maxHeartbeats 4000000
/-! own exceptions with an __init__ of their own that stores its arguments, over Exception: the stores -/
namespace PySem
namespace ExX
open Builtin Builtin.ObjectAttr PySem.W PySem.Calls PyProof.Rows PySem.HandSPX
abbrev exTail : List Value := [.type "Exception", .type "BaseException", .type "object"]
/-- own classes, then Exception's mro -/
def refsEX : List Value → Bool
  | .ref _ :: r => refsEX r
  | l => l == exTail
theorem refsEX_cases : ∀ l : List Value, refsEX l = true → (∃ c r, l = .ref c :: r ∧ refsEX r = true) ∨ l = exTail := by
  intro l e
  unfold refsEX at e
  split at e
  · exact .inl ⟨_, _, rfl, e⟩
  · exact .inr (beq_iff_eq.mp e)
theorem refsEX_pass (self : Value) : ∀ l : List Value, refsEX l = true → refuseLoop self "__setattr__" l = pure () := by
  intro l
  induction l with
  | nil => intro e; exact absurd e (by decide)
  | cons a r ih =>
    intro e
    rcases refsEX_cases (a :: r) e with ⟨c, r', q, h⟩ | q
    · obtain ⟨rfl, rfl⟩ := List.cons.inj q
      rw [refuseLoop_ref]; exact ih h
    · rw [q]; exact F.store_Exception.passes self
theorem refsEX_contains (X : String) : ∀ l : List Value, refsEX l = true → l.contains (.type X) = exTail.contains (.type X) := by
  intro l
  induction l with
  | nil => intro e; exact absurd e (by decide)
  | cons a r ih =>
    intro e
    rcases refsEX_cases (a :: r) e with ⟨c, r', q, h⟩ | q
    · obtain ⟨rfl, rfl⟩ := List.cons.inj q
      rw [List.contains_cons, ih h]; rfl
    · rw [q]
theorem refsEX_ne {l : List Value} (e : refsEX l = true) : l.isEmpty = false := by
  cases l with
  | nil => exact absurd e (by decide)
  | cons _ _ => rfl
section
variable {prog : Program} {w : World} {A : Around} {E : Value → Shared → Prop} {R : Result → Shared → Prop} {hp : Heap} {g : Array GenState} {d : Drawn} {t : Nat} {os : OsState}
theorem osa_new {K : W.Frag} {name : Str} {tk : Tok} {v : Value} {x C : Addr} {fv : Array Value} {cd : ClassData}
    (X : K.In hp) (hx : hp.get? x = some { cls := .ref C, data := .fields fv }) (hcd : W.clsIn K C = some cd) (hm : refsEX cd.mro = true) (hh : cd.hasDict = true) (ha : W.findIn K (.ref C) name = some none)
    (hq : ∀ h' tk' dx, (∀ b o, b ≠ x → hp.get? b = some o → h'.get? b = some o) → hp.objs.size ≤ dx → dx ≠ x → h'.get? x = some { cls := .ref C, dict := some dx, data := .fields fv } →
      h'.Ns1 dx (fun y => if y = name then some v else none) → R (.ok (.ret .none)) ⟨h', g, d, tk', os⟩) :
    codeAny (model prog w) A (.call (.builtin "object.__setattr__") ⟨[.ref x, .str name tk, v], []⟩) R ⟨hp, g, d, t, os⟩ := by
  have I : W.InstAt hp x { cls := .ref C, data := .fields fv } C none := ⟨hx, rfl, rfl, trivial⟩
  have SF := F.store_object
  have ne := refsEX_ne hm
  have hob : cd.mro.contains (.type "object") = true := (refsEX_contains "object" _ hm).trans (by decide +kernel)
  have hxs : x ≠ hp.objs.size := Nat.ne_of_lt (Heap.lt_size hx)
  have sub : W.Looks (model prog w) hp (isInstance (.ref x) (.type "object")) true := I.type.andThen (W.looks_mroIn X (by unfold W.mroIn; rw [hcd, Option.bind_some, if_neg (by rw [ne]; decide), hob]))
  refine codeAny_call_builtin SF.slot.plain SF.entry (@W.check_slot (model prog w) _ _ ⟨hp, g, d, t, os⟩ "object.__setattr__" "object" "__setattr__" (.ref x) [.str name tk, v] [] _ SF.kind SF.split sub (SF.args (.ref x) (.str name tk) v) ?_)
  have hmr : W.Looks (model prog w) hp (mroOf (.ref C)) cd.mro := (W.looks_clsIn X hcd).andThen .now
  have L3 : W.Looks (model prog w) hp (storeTaker? none) none := .now
  have hcls : W.Looks (model prog w) hp (classData C) cd := W.looks_clsIn X hcd
  rw [W.osa_eq, refuse_eq]
  refine wpAny_bind (wpAny_bind (I.type.at (wpAny_bind (hmr.at ?_))))
  rw [refsEX_pass _ _ hm]
  refine wpAny_pure (wpAny_bind (I.type.at (wpAny_bind ((W.looks_findIn X ha).at (wpAny_bind (L3.at ?_))))))
  show wpAny _ _ (storeInOwnDict (.ref x) (.ref C) (.str name tk) name v false) _ _ _
  obtain ⟨nm, bs, mro, ns, qn, hd, sn, sb, ab, col, del⟩ := cd
  dsimp only at hh
  subst hh
  unfold storeInOwnDict ownDictForStores
  repeat (first | with_reducible refine store_in_new ?_ ?_ | with_reducible refine wpAny_loadPart_at hx ?_ | with_reducible refine hcls.at ?_ | wp_step)
  · exact ⟨_, #[], _, (Heap.get?_update_ne _ _ _ _ hxs.symm).trans (Heap.get?_push_at rfl rfl), rfl, fun e he => absurd he (by simp), fun _ => rfl⟩
  · intro h' tk' hn' hs
    have hx₁ : (hp.push { cls := .type "dict", data := .dict #[] }).get? x = some { cls := .ref C, data := .fields fv } := Heap.get?_push_of_some _ hx
    refine hq h' tk' hp.objs.size (fun b o hb ho => ?_) (Nat.le_refl _) hxs.symm ?_ hn'
    · exact (hs.2 b (Nat.ne_of_lt (Heap.lt_size ho))).trans ((Heap.get?_update_ne _ _ _ _ hb).trans (Heap.get?_push_of_some _ ho))
    · exact (hs.2 x hxs).trans (Heap.get?_update_self _ hx₁ rfl)
theorem osa_old {K : W.Frag} {name : Str} {tk : Tok} {v : Value} {x C dx : Addr} {fv : Array Value} {cd : ClassData} {m0 : Str → Option Value} {nl : List Str}
    (X : K.In hp) (hx : hp.get? x = some { cls := .ref C, dict := some dx, data := .fields fv }) (hns : hp.Ns1 dx m0) (hw : Within m0 nl) (hz : nl.length ≤ 1000) (hcd : W.clsIn K C = some cd) (hm : refsEX cd.mro = true) (hh : cd.hasDict = true)
    (ha : W.findIn K (.ref C) name = some none)
    (hq : ∀ h' tk', (∀ b o, b ≠ dx → hp.get? b = some o → h'.get? b = some o) → h'.Ns1 dx (fun y => if y = name then some v else m0 y) → R (.ok (.ret .none)) ⟨h', g, d, tk', os⟩) :
    codeAny (model prog w) A (.call (.builtin "object.__setattr__") ⟨[.ref x, .str name tk, v], []⟩) R ⟨hp, g, d, t, os⟩ := by
  obtain ⟨oD, esD, epD, hoD, hdD, _⟩ := hns.count hw
  have I : W.InstAt hp x { cls := .ref C, dict := some dx, data := .fields fv } C (some oD) := ⟨hx, rfl, rfl, hoD⟩
  have SF := F.store_object
  have ne := refsEX_ne hm
  have hob : cd.mro.contains (.type "object") = true := (refsEX_contains "object" _ hm).trans (by decide +kernel)
  have sub : W.Looks (model prog w) hp (isInstance (.ref x) (.type "object")) true := I.type.andThen (W.looks_mroIn X (by unfold W.mroIn; rw [hcd, Option.bind_some, if_neg (by rw [ne]; decide), hob]))
  refine codeAny_call_builtin SF.slot.plain SF.entry (@W.check_slot (model prog w) _ _ ⟨hp, g, d, t, os⟩ "object.__setattr__" "object" "__setattr__" (.ref x) [.str name tk, v] [] _ SF.kind SF.split sub (SF.args (.ref x) (.str name tk) v) ?_)
  have hmr : W.Looks (model prog w) hp (mroOf (.ref C)) cd.mro := (W.looks_clsIn X hcd).andThen .now
  have L3 : W.Looks (model prog w) hp (storeTaker? none) none := .now
  have hcls : W.Looks (model prog w) hp (classData C) cd := W.looks_clsIn X hcd
  rw [W.osa_eq, refuse_eq]
  refine wpAny_bind (wpAny_bind (I.type.at (wpAny_bind (hmr.at ?_))))
  rw [refsEX_pass _ _ hm]
  refine wpAny_pure (wpAny_bind (I.type.at (wpAny_bind ((W.looks_findIn X ha).at (wpAny_bind (L3.at ?_))))))
  show wpAny _ _ (storeInOwnDict (.ref x) (.ref C) (.str name tk) name v false) _ _ _
  obtain ⟨nm, bs, mro, ns, qn, hd, sn, sb, ab, col, del⟩ := cd
  dsimp only at hh
  subst hh
  unfold storeInOwnDict ownDictForStores
  repeat (first | with_reducible refine PySem.OEX.store_in_old hns hw hz ?_ | with_reducible refine wpAny_loadPart_at hx ?_ | with_reducible refine hcls.at ?_ | wp_step)
  intro h' tk' hn' hs
  exact hq h' tk' (fun b o hb ho => (hs.2 b hb).trans ho) hn'
end
end ExX
end PySem

set_option Elab.async false
set_option linter.all false
set_option maxRecDepth 100000
set_option maxHeartbeats 4000000
namespace PySem
namespace ExX
open PySem.W PySem.Calls PyProof.Rows PySem.HandSPX
/-- what the written part says of an own exception class, at C, over Exception, and of its __init__, at fI -/
structure ExcT (K : W.Frag) (mg : Str → Option Value) (C fI : Addr) (cn : Str) (fs : List Str) (qual : Str) (st : Stmt) : Prop where
  gC : mg cn = some (.ref C)
  cls : ∃ nm q N bs bm sn sub ab col dd k0 k1 k2 k3 k5, K.lookup C = some (excClassObj nm q C N bs bm true sn sub ab col dd k0 k1 k2 k3 k5 "Exception.__new__") ∧ refsEX bm = true
  sa : findIn K (.ref C) "__setattr__" = some (some (.builtin "object.__setattr__"))
  ga : findIn K (.ref C) "__getattribute__" = some (some (.builtin "BaseException.__getattribute__"))
  gg : findIn K (.ref C) "__getattr__" = some none
  no : ∀ f ∈ fs, findIn K (.ref C) f = some none
  iC : findIn K (.ref C) "__init__" = some (some (.ref fI))
  tC : typeIn K (.ref fI) = some (.type "function")
  kC : keepIn K (.ref C) = true
  exC : subIn K (.ref C) (.type "BaseException") = some true
  tyC : typeIn K (.ref C) = some (.type "type")
  hdC : hasDictIn K C = true
  fn : ∃ (oc : Value) (od : Option Addr) (kV doc pm : Value) (an : Option Addr) (cdv ct : Value) (osl : Array (Option Value)),
    K.lookup fI = some ⟨oc, od, .func (fnOf "__init__" qual (L2.defArgs st) (L2.defBody st) (L2.defScope st) .none kV doc pm an cdv ct), osl⟩ ∧ codeIn K cdv qual = true
theorem ldC {M : Model} {s : Shared} {name : Str} {scope : Scope} {L a : Addr} {cd : Value} {m : Str → Option Value} {x : Str} {pos : Pos} {v : Value} {Q : Value → Shared → Prop} {A : Around} {E : Value → Shared → Prop} (hn : s.heap.Ns L m) (hv : m x = some v) (h : Q v s)
    (hk : scope.kind = .function := by rfl) (hl : (envOfC name scope L a cd).kindOf x = some .local := by rfl) (hd : (x == ("__debug__" : Str)) = false := by decide) :
    wpAny M A (eval (.Name x pos) (envOfC name scope L a cd)) Q E s := wpAny_Name (wpAny_loadName_local hk hl hn hv h) hd
end ExX
end PySem
namespace PySem
namespace ExX
open PySem.W PySem.Calls PyProof.Rows PySem.HandSPX
/-- a made exception of the class at C: itself at e, its dict at d, the fields m -/
structure OwnMade (h h' : Heap) (e C d : Addr) (m : Str → Option Value) : Prop where
  keep : ∀ b o, h.get? b = some o → h'.get? b = some o
  new : h.objs.size ≤ e
  obj : ∃ oe vs, h'.get? e = some oe ∧ oe.cls = .ref C ∧ oe.dict = some d ∧ oe.data = .fields vs ∧ vs[1]? = some .none
  dbig : h.objs.size ≤ d
  dne : d ≠ e
  ns : h'.Ns1 d m
end ExX
end PySem
namespace L2
open PySem PySem.Spec PyProof.Rows PySem.ExX
/-- an exception object of the class at C, its own dict at d, not raised -/
def ExD (C d e : Addr) : HO := .ext fun h => ∃ (oe : Obj) (vs : Array Value), h.get? e = some oe ∧ Zc (.ref C) (some d) oe ∧ oe.data = .fields vs ∧ vs[1]? = some .none
theorem exD_ok {P : Program} {w : World} {H : Hp} {h : Heap} {C d e : Addr} {oe : Obj} {vs : Array Value} (he : h.get? e = some oe) (z : Zc (.ref C) (some d) oe) (hd : oe.data = .fields vs) (h1 : vs[1]? = some .none) : ObjOk P w H h e (ExD C d e) :=
  ⟨⟨oe, vs, he, z, hd, h1⟩, ⟨oe, he⟩, fun _ _ ⟨o, v, q, r⟩ k => ⟨o, v, k o q, r⟩⟩
section
variable {X : Cx} {pins : List (Addr × Obj)} {σ : St} {H : Hp} {hp h' : Heap} {g : Array GenState} {dr : Drawn} {tk tk' : Nat} {os : OsState} {e C d : Addr} {m : Str → Option Value} {fs : List (Str × V)}
/-- the heap without the exception itself: its dict laid -/
theorem own_split (I : Inv X pins σ H ⟨hp, g, dr, tk, os⟩) (M : OwnMade hp h' e C d m) (rel : ∀ f, RelO (fs.lookup f) (m f)) :
    ∃ G' : Heap, (∀ b o, G'.get? b = some o → h'.get? b = some o) ∧ G'.get? e = none ∧ Inv X pins σ (upd H d (.xd fs)) ⟨G', g, dr, tk', os⟩ := by
  have hns := M.ns
  obtain ⟨G', g1, g2⟩ := restrict h' fun b => decide (b ≠ e)
  have gk : ∀ b, b ≠ e → G'.get? b = h'.get? b := fun b hb => g1 b (decide_eq_true hb)
  have ge : G'.get? e = none := g2 e (by simp)
  have old : ∀ b o, hp.get? b = some o → G'.get? b = some o := fun b o q => (gk b (Nat.ne_of_lt (Nat.lt_of_lt_of_le (Heap.lt_size q) M.new))).trans (M.keep b o q)
  have ob : ObjOk X.prog X.w (upd H d (.xd fs)) G' d (.xd fs) := ⟨_, hns.at (fun o q => (gk d M.dne).trans q), fun f => rel f⟩
  have J : Inv X pins σ (upd H d (.xd fs)) ⟨G', g, dr, tk', os⟩ := I.laid (t' := tk') old M.dbig ob
  refine ⟨G', fun b o q => ?_, ge, J⟩
  by_cases hb : b = e
  · rw [hb, ge] at q; cases q
  · exact (gk b hb).symm.trans q
theorem own_value (I : Inv X pins σ H ⟨hp, g, dr, tk, os⟩) (M : OwnMade hp h' e C d m) (rel : ∀ f, RelO (fs.lookup f) (m f)) :
    Inv X pins σ (upd (upd H d (.xd fs)) e (ExD C d e)) ⟨h', g, dr, tk', os⟩ := by
  obtain ⟨G', k, ge, J⟩ := own_split (tk' := tk') I M rel
  obtain ⟨oe, vs, hoe, hc, hd, hdat, h1⟩ := M.obj
  have hn : upd H d (.xd fs) e = none := by
    rw [upd_ne (Ne.symm M.dne)]
    exact I.hok.fresh M.new
  exact J.laidN k ge hn (exD_ok hoe ⟨hc, hd⟩ hdat h1)
theorem own_raise {Q : XK} (I : Inv X pins σ H ⟨hp, g, dr, tk, os⟩) (M : OwnMade hp h' e C d m) (rel : ∀ f, RelO (fs.lookup f) (m f)) (r : Raises X (.ref C)) (q : ∀ d, H d = none → Q (.ref C) (some d) (upd H d (.xd fs))) :
    MkP X pins σ Q (.ref e) ⟨h', g, dr, tk', os⟩ := by
  obtain ⟨G', k, ge, J⟩ := own_split (tk' := tk') I M rel
  obtain ⟨oe, vs, hoe, hc, hd, hdat, h1⟩ := M.obj
  refine ⟨e, oe, vs, ⟨G', g, dr, tk', os⟩, _, .ref C, some d, rfl, J, k, ge, hoe, ⟨hc, hd⟩, hdat, h1, ?_, rfl, I.bare, r, q d (I.hok.fresh M.dbig)⟩
  rw [upd_ne (Ne.symm M.dne)]
  exact I.hok.fresh M.new
end
end L2

set_option Elab.async false
set_option linter.all false
set_option maxRecDepth 100000
set_option maxHeartbeats 4000000
/-! isinstance of exception objects that are values, whatever own dict they have -/
namespace PySem.W
open PySem PySem.Spec PySem.Calls PyProof.Rows
section
variable {prog : Program} {w : World} {A : Around} {E : Value → Shared → Prop} {s : Shared} {K : Frag} {x D : Addr} {ox : Obj} {od : Option Obj}
theorem findObj_dataZ {C : Addr} {name : Str} {a g : Value} (hc : (clsIn K C).isSome = true) (ha : findIn K (.ref C) name = some (some a)) (hg : specialIn K a "__get__" = some (some g)) (ht : takesIn K a = some true) : findObj K C od name = some (.bind g a) := by
  obtain ⟨cd, hc⟩ := Option.isSome_iff_exists.mp hc
  unfold findObj
  rw [hc, Option.bind_some, ha, Option.bind_some]
  simp [hg, ht]
theorem kin_classZ {Q : Option Value → Shared → Prop} (hga : findIn K (.ref D) "__getattribute__" = some (some (.builtin "BaseException.__getattribute__"))) (hgt : findIn K (.ref D) "__getattr__" = some none) (hsub : subIn K (.ref D) (.type "BaseException") = some true)
    (hdct : hasDictIn K D = true) (ha : findIn K (.ref D) "__class__" = some (some (.builtin "object.__class__")))
    (hn : specialIn K (.builtin "object.__class__") "__get__" = some (some (.builtin "getset_descriptor.__get__"))) (htk : takesIn K (.builtin "object.__class__") = some true) (hm : mroIn K D (.type "object") = some true)
    (X : K.In s.heap) (I : InstAt s.heap x ox D od) (h : Q (some (.ref D)) { s with toks := s.toks + 1 }) : wpAny (model prog w) A (getAttr? (.ref x) "__class__") Q E s := by
  have hf : findObj K D od "__class__" = some (.bind (.builtin "getset_descriptor.__get__") (.builtin "object.__class__")) := findObj_dataZ (by obtain ⟨cd, hc, _⟩ := any_some hdct; rw [hc]; rfl) ha hn htk
  obtain ⟨hp, g, d, t, os⟩ := s
  have L0 := I.type (M := model prog w)
  have L1 := looks_findIn (M := model prog w) X hga
  have L2 := looks_findIn (M := model prog w) X hgt
  have L3 := looks_find (M := model prog w) X I hf
  have sub : Looks (model prog w) hp (isInstance (.ref x) (.type "BaseException")) true := L0.andThen (looks_subIn X hsub)
  have hx0 : (false && onTheHeap (Value.builtin "BaseException.__getattribute__")) = false := rfl
  have hx2 : (Value.builtin "BaseException.__getattribute__" == Value.builtin "object.__getattribute__") = false := by decide +kernel
  have hx1 : (onTheHeap (Value.ref D) && Value.builtin "BaseException.__getattribute__" == Value.builtin "object.__getattribute__") = false := by rw [hx2]; rfl
  unfold getAttr? getAttrBy? getAttrBy
  refine wpAny_bind (wpAny_mkText (wpAny_bind (wpAny_attempt (wpAny_holding (wpAny_bind (L0.at (wpAny_bind (L1.at ?_))))))))
  show wpAny _ _ (if (onTheHeap (Value.ref D) && Value.builtin "BaseException.__getattribute__" == Value.builtin "object.__getattribute__") = true then _ else _) _ _ _
  rw [hx1, if_neg Bool.false_ne_true]
  unfold getAttrByItsOwn hookBefore
  refine wpAny_bind ?_
  rw [if_pos (show onTheHeap (Value.ref D) = true from rfl)]
  refine L2.at ?_
  refine wpAny_bind (wpAny_attempt (wpAny_holding ?_))
  unfold callGetattribute
  rw [hx0, if_neg Bool.false_ne_true]
  unfold boundAndCalled
  rw [PySem.F.excAttr_ValueError.ga.bind (.ref x)]
  refine wpAny_bind (wpAny_pure ?_)
  show wpAny _ _ (call (.builtin "BaseException.__getattribute__") [.ref x, .str "__class__" t]) _ _ _
  refine wpAny_call (codeAny_call_builtin PySem.F.excAttr_ValueError.ga.plain PySem.F.entry_bexc_ga ?_)
  refine @check_slot (model prog w) _ _ ⟨hp, g, d, t + 1, os⟩ "BaseException.__getattribute__" "BaseException" "__getattribute__" (.ref x) [.str "__class__" t] [] _ (by decide +kernel) (by decide +kernel) sub (PySem.F.args_bexc_ga (.ref x) (.str "__class__" t)) ?_
  unfold Builtin.«object.__getattribute__»
  refine wpAny_bind (wpAny_of_eq (a := ((Value.ref x : Value), [Value.str "__class__" t])) (by first | rfl | (simp only [slotArgs]; rfl)) ?_)
  refine wpAny_bind (wpAny_pure (wpAny_bind (L0.at (wpAny_bind (L3.at ?_)))))
  show wpAny _ _ (holding [Value.builtin "object.__class__"] (call (.builtin "getset_descriptor.__get__") [.builtin "object.__class__", .ref x, .ref D]) >>= ret) _ _ _
  refine wpAny_bind (wpAny_holding (wpAny_call (class_get (s := ⟨hp, g, d, t + 1, os⟩) (ox := ox) (od := od) X I hm ?_)))
  refine wpAny_pure ?_
  show wpAny _ _ (handedOut (.ref D)) _ _ _
  rw [handedOut_of (v := .ref D) rfl]
  first
    | exact wpAny_pure (wpAny_pure h)
    | exact wpAny_pure h
    | exact wpAny_pure (wpAny_bind (wpAny_pure (wpAny_pure h)))
theorem kitx_excZ (hga : findIn K (.ref D) "__getattribute__" = some (some (.builtin "BaseException.__getattribute__"))) (hgt : findIn K (.ref D) "__getattr__" = some none) (hsub : subIn K (.ref D) (.type "BaseException") = some true) (hdct : hasDictIn K D = true) (ha : findIn K (.ref D) "__class__" = some (some (.builtin "object.__class__")))
    (hn : specialIn K (.builtin "object.__class__") "__get__" = some (some (.builtin "getset_descriptor.__get__"))) (htk : takesIn K (.builtin "object.__class__") = some true) (hm : mroIn K D (.type "object") = some true) :
    KitX K (.ref x) (.ref D) (fun h => InstAt h x ox D od) where
  ty := fun _ _ _ I => I.type
  it := fun _ _ X _ => by
    obtain ⟨cdD, hcD, _⟩ := any_some hdct
    unfold clsIn at hcD
    split at hcD
    · rename_i c' d' cd' sl' ho
      intro A' Q' E' s' k q
      unfold isType loadHead
      exact wpAny_bind (wpAny_loadPart (k _ _ (X _ _ ho)) (wpAny_pure q))
    · cases hcD
  ne := (handS_kitx_exc (x := x) (ox := ox) hga hgt hsub hdct ha hn htk hm).ne
  ca := fun X I k => kin_classZ hga hgt hsub hdct ha hn htk hm X I k
end
end PySem.W
namespace L2
open PySem PySem.Spec PyProof.Rows PySem.ExX
/-- the type of a value: also of an exception object that is a value -/
inductive TyZ (K : PySem.W.Frag) (H : Hp) : V → Value → Prop where
  | x {v : V} {t : Value} (h : TyX K H v t) : TyZ K H v t
  | exo {a C : Addr} (e : H a = some (ExO (.ref C) a)) (c : ExcC K C) : TyZ K H (.ref a) (.ref C)
  | exd {a C d : Addr} {fs : List (Str × V)} (e : H a = some (ExD C d a)) (ed : H d = some (.xd fs)) (c : ExcC K C) : TyZ K H (.ref a) (.ref C)
section
variable {X : Cx} {pins : List (Addr × Obj)} {σ : St} {H : Hp} {s : Shared}
theorem kit_ofZ {x : V} {u t : Value} (I : Inv X pins σ H s) (rx : RelV x u) (ty : TyZ X.K H x t) : ∃ P : Heap → Prop, PySem.W.KitX X.K u t P ∧ P s.heap ∧ u ≠ .builtin "__main__.__loader__#opaque" := by
  cases ty with
  | x h => exact kit_of I rx h
  | @exo a C e c =>
    cases (show u = Value.ref a from rx)
    obtain ⟨⟨oe, vs, ho, hz, hd, _, _⟩, _, _⟩ := I.hok a _ e
    have J : PySem.W.InstAt s.heap a oe C none := by
      obtain ⟨oc, od, oda, osl⟩ := oe
      obtain ⟨h1, h2⟩ := hz
      dsimp only at h1 h2 hd
      subst h1 h2 hd
      exact ⟨ho, rfl, rfl, trivial⟩
    exact ⟨_, PySem.W.kitx_excZ c.hg c.hk c.hs c.hd c.ha c.hn c.ht c.hm, J, fun z => nomatch z⟩
  | @exd a C d fs e ed c =>
    cases (show u = Value.ref a from rx)
    obtain ⟨⟨oe, vs, ho, hz, hd, _⟩, _, _⟩ := I.hok a _ e
    obtain ⟨mA, hns, _⟩ := (show ObjOk X.prog X.w H s.heap d (.xd fs) from I.hok d _ ed)
    obtain ⟨od, hod, _⟩ := lookIn_ns hns
    have J : PySem.W.InstAt s.heap a oe C (some od) := by
      obtain ⟨oc, odd, oda, osl⟩ := oe
      obtain ⟨h1, h2⟩ := hz
      dsimp only at h1 h2 hd
      subst h1 h2 hd
      exact ⟨ho, rfl, rfl, hod⟩
    exact ⟨_, PySem.W.kitx_excZ c.hg c.hk c.hs c.hd c.ha c.hn c.ht c.hm, J, fun z => nomatch z⟩
end
def rIsiZ (K : PySem.W.Frag) : List V → Hp → VK → Prop := fun xs H Q => ∃ (x c : V) (t u : Value) (b : Bool), xs = [x, c] ∧ ClsV c u ∧ TyZ K H x t ∧ PySem.W.kitOne K t u = some b ∧ Q (.bl b) H
def rIsiTZ (K : PySem.W.Frag) : List V → Hp → VK → Prop := fun xs H Q => ∃ (x : V) (tp : Addr) (cs : List V) (t : Value) (us : List Value) (b : Bool), xs = [x, .ref tp] ∧ H tp = some (.tup cs) ∧ Paired ClsV cs us ∧ TyZ K H x t ∧ PySem.W.kitAny K t us = some b ∧ Q (.bl b) H
section
variable {X : Cx} {K : PySem.W.Frag}
theorem call_isiZ (hK : X.K = K) : CallR X (.builtin "isinstance") (rIsiZ K) := by
  subst hK
  intro pins s σ H xs us Q I r h
  obtain ⟨x, c, t, u, b, rfl, k, ty, e, q⟩ := h
  obtain ⟨u1, u2, rfl, r1, r2⟩ := vals2 r
  have e2 := k.eq r2
  subst e2
  obtain ⟨P, Z, p, hx⟩ := kit_ofZ I r1 ty
  exact PySem.W.kia_one Z I.kIn p e hx fun tk => ⟨.bl b, H, I.tok tk, rfl, q⟩
theorem call_isiTZ (hK : X.K = K) : CallR X (.builtin "isinstance") (rIsiTZ K) := by
  subst hK
  intro pins s σ H xs us Q I r h
  obtain ⟨x, tp, cs, t, ws, b, rfl, hT, k, ty, e, q⟩ := h
  obtain ⟨u1, u2, rfl, r1, r2⟩ := vals2 r
  cases (show u2 = Value.ref tp from r2)
  obtain ⟨P, Z, p, hx⟩ := kit_ofZ I r1 ty
  obtain ⟨_, its, rv, o, h1, h2, n, h3⟩ := (show ObjOk X.prog X.w H s.heap tp (.tup cs) from I.hok tp _ hT)
  have e3 := ClsV.all k rv
  subst e3
  obtain ⟨oc, od, dt, sl⟩ := o
  simp only at h2 h3
  subst h2 h3
  exact PySem.W.kia_tup Z I.kIn p h1 e hx fun tk => ⟨.bl b, H, I.tok tk, rfl, q⟩
end
end L2

set_option Elab.async false
set_option linter.all false
set_option maxRecDepth 100000
set_option maxHeartbeats 4000000
namespace PySem
namespace ExX
open PySem.W PySem.Calls PyProof.Rows
theorem refsEX_of : ∀ l : List Value, excTail exTail l = true → refsEX l = true := by
  intro l
  induction l with
  | nil => intro h; exact absurd h (by decide +kernel)
  | cons a r ih =>
    intro h
    rcases excTail_cases (bmB := exTail) (a :: r) h with ⟨c, r', e, q⟩ | e
    · cases e
      exact ih q
    · rw [e]; rfl
theorem excT_cls {K : Frag} {C : Addr} (q : excInitIn K C exTail "Exception.__new__" = true) (hd : hasDictIn K C = true) :
    ∃ nm q N bs bm sn sub ab col dd k0 k1 k2 k3 k5, K.lookup C = some (excClassObj nm q C N bs bm true sn sub ab col dd k0 k1 k2 k3 k5 "Exception.__new__") ∧ refsEX bm = true := by
  unfold excInitIn at q
  split at q
  · rename_i dd cd sl ho
    split at q
    · rename_i C' bm k0 k1 k2 k3 n k5 hm hs
      simp only [Bool.and_eq_true, beq_iff_eq, Bool.not_eq_true'] at q
      obtain ⟨⟨⟨rfl, rfl⟩, hdel⟩, ht⟩ := q
      obtain ⟨nm, bs, mro, ns, qn, hd', sn, sub, ab, col, del⟩ := cd
      dsimp only at hm hdel
      subst hm hdel
      have hsl : sl = #[k0, k1, k2, k3, some (.builtin "Exception.__new__"), k5] := by
        obtain ⟨l⟩ := sl
        simp only at hs
        rw [hs]
      subst hsl
      have e : hd' = true := by
        unfold hasDictIn at hd
        have hc : clsIn K C' = some ⟨nm, bs, .ref C' :: bm, ns, qn, hd', sn, sub, ab, col, false⟩ := by unfold clsIn; rw [ho]
        rw [hc] at hd
        simpa using hd
      subst e
      exact ⟨nm, qn, ns, bs, bm, sn, sub, ab, col, dd, k0, k1, k2, k3, k5, ho, refsEX_of _ ht⟩
    · cases q
  · cases q
end ExX
end PySem

set_option Elab.async false
set_option linter.all false
set_option maxRecDepth 100000
/-! the rules whose reading names the written part, with that part a letter of its own (within a comprehension the place's own name of it can't be found by unification) -/
namespace L2
open PySem PySem.Spec PyProof.Rows
variable {X : Cx} {K : PySem.W.Frag}
theorem ix_listK (h : X.K = K) : IxR X (rIxL K) := by subst h; exact ix_list
theorem ix_tupK (h : X.K = K) : IxR X (rIxT K) := by subst h; exact ix_tup
theorem call_tuple_ofK (h : X.K = K) : CallR X (.type "tuple") (fun xs H Q => ∃ p ys, xs = [.ref p] ∧ ((SqL K H p ys ∧ ∀ l, H l = none → Q (.ref l) (upd H l (.tup ys))) ∨ (SqT K H p ys ∧ Q (.ref p) H))) := by subst h; exact call_tuple_of
theorem call_list_ofK (h : X.K = K) : CallR X (.type "list") (fun xs H Q => ∃ p ys, xs = [.ref p] ∧ (SqL K H p ys ∨ SqT K H p ys) ∧ ∀ l, H l = none → Q (.ref l) (upd H l (.lst ys))) := by subst h; exact call_list_of
theorem call_len_seqK (h : X.K = K) : CallR X (.builtin "len") (fun xs H Q => ∃ p ys, xs = [.ref p] ∧ (SqL K H p ys ∨ SqT K H p ys) ∧ Q (.int ys.length) H) := by subst h; exact call_len_seq
theorem call_isiK' (h : X.K = K) : CallR X (.builtin "isinstance") (rIsi K) := by subst h; exact call_isi
theorem call_isiTK (h : X.K = K) : CallR X (.builtin "isinstance") (rIsiT K) := by subst h; exact call_isiT
theorem sl_listK (h : X.K = K) : SlR X (rSlL K) := by subst h; exact sl_list
theorem cr_allK (h : X.K = K) (hc : X.calm = true) : CallR X (.builtin "all") (rAll K) := by subst h; exact cr_all hc
theorem cr_anyK (h : X.K = K) (hc : X.calm = true) : CallR X (.builtin "any") (rAny K) := by subst h; exact cr_any hc
theorem cr_sumK (h : X.K = K) (hc : X.calm = true) : CallR X (.builtin "sum") (rSum K) := by subst h; exact cr_sum hc
end L2

set_option Elab.async false
set_option linter.all false
set_option maxRecDepth 100000
set_option maxHeartbeats 4000000
/-! {k}: a set display of one int; sorted of a set of ints of any size -/
namespace L2
open PySem PySem.Spec PyProof.Rows PySem.W
theorem newSet_led {P : Program} {w : World} {A : Around} {E : Value → Shared → Prop} {s : Shared} {Q : Value → Shared → Prop}
    (h : Q (.ref s.heap.objs.size) { s with heap := s.heap.push { cls := .type "set", dict := none, data := .set #[] 0 (.fresh 0 0 (!w.params.followText "set-order")) } }) :
    wpAny (model P w) A (newSet (.type "set")) Q E s := by
  unfold newSet setsByText
  refine wpAny_bind (wpAny_bind (wpAny_askSetting (wpAny_pure ?_)))
  dsimp only
  simp only [newObj]
  exact wpAny_bind (wpAny_alloc (wpAny_pure h))
def tSet1 (w : World) (te : TE) : TE := fun σ H Q => ∀ p, H p = none → te σ (upd H p (SetO w p (fun _ => false) 0)) fun x H1 => ∃ k, x = .int k ∧ H1 p = some (SetO w p (fun _ => false) 0) ∧ Q (.ref p) (upd H1 p (SetO w p (fun j => decide (j = k)) 1))
theorem kdsCode_of {K : PySem.W.Frag} {cd : Value} {q : Str} (h : PySem.W.codeIn K cd q = true) : kdsCode K cd = true := by
  unfold PySem.W.codeIn at h
  unfold kdsCode
  split at h
  · split at h
    · rename_i ho
      simp only [ho]
    · cases h
  · cases h
theorem pe_set1 {X : Cx} {e : Expr} {te : TE} {pos : Pos} (hc : kdsCode X.K X.env.code = true) (he : PE X e te) (hs : starEach [e] X.env = [(false, eval e X.env)] := by rfl) : PE X (.Set [e] 0 pos) (tSet1 X.w te) := by
  refine ⟨fun pins s σ H Q I h => ?_⟩
  rw [arm_eval_Set]
  refine wpAny_bind (wpAny_standAt ?_)
  refine wpAny_bind (kds_main I.kIn hc fun b => ?_)
  rw [hs]
  show wpAny _ _ (setDisplay .oneByOne b [(false, do let v ← eval e X.env; standAt pos; pure v)]) _ _ _
  unfold setDisplay
  try dsimp only
  rw [if_neg (by decide)]
  refine wpAny_bind (newSet_led (w := X.w) ?_)
  dsimp only
  have hn : (if ([(false, (do let v ← eval e X.env; standAt pos; pure v : Sem Value))] : List (Bool × Sem Value)).length > 30 then 0 else (([(false, (do let v ← eval e X.env; standAt pos; pure v : Sem Value))] : List (Bool × Sem Value)).findIdx? (·.1)).getD 1) = 1 := by rfl
  have hp : H s.heap.objs.size = none := I.hok.fresh (Nat.le_refl _)
  have I1 : Inv X pins σ (upd H s.heap.objs.size (SetO X.w s.heap.objs.size (fun _ => false) 0)) { s with heap := s.heap.push { cls := .type "set", dict := none, data := .set #[] 0 (.fresh 0 0 (!X.w.params.followText "set-order")) } } :=
    I.laid (t' := s.toks) (fun b u e => Heap.get?_push_of_some _ e) (Nat.le_refl _) (setO_new (setR_fresh X.w))
  have h1 := h s.heap.objs.size hp
  generalize s.heap.objs.size = a at *
  refine wpAny_bind (wpAny_holding (wpAny_bind ?_))
  show wpAny _ _ (evalAll [do let v ← eval e X.env; standAt pos; pure v]) _ _ _
  refine wpAny_evalAll_cons (wpAny_bind (thn (he.run pins _ σ _ _ I1 h1) fun u s1 ⟨x, H1, I2, r1, k, ex, hset, q⟩ => wpAny_bind (wpAny_standAt (wpAny_pure ?_))))
  refine wpAny_evalAll_nil ?_
  subst ex
  obtain ⟨tk, rfl⟩ := r1
  refine wpAny_bind (wpAny_holding ?_)
  refine wpAny_bind ?_
  rw [List.forIn_cons]
  have R := setO_get I2 hset
  refine wpAny_bind (wpAny_bind ?_)
  unfold setAdd
  refine wpAny_holding (wpAny_bind ((intKind X.prog X.w).pyHash (intKind_is X.prog X.w k tk) ?_))
  refine setR_add_hashed (s := { s1 with toks := s1.toks + 1 }) R (by decide) fun h' sb r => ?_
  refine wpAny_pure ?_
  dsimp only
  rw [List.forIn_nil]
  refine wpAny_pure ?_
  rw [if_neg (by decide)]
  refine wpAny_pure ?_
  refine wpAny_bind ?_
  generalize hl : List.drop _ [(false, (do let v ← eval e X.env; standAt pos; pure v : Sem Value))] = l
  have hl0 : l = [] := by rw [← hl]; rfl
  subst hl0
  rw [List.forIn_nil]
  refine wpAny_pure (wpAny_pure ?_)
  have he' : ∃ u, h'.get? a = some u := by
    obtain ⟨o, _, _, _, ho, _⟩ := r
    exact ⟨o, ho⟩
  have r' : SetR X.w h' a (fun j => decide (j = k)) 1 := r.congr fun j => by simp
  exact wpAny_pure ⟨.ref a, upd H1 a (SetO X.w a (fun j => decide (j = k)) 1), I2.write (e := a) (t' := s1.toks + 1) (by rw [hset]; trivial) (.inl rfl) (fun b u hb hu => (sb.2 b hb).trans hu) he' (setO_new r'), rfl, q⟩
section
variable {P : Program} {w : World} {A : Around} {E : Value → Shared → Prop} {s : Shared} {a : Addr}
theorem sorted_setN {S : Int → Bool} {n : Nat} {Q : Value → Shared → Prop} (R : SetR w s.heap a S n) (hh : A.handled = none) (hn4 : n ≤ 4096)
    (hQ : ∀ s' p (out : Array Value) (c : Nat) (ns : List Int), (∀ b o, s.heap.get? b = some o → s'.heap.get? b = some o) → s'.gens = s.gens → s'.os = s.os → s.heap.objs.size ≤ p →
      s'.heap.get? p = some (seqObj "list" out c) → IntsAre out.toList ns → ns.Pairwise (· < ·) → (∀ k, k ∈ ns ↔ S k = true) → ns.length = n → Q (.ref p) s') :
    wpAny (model P w) A (call (.builtin "sorted") [.ref a]) Q E s := by
  obtain ⟨o, es, ep, t, ho, hex, hd, g, nd, hm, hb, hf, hn, hr, hl⟩ := R
  refine Calls.call_function_entry kind_sorted plain_sorted entry_sorted (args_sorted1 _) ?_
  unfold Builtin.«sorted»
  refine wpAny_bind (m := checkCount "sorted" 1 1 _) (wpAny_pure ?_)
  refine wpAny_bind (collect_set (A := A.in1) hh ⟨o, ho, hex.1, hd⟩ hf hb hr hl fun s1 vs k1 hz g1 o1 pm => ?_)
  have hvl : vs.length = n := by rw [pm.length_eq, List.length_map, Array.length_toList]; exact hn
  have hI : IntsAre vs (vs.map Builtin.Re.reRawOf) := ints_of vs fun v hv => by
    obtain ⟨e, he, q⟩ := List.mem_map.mp (pm.mem_iff.mp hv)
    obtain ⟨k, tk, h1, _⟩ := g e he
    exact ⟨k, tk, by rw [← q]; exact h1⟩
  have pk : (vs.map Builtin.Re.reRawOf).Perm (es.toList.map keyOf) := by
    have q := pm.map Builtin.Re.reRawOf
    rw [List.map_map] at q
    exact q
  have hvz : vs.length ≤ sizeLine := by rw [hvl, sizeLine_eq]; omega
  refine wpAny_bind (wpAny_newList ?_ hvz)
  have hoL : (s1.heap.push (seqObj "list" vs.toArray 0)).get? s1.heap.objs.size = some (seqObj "list" vs.toArray 0) := Heap.get?_push_size _ rfl
  refine wpAny_bind (wpAny_holding (wpAny_call_entry slot_list_sort ⟨_, hoL, rfl⟩ entry_list_sort (SrtO.list_sort_ord SrtO.swo_int hoL hvz (fun h2 => SrtO.ints_sortable hI h2) fun out h1 h2 => ⟨.none, rfl, ?_⟩) (args_list_sort _)))
  obtain ⟨a1, a2, a3⟩ := SrtO.ints_out hI h1 h2
  obtain ⟨c, hc⟩ := sortedHeap_at (vs := vs) (out := out.toArray) hoL
  have pn : (out.map SrtO.iv).Perm (es.toList.map keyOf) := a2.trans pk
  refine wpAny_pure ⟨_, rfl, hQ _ s1.heap.objs.size out.toArray c (out.map SrtO.iv) (fun b u e => ?_) g1 o1 hz hc a1 (lt_of_le_nodup _ a3 (pn.nodup_iff.mpr nd)) (fun k => by rw [pn.mem_iff, ← hm k]) ?_⟩
  · have q := k1 b u e
    have hlt := Heap.lt_size q
    show (sortedHeap (s1.heap.push (seqObj "list" vs.toArray 0)) s1.heap.objs.size vs out.toArray).get? b = some u
    rw [sortedHeap_old (Nat.ne_of_lt hlt) (by rw [size_push']; exact Nat.lt_succ_of_lt hlt)]
    exact Heap.get?_push_of_some _ q
  · rw [pn.length_eq, List.length_map, Array.length_toList]; exact hn
end
section
variable {X : Cx}
def rSortedSetN (w : World) : List V → Hp → VK → Prop := fun vs H Q => ∃ (a : Addr) (S : Int → Bool) (n : Nat), vs = [V.ref a] ∧ H a = some (SetO w a S n) ∧ n ≤ 4096 ∧
  ∀ (ns : List Int) (p : Addr), ns.Pairwise (· < ·) → (∀ k : Int, k ∈ ns ↔ S k = true) → ns.length = n → H p = none → Q (.ref p) (upd H p (.lst (ns.map V.int)))
theorem cr_sortedSetN (hc : X.calm = true) : CallR X (.builtin "sorted") (rSortedSetN X.w) := by
  intro pins s σ H vs us Q I r h
  obtain ⟨a, S, n, rfl, ha, h64, q⟩ := h
  have R := setO_get I ha
  rw [Vals.ref1 r]
  refine sorted_setN R (I.ok.hd hc) h64 fun s' p out c ns k g o hp hg hi hs hm hl => ?_
  have hlen : (ns.map V.int).length ≤ sizeLine := by rw [List.length_map, hl, sizeLine_eq]; omega
  have hn : H p = none := I.hok.fresh hp
  have J : Inv X pins σ (upd H p (.lst (ns.map V.int))) { s with heap := s'.heap, gens := s'.gens, drawn := s'.drawn, toks := s'.toks } :=
    I.call (ch := []) (Un.laid k hp hn) (I.hok.laid k hp ⟨hlen, out.toList, c, vals_of_ints hi, hg⟩) (by rw [g]; exact I.bare) (fun _ z => nomatch z)
  have e : s' = { s with heap := s'.heap, gens := s'.gens, drawn := s'.drawn, toks := s'.toks } := by
    cases s'
    cases s
    cases o
    rfl
  rw [e]
  exact ⟨.ref p, _, J, rfl, q ns p hs hm hl hn⟩
end
/-- a def's rule that hands on what its code object is (a set's display asks it) -/
theorem Fun.okC {P : Program} {w : World} {K : PySem.W.Frag} {mg : Str → Option Value} {base : Heap} {x qual : Str} {st : Stmt} {f : Addr} {fd : FuncData} {N ps : List Str} {k : Nat} {sp : Sp} (F : Fun K x qual st f fd) (S : FnScope N ps (defScope st)) (len : ∀ vs H Q E, sp vs H Q E → vs.length = ps.length)
    (hbody : ∀ (cdv : Value) (A : Around) (outer : List Env) (s : Shared) (H : Hp) (vs : List V) (Q : VK) (E : XK), PySem.W.codeIn K cdv qual = true → Room k (A.deeper (envOfC qual (defScope st) s.heap.objs.size f cdv)) → sp vs H Q E →
      ∃ t, PSs (cxOf CX0 P w K mg base N qual (defScope st) f cdv A outer s H E).nox (defBody st) t ∧ t { nx := fun _ H' => Q .non H', rt := Q } (start N vs) H) : FnOk P w K mg base CX0 (k + 1) f fd ps sp := by
  obtain ⟨oc, od, kV, doc, pm, an, cdv, ct, osl, rfl, lk, hcd⟩ := F.ex
  refine fn_of lk hcd S len fun A outer s H vs Q E hr hsp => ?_
  obtain ⟨t, h, q⟩ := hbody cdv A outer s H vs Q E hcd hr hsp
  exact ⟨t, h.nox, q⟩
end L2

set_option Elab.async false
set_option linter.all false
set_option maxRecDepth 100000
set_option maxHeartbeats 4000000
/-! a call by keywords alone; a text times a number -/
namespace L2
open PySem PySem.Spec PyProof.Rows
theorem Fun.kbinds {K : PySem.W.Frag} {x qual : Str} {st : Stmt} {f : Addr} {fd : FuncData} {ps ks : List Str} (F : Fun K x qual st f fd) (g : {α : Type} → List α → List α)
    (h : ∀ (kV doc pm : Value) (an : Option Addr) (cdv ct : Value) (ws : List Value), ws.length = ks.length → bindArgs (PySem.W.fnOf x qual (defArgs st) (defBody st) (defScope st) .none kV doc pm an cdv ct) ⟨[], ks.zip ws⟩ = pure (ps.zip (g ws)))
    (hrel : ∀ {zs : List V} {ws : List Value}, Vals zs ws → Vals (g zs) (g ws)) : KBn K fd ps 0 ks (fun _ ws => g ws) (fun _ zs => g zs) := by
  obtain ⟨oc, od, kV, doc, pm, an, cdv, ct, osl, rfl, lk, hcd⟩ := F.ex
  refine ⟨fun s us ws _ h0 hl => ?_, fun _ r => hrel r⟩
  cases us with
  | nil => exact BindsTo.of_eq (h kV doc pm an cdv ct ws hl)
  | cons a r => cases h0
section
variable {X : Cx} {CX : CXT} {k : Nat} {f : Addr} {fd : FuncData} {ps ks : List Str} {sp : Sp} {E : XK} {x : Str} {p pos : Pos} {kws : List Keyword} {tk : TA} {g : List Value → List Value → List Value} {gV : List V → List V → List V}
theorem pe_callN0 (F : FnOk X.prog X.w X.K X.mg X.base CX k f fd ps sp) (hr : Room k X.A) (hg : Gl X x) (hm : X.mg x = some (.ref f)) (hk : PySem.W.keepIn X.K (.ref f) = true) (hb : KBn X.K fd ps 0 ks g gV) (hx : Passes CX X E)
    (hkw : PK X kws tk) (hall : (backToKw pos (keywordEach kws X.env)).all (·.1.isSome) = true := by rfl) (hks : (backToKw pos (keywordEach kws X.env)).filterMap (·.1) = ks := by rfl)
    (hdb : (x == ("__debug__" : Str)) = false := by decide)
    (hpl : ((backTo pos (starEach [] X.env)).any (·.1) || (backToKw pos (keywordEach kws X.env)).any (·.1.isNone)) = false := by rfl) :
    PE X (.Call (.Name x p) [] kws pos) (tCallN 0 ks.length sp gV E tNil tk) := by
  refine ⟨fun pins s σ H Q I h => ?_⟩
  refine wpAny_Call_Name_kw (ld_glob I hg hm ?_ hdb)
  refine PySem.W.callWith_KW0 (h₀ := X.base) I.ok.mod.kin hk hall ?_ hpl
  refine thn (hkw.run pos pins s σ H _ I h) fun ws s2 ⟨zs, H2, I2, rz, l1, l2, q2⟩ => ⟨I2.kIn, ?_⟩
  rw [hks]
  exact run_fnN (us := []) (vs := []) F hr hb hx I2 .nil rz rfl l2 q2
theorem op_mul_str : OpR X (binaryOp .Mult) (fun x y H Q => ∃ z n, x = .str z ∧ y = .int n ∧ z.length ≤ 16 ∧ -(2 ^ 63 : Int) ≤ n ∧ n ≤ 1048576 ∧ Q (.str (Txt.mul z n)) H) := by
  intro pins s σ H x y v u Q I rx ry h
  obtain ⟨z, n, rfl, rfl, h1, h2, h3, q⟩ := h
  obtain ⟨t, rfl⟩ := rx
  obtain ⟨t', rfl⟩ := ry
  exact SB.mul (mulOk_of 16 1048576 h1 h3 h2 (by decide) (by decide)) fun t' tk => ⟨.str _, H, I.tok _, ⟨_, rfl⟩, q⟩
end
end L2

set_option Elab.async false
set_option linter.all false
set_option maxRecDepth 100000
set_option maxHeartbeats 4000000
/-! d.setdefault(y, z) where the keys are tuples -/
namespace L2
open PySem PySem.Spec PyProof.Rows
section
variable {X : Cx} {pins : List (Addr × Obj)} {σ : St} {H : Hp} {s : Shared} {a b : Addr} {r : Value} {d : V} {k : List Key} {A : Around} {E : Value → Shared → Prop}
theorem d_setdT {kvs : List (List Key × V)} {Q : Value → Shared → Prop} (hu : A.units + 1 < cLine) (I : Inv X pins σ H s) (e : H a = some (.dT kvs)) (eb : H b = some (.tup (k.map kV))) (rd : RelV d r) (hl : kvs.length < sizeLine)
    (h1 : ∀ v, valV kvs k = some v → ∀ (w' : Value) (s' : Shared), Inv X pins σ H s' → RelV v w' → Q w' s') (h2 : valV kvs k = none → ∀ (w' : Value) (s' : Shared), Inv X pins σ (upd H a (.dT (putK kvs k d))) s' → RelV d w' → Q w' s') :
    wpAny (model X.prog X.w) A (call (.builtin "dict.setdefault") [.ref a, .ref b, r]) Q E s := by
  obtain ⟨z, hd, xs, rel, dd⟩ := dt_of I.hok e
  have hz : xs.length ≤ sizeLine := by rw [← Paired.length rel]; exact z
  have q := rel.val k
  refine call_setdefault_heap (hsz := hz) (tupleKind_room_in1 hu) (key_of I.hok eb) hd dd (fun p hp => ?_) fun hn h' dd' hs => ?_
  · rw [hp] at q
    cases q0 : valV kvs k with
    | none =>
      rw [q0] at q
      exact (show False from q).elim
    | some v =>
      rw [q0] at q
      exact h1 v q0 _ _ (I.tok _) q
  · rw [hn] at q
    cases q0 : valV kvs k with
    | some v =>
      rw [q0] at q
      exact (show False from q).elim
    | none =>
      have hl2 : (putK kvs k d).length ≤ sizeLine := by
        have := length_putK kvs k d
        omega
      obtain ⟨o, es, ep, hq, g2, g3, g4, _, g5⟩ := dd'
      refine h2 q0 _ _ (d_write (t' := s.toks + _) I (by rw [e]; exact True.intro) hs ⟨o, hq⟩ ⟨hl2, hd, _, (rel.put k eb rd).keeps fun c ys ec => ?_, o, es, ep, hq, g2, g3, g4, g5⟩) rd
      rw [upd_ne (ne_of ec e (fun z => nomatch z))]
      exact ec
end
/-- d.setdefault(y, z), the keys tuples -/
def tDSetdT (td ty tx : TE) : TE := fun σ H Q => td σ H fun x H1 => ∃ a, x = .ref a ∧ IsD H1 a ∧ ty σ H1 fun y H2 => tx σ H2 fun z H3 => ∃ (kvs : List (List Key × V)) (k : List Key) (b : Addr), H3 a = some (.dT kvs) ∧ y = .ref b ∧ H3 b = some (.tup (k.map kV)) ∧ kvs.length < sizeLine ∧
  (∀ v, valV kvs k = some v → Q v H3) ∧ (valV kvs k = none → Q z (upd H3 a (.dT (putK kvs k z))))
section
variable {X : Cx} {o e f : Expr} {td ty tx : TE} {apos cpos : Pos}
theorem pe_dsetdT (hu : X.A.units + 1 < cLine) (ho : PE X o td) (he : PE X e ty) (hf : PE X f tx) (m : M2 X o "setdefault" apos e f cpos) : PE X (.Call (.Attribute o "setdefault" apos) [e, f] [] cpos) (tDSetdT td ty tx) := by
  refine ⟨fun pins s σ H Q I h => ?_⟩
  refine wpAny_Call_method m.base m.few m.line PySem.F.plainAttrs_dict PySem.F.slot_dict_setdefault PySem.F.type_dict_setdefault (thn (ho.run pins s σ H _ I h) fun u s1 ⟨x, H1, I1, rx, a, ex, d, q1⟩ => ?_)
  subst ex
  obtain rfl : u = Value.ref a := rx
  obtain ⟨t1, t2, _⟩ := isD_at I1 d
  refine ⟨t1, t2, ?_⟩
  rw [m.trees]
  refine Calls.callWith_builtin rfl (Calls.evalArgs_plain (Calls.spliced_cons (thn (he.run pins s1 σ H1 _ I1 q1) fun iv s2 ⟨y, H2, I2, ry, q2⟩ =>
    Calls.spliced_cons (thn (hf.run pins s2 σ H2 _ I2 q2) fun fv s3 ⟨z, H3, I3, rz, kvs, k, b, ea, ey, eb, hl, q3, q4⟩ => Calls.spliced_nil ?_))))
  subst ey
  cases ry
  exact d_setdT hu I3 ea eb rz hl (fun v hv w' s4 I4 rw' => ⟨v, _, I4, rw', q3 v hv⟩) fun hn w' s4 I4 rw' => ⟨z, _, I4, rw', q4 hn⟩
end
end L2

set_option Elab.async false
set_option linter.all false
set_option maxRecDepth 100000
set_option maxHeartbeats 4000000
/-! zip of two texts, in a for and in a comprehension -/
namespace L2
open PySem PySem.Spec PyProof.Rows
/-- two texts at once, the signs in new pairs -/
def ItzS (x y : Str) : It :=
  ⟨fun i _ => i < min x.cps.size y.cps.size,
    fun i H v H' => ∃ T c d, v = .ref T ∧ H T = none ∧ H' = upd H T (.tup [.str ⟨#[c]⟩, .str ⟨#[d]⟩]) ∧ x.cps[i]? = some c ∧ y.cps[i]? = some d,
    fun i _ => i = min x.cps.size y.cps.size⟩
theorem turn_zipS {P : Program} {w : World} {K : PySem.W.Frag} {elts : List Expr} {kk : Nat} {tpos : Pos} {x y : Str} {t1 t2 : Tok} {z TI TO i1 i2 : Addr} (D : ZipSep2 z TI TO i1 i2 [i1] [i2]) :
    Turn P w K (.Tuple elts kk tpos) (ItzS x y) [z, TI, TO, i1, i2] z (fun i h => IsZip h z TI TO .none ∧ IsTupOf2 h TI (.ref i1) (.ref i2) ∧ (∃ x y, IsTupOf2 h TO x y) ∧ h.IsStrIter i1 (strIterType x) x t1 i ∧ h.IsStrIter i2 (strIterType y) y t2 i) where
  mem := by simp
  obj := fun i h st c hc => by
    obtain ⟨hz, hTI, ⟨x, y, hTO⟩, ⟨o1, e1, _, d1⟩, ⟨o2, e2, _, d2⟩⟩ := st
    have e' : c = z ∨ c = TI ∨ c = TO ∨ c = i1 ∨ c = i2 := by simpa using hc
    rcases e' with q | q | q | q | q
    · rw [q]; exact ⟨_, hz, fun v q => nomatch q⟩
    · rw [q]; exact ⟨_, hTI, fun v q => nomatch q⟩
    · rw [q]; exact ⟨_, hTO, fun v q => nomatch q⟩
    · rw [q]; exact ⟨o1, e1, fun v q => by rw [d1] at q; cases q⟩
    · rw [q]; exact ⟨o2, e2, fun v q => by rw [d2] at q; cases q⟩
  keep := fun i h h' st k => by
    obtain ⟨hz, hTI, ⟨x, y, hTO⟩, ⟨o1, e1, r1⟩, ⟨o2, e2, r2⟩⟩ := st
    exact ⟨k z (by simp) _ hz, k TI (by simp) _ hTI, ⟨x, y, k TO (by simp) _ hTO⟩, ⟨o1, k i1 (by simp) _ e1, r1⟩, ⟨o2, k i2 (by simp) _ e2, r2⟩⟩
  item := by
    intro X hP hw hK hc i pins s σ H E I hf st hg
    subst hP hw hK
    obtain ⟨hz, hTI, ⟨x0, y0, hTO⟩, h1, h2⟩ := st
    have hg' : i < min x.cps.size y.cps.size := hg
    have hzl : z < s.heap.objs.size := Heap.lt_size hz
    have hd := I.ok.hd hc
    refine wpAny_pyNext_zipD2_item D (Draws.text (A := X.A.in1) hd i1 x t1) (Draws.text (A := X.A.in1) hd i2 y t2) hz hTI hTO h1 h2 (by omega) (by omega) fun u u2 h' tk p1 p2 z' TO' h1' h2' hT hsz hk => ?_
    obtain ⟨c, tc, hcx, rfl⟩ := p1
    obtain ⟨d, td, hdy, rfl⟩ := p2
    refine ⟨_, rfl, wpAny_letOwnedTupleGo_zip (s := { s with heap := h', toks := tk }) z' fun h'' z'' sb => ?_⟩
    have hT2 : h''.get? s.heap.objs.size = some { cls := .type "tuple", data := .seq #[.str ⟨#[c]⟩ tc, .str ⟨#[d]⟩ td] } := (sb.2 _ (Nat.ne_of_gt hzl)).trans hT
    have new : ObjOk X.prog X.w (upd H s.heap.objs.size (.tup [.str ⟨#[c]⟩, .str ⟨#[d]⟩])) h'' s.heap.objs.size (.tup [.str ⟨#[c]⟩, .str ⟨#[d]⟩]) :=
      ⟨by show 2 ≤ sizeLine; decide, [.str ⟨#[c]⟩ tc, .str ⟨#[d]⟩ td], .cons ⟨_, rfl⟩ (.cons ⟨_, rfl⟩ .nil), ⟨_, hT2, rfl, _, rfl⟩⟩
    have I1 : Inv X pins σ (upd H s.heap.objs.size (.tup [.str ⟨#[c]⟩, .str ⟨#[d]⟩])) { s with heap := h'', toks := tk } :=
      I.turnedNew (t' := tk) (ch := [z, TI, TO, i1, i2]) (fun c o hb q => (sb.2 c (fun q' => hb (by simp [q']))).trans (hk c o (fun q' => hb (by simp [q'])) (fun q' => hb (by simp [q'])) (fun q' => hb (by simp [q'])) (fun q' => hb (by simp [q'])) q)) hf (Nat.le_refl _) new
    have nz1 : i1 ≠ z := D.zi1.symm
    have nz2 : i2 ≠ z := D.zi2.symm
    refine ⟨.ref s.heap.objs.size, _, I1, rfl, ⟨_, c, d, rfl, I.hok.fresh (Nat.le_refl _), rfl, hcx, hdy⟩, ⟨z'', ?_, ⟨_, _, (sb.2 _ D.TOz).trans TO'⟩, ?_, ?_⟩, fun c hcm => ?_⟩
    · exact (sb.2 _ D.TIz).trans (hk _ _ D.TIz D.TITO D.TIi1 D.TIi2 hTI)
    · obtain ⟨o, e, r⟩ := h1'
      exact ⟨o, (sb.2 _ nz1).trans e, r⟩
    · obtain ⟨o, e, r⟩ := h2'
      exact ⟨o, (sb.2 _ nz2).trans e, r⟩
    · have hlt : c < s.heap.objs.size := by
        have e' : c = z ∨ c = TI ∨ c = TO ∨ c = i1 ∨ c = i2 := by simpa using hcm
        rcases e' with q | q | q | q | q
        · rw [q]; exact hzl
        · rw [q]; exact Heap.lt_size hTI
        · rw [q]; exact Heap.lt_size hTO
        · rw [q]; obtain ⟨_, e1, _⟩ := h1; exact Heap.lt_size e1
        · rw [q]; obtain ⟨_, e2, _⟩ := h2; exact Heap.lt_size e2
      rw [upd_ne (Nat.ne_of_lt hlt)]
      exact (hf c hcm).1
  done := by
    intro X hP hw hK hc i pins s σ H E I hf st hg
    subst hP hw hK
    obtain ⟨hz, hTI, ⟨x0, y0, hTO⟩, h1, h2⟩ := st
    have hg' : i = min x.cps.size y.cps.size := hg
    have hd := I.ok.hd hc
    exact wpAny_pyNext_zipD2_end D (Draws.text (A := X.A.in1) hd i1 x t1) (Draws.text (A := X.A.in1) hd i2 y t2) hz hTI hTO h1 h2 (by omega) (by omega) (by omega) fun h' tk hk => ⟨rfl, I.turnedL (t' := tk) (ch := [z, TI, TO, i1, i2]) (fun c o hb q =>
      hk c o (fun q' => hb (by simp [q'])) (fun q' => hb (by simp [q'])) (fun q' => hb (by simp [q'])) (fun q' => hb (by simp [q'])) q) hf⟩
  self := fun A i s Q E st h => wpAny_pyIter_zip st.1 h
def iZipS (ta : TA) : TI := fun σ H R => ta σ H fun vs H1 => ∃ x y, vs = [.str x, .str y] ∧ R (ItzS x y) H1
theorem pi_zipS {X : Cx} {e e2 : Expr} {ta : TA} {p pos tpos : Pos} {elts : List Expr} {kk : Nat} (hg : Gl X "zip") (hm : X.mg "zip" = none) (ha : PA X [e, e2] ta)
    (hs : starEach [e, e2] X.env = (false, eval e X.env) :: starEach [e2] X.env := by rfl) (hpl : (backTo pos (starEach [e2] X.env)).any (·.1) = false := by rfl) :
    PI X (.Tuple elts kk tpos) (.Call (.Name "zip" p) [e, e2] [] pos) (iZipS ta) := by
  refine ⟨fun pins s σ H R I h => ?_⟩
  refine Call_ (ld_blt I hg hm PyProof.Rows.boot_zip (PyProof.Rows.callWith_type1 (thn (ha.run pos pins s σ H _ I h) fun us s1 ⟨vs, H1, I1, r1, q1⟩ => ?_) hs hpl))
  obtain ⟨x, y, ex, q⟩ := q1
  subst ex
  cases r1 with
  | cons r rr =>
    cases rr with
    | cons r' rr =>
      cases rr
      obtain ⟨t1, rfl⟩ := r
      obtain ⟨t2, rfl⟩ := r'
      refine zip_begins2 (begins_text x t1) (begins_text y t2) trivial trivial fun h' hz hTI hTO h1 h2 hsz hk => wpAny_pyIter_zip hz ?_
      have I2 : Inv X pins σ H1 { s1 with heap := h' } := I1.kept (t' := s1.toks) hk
      generalize hn : s1.heap.objs.size = n at hz hTI hTO h1 h2 hsz ⊢
      have D : ZipSep2 (n + 4) (n + 2) (n + 3) n (n + 1) [n] [n + 1] := by constructor <;> simp <;> omega
      refine ⟨n + 4, [n + 4, n + 2, n + 3, n, n + 1], _, _, H1, rfl, I2, turn_zipS (t1 := t1) (t2 := t2) D, ⟨hz, hTI, ⟨_, _, hTO⟩, ⟨_, h1, rfl, rfl⟩, ⟨_, h2, rfl, rfl⟩⟩, fun c hcm => ?_, q⟩
      have e' : c = n + 4 ∨ c = n + 2 ∨ c = n + 3 ∨ c = n ∨ c = n + 1 := by simpa using hcm
      have hle : s1.heap.objs.size ≤ c := by
        rw [hn]
        rcases e' with q | q | q | q | q
        · rw [q]; exact Nat.le_add_right _ _
        · rw [q]; exact Nat.le_add_right _ _
        · rw [q]; exact Nat.le_add_right _ _
        · rw [q]; exact Nat.le_refl _
        · rw [q]; exact Nat.le_add_right _ _
      exact I1.fpOk hle (I1.hok.fresh hle)
end L2

set_option Elab.async false
set_option linter.all false
set_option maxRecDepth 100000
set_option maxHeartbeats 4000000
/-! x != y of two objects of a class with an own __eq__ and no __ne__ -/
namespace HN
open PySem PySem.Spec PyProof.Rows PySem.SeqAt
section
variable {M : Model} {prog : Program} {w : World} {A : Around} {E : Value → Shared → Prop} {s : Shared} {K : PySem.W.Frag} {x C f : Addr} {ox : Obj} {od : Option Obj} {b tb : Value}
theorem ifBound_objNe {args : List Value} {Q : Option Value → Shared → Prop} (X : K.In s.heap) (I : PySem.W.InstAt s.heap x ox C od) (hs : PySem.W.findIn K (.ref C) "__ne__" = some (some (.builtin "object.__ne__")))
    (h : wpAny M A (call (.builtin "object.__ne__") (.ref x :: args)) (fun v => Q (some v)) E s) : wpAny M A (callSpecialIfBound? (.ref x) "__ne__" args) Q E s := by
  simp only [callSpecialIfBound?, bindSpecialIfBound?]
  refine wpAny_holding (wpAny_bind (wpAny_bind (wpAny_bind (I.type.here ((PySem.W.looks_findIn X hs).here ?_)))))
  refine wpAny_bind (wpAny_askSetting (wpAny_ite ?_))
  have fin : wpAny M A (call (.builtin "object.__ne__") ([.ref x] ++ args) >>= fun v => pure (some v)) Q E s := wpAny_bind (wpAny_mono h (fun v s' h' => wpAny_pure h') fun _ _ h' => h')
  split
  · exact wpAny_bind (wpAny_of_eq (F.cmp_object.ne.bind _) (wpAny_pure (by exact fin)))
  · exact wpAny_tryCatch (wpAny_bind (wpAny_of_eq (F.cmp_object.ne.bind _) (wpAny_pure (by exact fin))))
/-- what object.__ne__ does, where the class's own __eq__ says True -/
theorem entry_ne {R : Fin → Shared → Prop} (hu : A.units < cLine) (X : K.In s.heap) (I : PySem.W.InstAt s.heap x ox C od) (hs : PySem.W.findIn K (.ref C) "__eq__" = some (some (.ref f))) (hf : PySem.W.isFn K (.ref f) = true)
    (h : wpAny M A (call (.ref f) [.ref x, b]) (fun v s' => v = .bool true ∧ R (.done (.ret (.bool false))) s') E s) : wpAny M A (Builtin.«object.__ne__» ⟨[.ref x, b], []⟩) R E s := by
  unfold Builtin.«object.__ne__»
  have q : wpAny M A (callSpecialIfBound? (.ref x) "__eq__" [b]) (fun r s' => r = some (.bool true) ∧ R (.done (.ret (.bool false))) s') E s :=
    PySem.W.ifBound_K X I hs hf (wpAny_mono h (fun v s' ⟨e, z⟩ => ⟨by rw [e], z⟩) fun _ _ z => z)
  repeat (first | with_reducible refine wpAny_cRoomFor hu ?_ | with_reducible refine wpAny_bind (wpAny_mono q (fun r s' ⟨e, z⟩ => ?_) fun _ _ z => z) | wp_step)
  subst e
  refine wpAny_bind (wpAny_truthy_bool ?_)
  exact wpAny_pure z
theorem call_objNe {Q : Value → Shared → Prop} (hu : A.in1.units < cLine) (X : K.In s.heap) (I : PySem.W.InstAt s.heap x ox C od) (hm : PySem.W.mroIn K C (.type "object") = some true) (hs : PySem.W.findIn K (.ref C) "__eq__" = some (some (.ref f))) (hf : PySem.W.isFn K (.ref f) = true)
    (h : wpAny (model prog w) A.in1 (call (.ref f) [.ref x, b]) (fun v s' => v = .bool true ∧ Q (.bool false) s') E s) :
    wpAny (model prog w) A (call (.builtin "object.__ne__") [.ref x, b]) Q E s :=
  wpAny_call (codeAny_call_builtin F.cmp_object.ne.plain F.cmpEntry_ne (PySem.W.check_slot F.cmpKind_ne F.cmpSplit_ne (I.type.andThen (PySem.W.looks_mroIn X hm)) (F.cmpArgs_ne _ _) (entry_ne hu X I hs hf h)))
theorem rc_ne {L : Addr} {h₀ : Heap} {m : Str → Option Value} {Q : Value → Shared → Prop} (hu : A.units < cLine) (hu1 : A.in1.units < cLine) (F : Fr h₀ L s.heap m) (X₀ : K.In h₀) (I : PySem.W.InstAt s.heap x ox C od) (hb : PySem.W.Looks (model prog w) s.heap (typeOf b) tb) (hn : PySem.W.notFirst K C tb = true)
    (hm : PySem.W.mroIn K C (.type "object") = some true) (hne : PySem.W.findIn K (.ref C) "__ne__" = some (some (.builtin "object.__ne__"))) (hs : PySem.W.findIn K (.ref C) "__eq__" = some (some (.ref f))) (hf : PySem.W.isFn K (.ref f) = true)
    (h : wpAny (model prog w) A.in1 (call (.ref f) [.ref x, b]) (fun v s' => v = .bool true ∧ Q (.bool false) s') E s) : wpAny (model prog w) A (richCompare .NotEq (.ref x) b) Q E s := by
  have X := X₀.keeps F.keep
  have one : wpAny (model prog w) A (tryCompare (.ref x) (cmpInfo .NotEq).2.1 b) (fun r s' => ∃ v, r = some v ∧ Q v s') E s := by
    unfold tryCompare
    refine wpAny_bind (ifBound_objNe X I hne (call_objNe hu1 X I hm hs hf (wpAny_mono h (fun v s' hv => ?_) fun _ _ e => e)))
    exact ⟨hv.1, wpAny_pure ⟨_, rfl, hv.2⟩⟩
  unfold richCompare
  simp only [oneThing_ref]
  refine wpAny_holding (wpAny_bind (wpAny_cRoomFor hu ?_))
  refine wpAny_bind (I.type.here (wpAny_bind (hb.here ?_)))
  split
  · rename_i q
    have e : PySem.W.subIn K tb (.ref C) = some false := by
      rcases Bool.or_eq_true_iff.mp hn with e | e
      · rw [beq_iff_eq.mp e] at q; simp at q
      · exact beq_iff_eq.mp e
    refine wpAny_bind ((PySem.W.looks_subIn X e).here ?_)
    simp only [Bool.false_eq_true, if_false]
    refine wpAny_bind (wpAny_mono one (fun r s' z => ?_) fun _ _ e => e)
    obtain ⟨v, rfl, hq⟩ := z
    exact wpAny_pure hq
  · refine wpAny_bind (wpAny_pure ?_)
    simp only [Bool.false_eq_true, if_false]
    refine wpAny_bind (wpAny_mono one (fun r s' z => ?_) fun _ _ e => e)
    obtain ⟨v, rfl, hq⟩ := z
    exact wpAny_pure hq
end
end HN
namespace L2
open PySem PySem.Spec PyProof.Rows
section
variable {X : Cx} {n : Nat}
def rNeG (D : Eqv) : R2 := fun x y H Q => D x y H ∧ ∀ H', Ext H H' → Q (.bl false) H'
/-- x != y, two objects of the class at C, equal by its own __eq__ -/
theorem op_neG {CX : CXT} {C f : Addr} {fd : FuncData} {ps : List Str} {R : Addr → Addr → Hp → Prop} {E : XK} (F : FnOk X.prog X.w X.K X.mg X.base CX n f fd ps (spEq R))
    (hs : PySem.W.findIn X.K (.ref C) "__eq__" = some (some (.ref f))) (hf : PySem.W.isFn X.K (.ref f) = true) (hne : PySem.W.findIn X.K (.ref C) "__ne__" = some (some (.builtin "object.__ne__"))) (hm : PySem.W.mroIn X.K C (.type "object") = some true)
    (hb : Binds X.K fd ps []) (hx : Passes CX X E) (hr : Room (n + 1) X.A) : OpR X (compareOp .NotEq) (rNeG (DIns C R)) := by
  intro pins s σ H x y u v Q I rx ry hq
  obtain ⟨⟨a, b, dx, dy, fs, gs, rfl, rfl, ha, hb', hr'⟩, q⟩ := hq
  cases rx
  cases ry
  have sb : Sub X n X.A.in1 := Sub.in1 ⟨hr, rfl⟩
  obtain ⟨mA, J, _⟩ := ins_get I.hok ha
  obtain ⟨mB, J', _⟩ := ins_get I.hok hb'
  obtain ⟨od, J, _⟩ := J.look
  obtain ⟨od', J', _⟩ := J'.look
  obtain ⟨m, hF⟩ := I.fr
  show wpAny (model X.prog X.w) X.A (richCompare .NotEq (.ref a) (.ref b)) (EP X pins σ Q) X.xe s
  refine HN.rc_ne (tb := .ref C) hr.units0 sb.room.units0 hF I.ok.mod.kin J J'.type (by simp [PySem.W.notFirst]) hm hne hs hf ?_
  have hsp : spEq R [.ref a, .ref b] H (fun v H' => v = .bl true ∧ Ext H H') E := ⟨a, b, rfl, hr', fun H' e => ⟨rfl, e⟩⟩
  have e0 : Env0 X.prog X.w X.K X.mg X.base X.A.in1 X.stack s H := by
    have e := I.env0
    exact ⟨by rw [sb.fr]; exact e.frames, e.mod, e.bs, e.bsz, e.funs, e.frf, e.hok, e.bare⟩
  have hl := F.len _ _ _ _ hsp
  have r2 : Vals [V.ref a, V.ref b] [Value.ref a, Value.ref b] := .cons rfl (.cons rfl .nil)
  refine wpAny_call (codeAny_mono (F.run X.A.in1 X.stack s H ⟨[.ref a, .ref b], []⟩ [.ref a, .ref b] [.ref a, .ref b] _ E sb.room e0 (by
    have := hb s [.ref a, .ref b] I.kIn (by simpa using hl)
    simpa using this) r2 hsp) fun r s' hq => ?_)
  cases r with
  | error e => exact hx pins σ H s e s' I hq
  | ok fl =>
    cases fl with
    | ret w =>
      obtain ⟨z, H', I', rz, ez, ex⟩ := I.after hq
      subst ez
      cases rz
      exact ⟨rfl, .bl false, H', I', rfl, q H' ex⟩
    | next => exact False.elim hq
    | brk => exact False.elim hq
    | cont => exact False.elim hq
end
end L2


set_option Elab.async false
set_option linter.all false
set_option maxRecDepth 100000
set_option maxHeartbeats 4000000
/-! sorted of lists of tuples of ints and texts, and of texts, of any length: one total order -/
namespace SrtC
open PySem PySem.Spec PyProof.Rows Srt SrtO L2
/-! ### the order of texts and cells -/
def sLt (x y : Str) : Bool := decide (x.cps.toList < y.cps.toList)
theorem str_ext {x y : Str} (h : x.cps.toList = y.cps.toList) : x = y := by
  cases x; cases y
  exact congrArg _ (Array.toList_inj.mp h)
theorem sLt_irr (x : Str) : sLt x x = false := decide_eq_false (List.lt_irrefl _)
theorem sLt_trans {x y z : Str} (h1 : sLt x y = true) (h2 : sLt y z = true) : sLt x z = true :=
  decide_eq_true (List.lt_trans (of_decide_eq_true h1) (of_decide_eq_true h2))
theorem sLt_tri {x y : Str} (h1 : sLt x y = false) (h2 : sLt y x = false) : x = y := by
  have a := List.not_lt.mp (of_decide_eq_false h1)
  have b := List.not_lt.mp (of_decide_eq_false h2)
  exact str_ext (List.le_antisymm b a)
def cLt : Key → Key → Bool
  | .inl a, .inl b => decide (a < b)
  | .inl _, .inr _ => true
  | .inr _, .inl _ => false
  | .inr x, .inr y => sLt x y
theorem cLt_irr (x : Key) : cLt x x = false := by
  cases x with
  | inl a => exact decide_eq_false (Int.lt_irrefl a)
  | inr x => exact sLt_irr x
theorem cLt_trans {x y z : Key} (h1 : cLt x y = true) (h2 : cLt y z = true) : cLt x z = true := by
  cases x with
  | inl a =>
    cases z with
    | inr c => rfl
    | inl c =>
      cases y with
      | inl b => exact decide_eq_true (Int.lt_trans (of_decide_eq_true h1) (of_decide_eq_true h2))
      | inr b => cases h2
  | inr a =>
    cases y with
    | inl b => cases h1
    | inr b =>
      cases z with
      | inl c => cases h2
      | inr c => exact sLt_trans h1 h2
theorem cLt_tri {x y : Key} (h1 : cLt x y = false) (h2 : cLt y x = false) : x = y := by
  cases x with
  | inl a =>
    cases y with
    | inl b =>
      have p : ¬ a < b := of_decide_eq_false h1
      have q : ¬ b < a := of_decide_eq_false h2
      exact congrArg _ (by omega)
    | inr b => cases h1
  | inr a =>
    cases y with
    | inl b => cases h2
    | inr b => exact congrArg _ (sLt_tri h1 h2)
def lexC : List Key → List Key → Bool
  | [], [] => false
  | [], _ :: _ => true
  | _ :: _, [] => false
  | x :: xs, y :: ys => if x = y then lexC xs ys else cLt x y
theorem lexC_irr : ∀ x : List Key, lexC x x = false
  | [] => rfl
  | x :: xs => by
    show (if x = x then lexC xs xs else cLt x x) = false
    rw [if_pos rfl]
    exact lexC_irr xs
theorem lexC_trans : ∀ {x y z : List Key}, lexC x y = true → lexC y z = true → lexC x z = true
  | [], [], [], h1, _ => nomatch h1
  | [], _ :: _, [], _, h2 => nomatch h2
  | [], _, _ :: _, _, _ => rfl
  | _ :: _, [], _, h1, _ => by cases h1
  | _ :: _, _ :: _, [], _, h2 => by cases h2
  | x :: xs, y :: ys, z :: zs, h1, h2 => by
    have e1 : (if x = y then lexC xs ys else cLt x y) = true := h1
    have e2 : (if y = z then lexC ys zs else cLt y z) = true := h2
    show (if x = z then lexC xs zs else cLt x z) = true
    by_cases a : x = y
    · subst a
      rw [if_pos rfl] at e1
      by_cases b : x = z
      · rw [if_pos b] at e2 ⊢
        exact lexC_trans e1 e2
      · rw [if_neg b] at e2 ⊢
        exact e2
    · rw [if_neg a] at e1
      by_cases b : y = z
      · subst b
        rw [if_neg a]
        exact e1
      · rw [if_neg b] at e2
        have t := cLt_trans e1 e2
        have n : ¬ x = z := fun q => by
          subst q
          rw [cLt_irr] at t
          cases t
        rw [if_neg n]
        exact t
theorem lexC_tri : ∀ {x y : List Key}, lexC x y = false → lexC y x = false → x = y
  | [], [], _, _ => rfl
  | [], _ :: _, h1, _ => by cases h1
  | _ :: _, [], _, h2 => by cases h2
  | x :: xs, y :: ys, h1, h2 => by
    have e1 : (if x = y then lexC xs ys else cLt x y) = false := h1
    have e2 : (if y = x then lexC ys xs else cLt y x) = false := h2
    by_cases a : x = y
    · subst a
      rw [if_pos rfl] at e1 e2
      rw [lexC_tri e1 e2]
    · rw [if_neg a] at e1
      rw [if_neg (fun q => a q.symm)] at e2
      exact absurd (cLt_tri e1 e2) a
/-- an order with these three is a strict weak one -/
theorem swo_of {α : Type} {lt : α → α → Bool} (irr : ∀ x, lt x x = false) (tr : ∀ x y z, lt x y = true → lt y z = true → lt x z = true) (tri : ∀ x y, lt x y = false → lt y x = false → lt x = lt y) : Swo lt := by
  have asym : ∀ x y, lt x y = true → lt y x = false := fun x y h => by
    rcases bcase (lt y x) with q | q
    · have t := tr _ _ _ h q
      rw [irr] at t
      cases t
    · exact q
  refine ⟨asym, fun x y z h1 h2 => ?_⟩
  rcases bcase (lt z x) with q | q
  · rcases bcase (lt x y) with p | p
    · have t := tr _ _ _ q p
      rw [h2] at t
      cases t
    · have e := tri _ _ p h1
      rcases bcase (lt y z) with r | r
      · have t := tr _ _ _ r q
        rw [h1] at t
        cases t
      · have e2 := tri _ _ h2 r
        have e3 : lt z x = lt y x := congrFun e2 x
        rw [q, h1] at e3
        cases e3
  · exact q
theorem swo_lexC {α : Type} (k : α → List Key) : Swo fun u v : α => lexC (k u) (k v) :=
  swo_of (fun x => lexC_irr _) (fun x y z h1 h2 => lexC_trans h1 h2) (fun x y h1 h2 => by
    have e := lexC_tri h1 h2
    funext z
    show lexC (k x) (k z) = lexC (k y) (k z)
    rw [e])
/-- the same things in a row that ascends stand in one way -/
theorem srtd_uniq {α : Type} {lt : α → α → Bool} (tri : ∀ x y, lt x y = false → lt y x = false → x = y) {l m : List α} (h1 : Srtd lt l) (h2 : Srtd lt m) (p : l.Perm m) : l = m :=
  List.Perm.eq_of_pairwise (fun a b _ _ h h' => tri a b h' h) h1 h2 p

/-! ### tuples of cells compare as lexC says -/
section
variable {prog : Program} {w : World} {A : Around} {E : Value → Shared → Prop} {s : Shared}
theorem one_int {b : Bool} {x y : Int} {t u : Tok} {Q : Bool → Shared → Prop} (h : Q (decide (x < y)) s) : wpAny (model prog w) A (oneLt' b (.int x t) (.int y u)) Q E s := by
  cases b with
  | true => exact oneLt_int h
  | false => exact PySem.W.kat_one _ _ (PyProof.Rows.lt_int h)
theorem one_str {b : Bool} {x y : Str} {t u : Tok} {Q : Bool → Shared → Prop} (h : Q (sLt x y) s) : wpAny (model prog w) A (oneLt' b (.str x t) (.str y u)) Q E s := by
  cases b with
  | true => exact oneLt_str h
  | false => exact PySem.W.kat_one _ _ (PyProof.Rows.lt_str h)
theorem lex_same (x : Key) (xs ys : List Key) : lexC (x :: xs) (x :: ys) = lexC xs ys := if_pos rfl
theorem lex_diff {x y : Key} (h : ¬ x = y) (xs ys : List Key) : lexC (x :: xs) (y :: ys) = cLt x y := if_neg h
theorem lex_go : ∀ (cs ds : List Key) (xs ys : List Value) (i : Nat) (r0 : Bool), Vals (cs.map kV) xs → Vals (ds.map kV) ys → cs.map Sum.isLeft = ds.map Sum.isLeft → r0 = lexC cs ds →
    PySem.W.KatLex prog w A true false (fun r s' => s' = s ∧ r = r0) (xs.zip ys) i s
  | [], [], _, _, i, r0, .nil, .nil, _, hr => PySem.W.kat_nil ⟨rfl, hr.symm⟩
  | [], _ :: _, _, _, _, _, _, _, hs, _ => by cases hs
  | _ :: _, [], _, _, _, _, _, _, hs, _ => by cases hs
  | .inl a :: cs, .inl b :: ds, x :: xs, y :: ys, i, r0, .cons rx tx, .cons ry ty, hs, hr => by
    obtain ⟨t, rfl⟩ := rx
    obtain ⟨u, rfl⟩ := ry
    have hs' : cs.map Sum.isLeft = ds.map Sum.isLeft := by simpa using hs
    refine PySem.W.kat_cons (SeqAt.EqAt.int_int a t b u prog w _ _ (PySem.W.kat_go (fun e => PySem.W.kat_yes ?_) (fun e => PySem.W.kat_no (one_int ⟨rfl, ?_⟩))))
    · have e : a = b := by simpa using e
      subst e
      exact lex_go cs ds xs ys (i + 1) r0 tx ty hs' (by rw [hr, lex_same])
    · have e : ¬ a = b := by simpa using e
      rw [hr, lex_diff (fun q => e (Sum.inl.inj q))]
      rfl
  | .inr a :: cs, .inr b :: ds, x :: xs, y :: ys, i, r0, .cons rx tx, .cons ry ty, hs, hr => by
    obtain ⟨t, rfl⟩ := rx
    obtain ⟨u, rfl⟩ := ry
    have hs' : cs.map Sum.isLeft = ds.map Sum.isLeft := by simpa using hs
    refine PySem.W.kat_cons (SeqAt.EqAt.str_str a t b u prog w _ _ (PySem.W.kat_go (fun e => PySem.W.kat_yes ?_) (fun e => PySem.W.kat_no (one_str ⟨rfl, ?_⟩))))
    · have e : a = b := by simpa using e
      subst e
      exact lex_go cs ds xs ys (i + 1) r0 tx ty hs' (by rw [hr, lex_same])
    · have e : ¬ a = b := by simpa using e
      rw [hr, lex_diff (fun q => e (Sum.inr.inj q))]
      rfl
  | .inl a :: cs, .inr b :: ds, _, _, _, _, _, _, hs, _ => by simp at hs
  | .inr a :: cs, .inl b :: ds, _, _, _, _, _, _, hs, _ => by simp at hs
/-- v is a tuple of these cells -/
def IsC (h : Heap) (v : Value) (cs : List Key) : Prop := ∃ a its, v = .ref a ∧ Vals (cs.map kV) its ∧ IsTup h a its.toArray
theorem IsC.keeps {h h' : Heap} {v : Value} {cs : List Key} (x : IsC h v cs) (k : ∀ b o, h.get? b = some o → o.cls = .type "tuple" → h'.get? b = some o) : IsC h' v cs := by
  obtain ⟨a, its, e, r, o, ho, hc, hd⟩ := x
  exact ⟨a, its, e, r, o, k _ _ ho hc, hc, hd⟩
theorem cells_cmp {vs : List Value} {k : Value → List Key} {S : List Bool} (hp : ∀ v ∈ vs, IsC s.heap v (k v) ∧ (k v).map Sum.isLeft = S) : Cmp prog w A s (tuples' true) (fun p => p.1 ∈ vs) (lt2 fun v u => lexC (k v) (k u)) := by
  intro p q hm hm'
  obtain ⟨⟨a, its, e, r, o, ho, hc, n, hd⟩, h1⟩ := hp _ hm
  obtain ⟨⟨a', its', e', r', o', ho', hc', n', hd'⟩, h2⟩ := hp _ hm'
  show wpAny (model prog w) A (keyLt' (tuples' true) p.1 q.1) (fun r s' => s' = s ∧ r = lexC (k p.1) (k q.1)) (fun _ _ => False) s
  have el : its.length = its'.length := by
    have q1 := congrArg List.length (h1.trans h2.symm)
    rw [List.length_map, List.length_map] at q1
    have q2 := r.length
    have q3 := r'.length
    rw [List.length_map] at q2 q3
    omega
  generalize k p.1 = cs at *
  generalize k q.1 = ds at *
  rw [e, e']
  refine PySem.W.kat_lt ho hd ho' hd' ?_
  have ed : decide (its.toArray.size < its'.toArray.size) = false := decide_eq_false (by simp [el])
  rw [ed]
  exact lex_go cs ds its its' 0 _ r r' (h1.trans h2.symm) rfl
theorem firstsC {h : Heap} {k : Value → List Key} {b : Bool} {S : List Bool} : ∀ {vs : List Value}, (∀ v ∈ vs, IsC h v (k v) ∧ (k v).map Sum.isLeft = b :: S) → ∃ fs : List Value, PySem.W.KatTups h vs fs ∧ fs.length = vs.length ∧
    ∀ f ∈ fs, (b = true ∧ ∃ x t, f = Value.int x t) ∨ (b = false ∧ ∃ x t, f = Value.str x t)
  | [], _ => ⟨[], PySem.W.KatTups.nil, rfl, fun _ hm => by simp at hm⟩
  | v :: vs, hp => by
    obtain ⟨fs, h1, h2, h3⟩ := firstsC (vs := vs) fun v' hm => hp v' (List.mem_cons_of_mem _ hm)
    obtain ⟨⟨a, its, e, r, o, ho, hc, n, hd⟩, hs⟩ := hp v (List.mem_cons_self ..)
    subst e
    generalize k (.ref a) = cs at *
    cases cs with
    | nil => cases hs
    | cons c cs =>
      match its, r with
      | u :: us, .cons rx tx =>
        refine ⟨u :: fs, PySem.W.KatTups.cons ho hc hd rfl h1, by rw [List.length_cons, List.length_cons, h2], fun f hm => ?_⟩
        rcases List.mem_cons.mp hm with rfl | hm
        · have hb : Sum.isLeft c = b := by
            have := congrArg List.head? hs
            simpa using this
          cases c with
          | inl x =>
            obtain ⟨t, rfl⟩ := rx
            exact .inl ⟨hb.symm, x, t, rfl⟩
          | inr x =>
            obtain ⟨t, rfl⟩ := rx
            exact .inr ⟨hb.symm, x, t, rfl⟩
        · exact h3 f hm
theorem cells_sortable {a : Addr} {vs : List Value} {k : Value → List Key} {b : Bool} {S : List Bool} (h0 : 0 < vs.length) (hp : ∀ v ∈ vs, IsC s.heap v (k v) ∧ (k v).map Sum.isLeft = b :: S) (ha : ∀ o, s.heap.get? a = some o → o.cls ≠ .type "tuple") :
    SortableO prog w A s a vs fun v u => lexC (k v) (k u) := by
  intro h' keep
  have hp' : ∀ v ∈ vs, IsC h' v (k v) ∧ (k v).map Sum.isLeft = b :: S := fun v hm => ⟨(hp v hm).1.keeps fun b o e c => keep b o (fun z => by subst z; exact ha o e c) e, (hp v hm).2⟩
  obtain ⟨fs, h1, h2, h3⟩ := firstsC hp'
  refine ⟨tuples' true, fun Q E hq => ?_, cells_cmp hp'⟩
  cases b with
  | true =>
    refine PySem.W.kat_kind (T := .type "int") h1 (by omega) (fun f hm => ?_) (by rfl) ?_
    · rcases h3 f hm with ⟨_, x, t, rfl⟩ | ⟨z, _⟩
      · exact PySem.W.Looks.now
      · cases z
    · have e : (Value.type "int" != Value.type "tuple") = true := by first | decide +kernel | rfl | decide
      rw [e]
      exact hq
  | false =>
    refine PySem.W.kat_kind (T := .type "str") h1 (by omega) (fun f hm => ?_) (by rfl) ?_
    · rcases h3 f hm with ⟨z, _⟩ | ⟨_, x, t, rfl⟩
      · cases z
      · exact PySem.W.Looks.now
    · have e : (Value.type "str" != Value.type "tuple") = true := by first | decide +kernel | rfl | decide
      rw [e]
      exact hq
theorem sorted_cells {l : Addr} {vs : List Value} {k : Value → List Key} {b : Bool} {S : List Bool} {Q : Value → Shared → Prop} (hl : s.heap.IsList l vs.toArray) (hz : vs.length ≤ sizeLine) (hp : ∀ v ∈ vs, IsC s.heap v (k v) ∧ (k v).map Sum.isLeft = b :: S)
    (h : ∀ (h' : Heap) (d : Addr) (out : List Value), Srtd (fun v u => lexC (k v) (k u)) out → Stb (fun v u => lexC (k v) (k u)) out vs → (∀ b o, s.heap.get? b = some o → h'.get? b = some o) → s.heap.objs.size ≤ d → (∃ n, h'.get? d = some (seqObj "list" out.toArray n)) → Q (.ref d) { s with heap := h' }) :
    wpAny (model prog w) A (call (.builtin "sorted") [.ref l]) Q E s := by
  refine sorted_ord (swo_lexC k) hl hz (fun h2 h₁ a ha kk => ?_) fun out hs hb => ?_
  · refine cells_sortable (s := { s with heap := h₁ }) (by omega) (fun v hm => ⟨(hp v hm).1.keeps fun b o e _ => (kk b o e).2, (hp v hm).2⟩) fun o e => ?_
    obtain rfl : o = seqObj "list" vs.toArray 0 := Option.some.inj (e.symm.trans ha)
    intro c
    exact absurd (Value.type.inj c) (by decide)
  · exact h _ _ out hs hb (fun b o e => sortedAll_old e) (Nat.le_succ _) (sortedAll_at s.heap vs out.toArray)
/-! ### texts -/
def tv : Value → Str
  | .str x _ => x
  | _ => Str.empty
def ltTv (v u : Value) : Bool := sLt (tv v) (tv u)
theorem swo_tv : Swo ltTv := swo_of (fun x => sLt_irr _) (fun x y z h1 h2 => sLt_trans h1 h2) (fun x y h1 h2 => by
    have e := sLt_tri h1 h2
    funext z
    show sLt (tv x) (tv z) = sLt (tv y) (tv z)
    rw [e])
theorem strs_mem : ∀ {vs : List Value} {ss : List Str}, StrsAre vs ss → ∀ v ∈ vs, ∃ x t, v = Value.str x t
  | _, _, .nil, v, h => absurd h (by simp)
  | _, _, .cons x t r, v, h => by
    rcases List.mem_cons.mp h with e | h
    · exact ⟨x, t, e⟩
    · exact strs_mem r v h
theorem strs_tv : ∀ {vs : List Value}, (∀ v ∈ vs, ∃ x t, v = Value.str x t) → StrsAre vs (vs.map tv)
  | [], _ => .nil
  | v :: vs, h => by
    obtain ⟨x, t, e⟩ := h v List.mem_cons_self
    subst e
    exact .cons x t (strs_tv fun u hu => h u (List.mem_cons_of_mem _ hu))
theorem tv_strs : ∀ {vs : List Value} {ss : List Str}, StrsAre vs ss → vs.map tv = ss
  | _, _, .nil => rfl
  | _, _, .cons x t r => congrArg (x :: ·) (tv_strs r)
theorem str_cmp {vs : List Value} {ss : List Str} (hI : StrsAre vs ss) : Cmp prog w A s oneType' (fun p => p.1 ∈ vs) (lt2 ltTv) := by
  intro p q hm hm'
  obtain ⟨a, t, e⟩ := strs_mem hI _ hm
  obtain ⟨b, u, e'⟩ := strs_mem hI _ hm'
  show wpAny (model prog w) A (keyLt' oneType' p.1 q.1) (fun r s' => s' = s ∧ r = ltTv p.1 q.1) (fun _ _ => False) s
  rw [e, e', keyLt'_oneType]
  exact oneLt_str ⟨rfl, rfl⟩
theorem strs_sortable {a : Addr} {vs : List Value} {ss : List Str} (hI : StrsAre vs ss) (h2 : 2 ≤ vs.length) : SortableO prog w A s a vs ltTv := by
  intro h' _
  refine ⟨oneType', fun Q E hq => ?_, str_cmp hI⟩
  match vs, hI, h2 with
  | v1 :: v2 :: rest, hI, _ =>
    rw [keyKind_strs hI]
    exact wpAny_pure hq
  | [], _, h => exact absurd h (by decide)
  | [v], _, h => exact absurd h (by simp)
/-- ascending texts -/
def Asc (ss : List Str) : Prop := ss.Pairwise fun x y => sLt y x = false
theorem strs_out {vs out : List Value} {ss : List Str} (hI : StrsAre vs ss) (hs : Srtd ltTv out) (hb : Stb ltTv out vs) : StrsAre out (out.map tv) ∧ (out.map tv).Perm ss ∧ Asc (out.map tv) := by
  refine ⟨strs_tv fun v hv => strs_mem hI v (hb.perm.mem_iff.mp hv), ?_, ?_⟩
  · have q := hb.perm.map tv
    rw [tv_strs hI] at q
    exact q
  · exact List.pairwise_map.mpr hs
end
end SrtC
namespace L2
open PySem PySem.Spec PyProof.Rows
section
variable {X : Cx}
/-- sorted(xs), xs a list of tuples of ints and texts that stand in the same columns (k says which): a new list, ascending -/
def rSortedC (K : PySem.W.Frag) : List V → Hp → VK → Prop := fun vs H Q => ∃ (a : Addr) (xs : List V) (k : V → List Key) (b : Bool) (S : List Bool), vs = [V.ref a] ∧ SqL K H a xs ∧ (∀ x ∈ xs, ∃ t, x = V.ref t ∧ SqT K H t ((k x).map kV) ∧ (k x).map Sum.isLeft = b :: S) ∧
  ∀ ys p, SrtO.Srtd (fun x y => SrtC.lexC (k x) (k y)) ys → ys.Perm xs → H p = none → Q (.ref p) (upd H p (.lst ys))
theorem cr_sortedC : CallR X (.builtin "sorted") (rSortedC X.K) := by
  intro pins s σ H vs us Q I r h
  obtain ⟨a, xs, k, b, S, rfl, hs, hx, q⟩ := h
  obtain ⟨its, rv, hl, hz⟩ := I.list hs
  obtain ⟨u, rfl, ru⟩ := vals1 r
  obtain rfl : u = Value.ref a := ru
  obtain ⟨e1, e2⟩ := refs_back rv fun x m => by
    obtain ⟨t, e, _⟩ := hx x m
    exact ⟨t, e⟩
  refine SrtC.sorted_cells (k := fun u => k (backV u)) (b := b) (S := S) hl.isList (by rw [← rv.length]; exact hz) (fun v hv => ?_) fun h' d out h1 h2 kp hd hn => ?_
  · obtain ⟨t, rfl⟩ := e2 v hv
    have hm : V.ref t ∈ xs := by rw [e1]; exact List.mem_map.mpr ⟨_, hv, rfl⟩
    obtain ⟨t', e, ht, hS⟩ := hx _ hm
    cases e
    obtain ⟨its2, r2, hT, _⟩ := I.tuple ht
    exact ⟨⟨t, its2, rfl, r2, hT⟩, hS⟩
  · have h3 : ∀ u ∈ out, ∃ a, u = Value.ref a := fun u hu => e2 u (h2.perm.mem_iff.mp hu)
    obtain ⟨n, hn⟩ := hn
    have hb : (out.map backV).Perm xs := by
      rw [e1]
      exact h2.perm.map backV
    refine ⟨.ref d, upd H d (.lst (out.map backV)), I.laid (t' := s.toks) kp hd ⟨?_, out, n, vals_back h3, hn⟩, rfl, q _ d (List.pairwise_map.mpr h1) hb (I.hok.fresh hd)⟩
    rw [hb.length_eq]
    exact hz
/-- sorted(xs), xs a list of texts of any length -/
def rSortedTx (K : PySem.W.Frag) : List V → Hp → VK → Prop := fun vs H Q => ∃ (a : Addr) (ss : List Str), vs = [V.ref a] ∧ SqL K H a (ss.map V.str) ∧
  ∀ (ys : List Str) (p : Addr), SrtC.Asc ys → ys.Perm ss → H p = none → Q (.ref p) (upd H p (.lst (ys.map V.str)))
theorem strs_of_vals' : ∀ {ss : List Str} {us : List Value}, Vals (ss.map V.str) us → StrsAre us ss
  | [], _, .nil => .nil
  | x :: ss, _, .cons ⟨t, e⟩ r => by
    subst e
    exact .cons x t (strs_of_vals' r)
theorem cr_sortedTx : CallR X (.builtin "sorted") (rSortedTx X.K) := by
  intro pins s σ H vs us Q I r h
  obtain ⟨a, ss, rfl, hs, q⟩ := h
  obtain ⟨its, rv, hl, hz⟩ := I.list hs
  obtain ⟨u, rfl, ru⟩ := vals1 r
  obtain rfl : u = Value.ref a := ru
  have hI := strs_of_vals' rv
  have hz' : its.length ≤ sizeLine := by rw [← rv.length]; exact hz
  refine SrtO.sorted_ord SrtC.swo_tv hl.isList hz' (fun h2 h₁ a ha kk => SrtC.strs_sortable hI h2) fun out h1 h2 => ?_
  obtain ⟨a1, a2, a3⟩ := SrtC.strs_out hI h1 h2
  obtain ⟨ep, he'⟩ := sortedAll_at s.heap its out.toArray
  have hlen : ((out.map SrtC.tv).map V.str).length ≤ sizeLine := by
    rw [List.length_map, a2.length_eq, ← List.length_map (f := V.str)]
    exact hz
  exact ⟨.ref _, upd H (s.heap.objs.size + 1) (.lst ((out.map SrtC.tv).map V.str)), I.laid (t' := s.toks) (fun _ _ => sortedAll_old) (Nat.le_succ _) ⟨hlen, out, ep, vals_of_strs a1, he'⟩, rfl, q _ _ a3 a2 (I.hok.fresh (Nat.le_succ _))⟩
end
end L2

set_option Elab.async false
set_option linter.all false
set_option maxRecDepth 100000
set_option maxHeartbeats 4000000
/-! sorted(a dict whose keys are tuples of ints and texts): its keys, ascending -/
namespace L2
open PySem PySem.Spec PyProof.Rows
def vK : V → Key
  | .int i => .inl i
  | .str x => .inr x
  | _ => .inl 0
theorem vK_kV : ∀ ks : List Key, (ks.map kV).map vK = ks
  | [] => rfl
  | .inl i :: r => by
    show vK (.int i) :: (r.map kV).map vK = _
    rw [vK_kV r]; rfl
  | .inr x :: r => by
    show vK (.str x) :: (r.map kV).map vK = _
    rw [vK_kV r]; rfl
/-- the cells of the tuple at t -/
def keyA (H : Hp) (t : Addr) : List Key := match H t with
  | some (.tup xs) => xs.map vK
  | _ => []
theorem keyA_of {H : Hp} {t : Addr} {k : List Key} (h : H t = some (.tup (k.map kV))) : keyA H t = k := by
  unfold keyA
  rw [h]
  exact vK_kV k
def keyU (H : Hp) : Value → List Key
  | .ref t => keyA H t
  | _ => []
theorem paired_map {H : Hp} : ∀ cs : List Addr, (∀ c ∈ cs, H c = some (.tup ((keyA H c).map kV))) → Paired (fun (k : List Key) c => H c = some (.tup (k.map kV))) (cs.map (keyA H)) cs
  | [], _ => .nil
  | c :: r, h => .cons (h c (by simp)) (paired_map r fun d hd => h d (List.mem_cons_of_mem _ hd))
theorem isKeys_keyA {H : Hp} {kvs : List (List Key × V)} {bs : List Addr} (h : IsKeys H kvs bs) : bs.map (keyA H) = kvs.map (·.1) ∧ (∀ c ∈ bs, H c = some (.tup ((keyA H c).map kV))) ∧ (∀ c ∈ bs, ∃ p ∈ kvs, keyA H c = p.1) := by
  unfold IsKeys at h
  induction h with
  | nil => exact ⟨rfl, fun _ h => (nomatch h), fun _ h => (nomatch h)⟩
  | @cons p b kvs bs hh t ih =>
    have e := keyA_of hh
    refine ⟨by rw [List.map_cons, List.map_cons, e, ih.1], fun c hc => ?_, fun c hc => ?_⟩
    · rcases List.mem_cons.mp hc with rfl | hc
      · rw [e]; exact hh
      · exact ih.2.1 c hc
    · rcases List.mem_cons.mp hc with rfl | hc
      · exact ⟨p, by simp, e⟩
      · obtain ⟨q, hq, e⟩ := ih.2.2 c hc
        exact ⟨q, List.mem_cons_of_mem _ hq, e⟩
def refU : Value → Addr
  | .ref t => t
  | _ => 0
def rSortedDT : List V → Hp → VK → Prop := fun vs H Q => ∃ (d : Addr) (kvs : List (List Key × V)) (b : Bool) (S : List Bool), vs = [V.ref d] ∧ Rd H d (.dT kvs) ∧ (∀ p ∈ kvs, p.1.map Sum.isLeft = b :: S) ∧
  ∀ (cs : List Addr) (ks : List (List Key)) (p : Addr), Paired (fun (k : List Key) c => H c = some (.tup (k.map kV))) ks cs → ks.Pairwise (fun x y => SrtC.lexC y x = false) → ks.Perm (kvs.map (·.1)) → H p = none → Q (.ref p) (upd H p (.lst (cs.map V.ref)))
theorem cr_sortedDT {X : Cx} (hc : X.calm = true) : CallR X (.builtin "sorted") rSortedDT := by
  intro pins s σ H vs us Q I r h
  obtain ⟨d, kvs, b, S, rfl, hd, hsh, q⟩ := h
  obtain ⟨u, rfl, rx⟩ := r.one
  cases rx
  obtain ⟨z, hs, ks, pr, o, es, ep, ho, hx, hdt, he, hn⟩ := (show ObjOk X.prog X.w H s.heap d (.dT kvs) from hd.ok I.hok)
  have l1 : es.size = ks.length := size_of_entries he
  have l2 : kvs.length = ks.length := Paired.length pr
  refine Calls.call_function_entry kind_sorted plain_sorted entry_sorted (args_sorted1 _) ?_
  unfold Builtin.«sorted»
  refine wpAny_bind (m := checkCount "sorted" 1 1 _) (wpAny_pure ?_)
  refine wpAny_bind (PySem.W.kdu_collect (A := X.A.in1) (kdl_raw hs hx hdt) (I.ok.hd hc) ho (by omega) fun h' tk acc' kp it => ?_)
  have ea : acc'.toList = ks.map fun x => Value.ref x.2.1 := by
    have hl : acc'.toList.length = ks.length := by rw [Array.length_toList, it.1]; exact l1
    apply List.ext_getElem?
    intro j
    rw [List.getElem?_map]
    cases hj : acc'.toList[j]? with
    | none =>
      have h1 := List.getElem?_eq_none_iff.mp hj
      rw [List.getElem?_eq_none (by omega)]
      all_goals rfl
    | some v =>
      obtain ⟨en, hen, hv⟩ := it.2 j v (by rw [← Array.getElem?_toList]; exact hj)
      have qe := entry_at he j
      rw [hen] at qe
      cases hb : ks[j]? with
      | none =>
        rw [hb] at qe
        exact nomatch (show some en = none from qe)
      | some b =>
        rw [hb] at qe
        have e2 : en = entryOfKey (tupleKind (mixKind X.prog X.w)) b := Option.some.inj qe
        rw [hv, e2]
        all_goals rfl
  have eb : acc'.toList = (ks.map fun x => x.2.1).map Value.ref := by rw [ea, List.map_map]; all_goals rfl
  have IK := isKeys_of pr
  have lb : (ks.map fun x => x.2.1).length = kvs.length := by rw [List.length_map, l2]
  generalize (ks.map fun x => x.2.1) = bs at *
  obtain ⟨k1, k2, k3⟩ := isKeys_keyA IK
  have hvl : acc'.toList.length = kvs.length := by rw [eb, List.length_map, lb]
  generalize acc'.toList = vs at *
  have hvz : vs.length ≤ sizeLine := by omega
  have hp : ∀ v ∈ vs, SrtC.IsC h' v (keyU H v) ∧ (keyU H v).map Sum.isLeft = b :: S := fun v hv => by
    rw [eb] at hv
    obtain ⟨t, ht, rfl⟩ := List.mem_map.mp hv
    obtain ⟨p, hp, e⟩ := k3 t ht
    have ht2 := k2 t ht
    obtain ⟨its, r2, hT, _⟩ := I.tuple (SqT.of ht2)
    refine ⟨SrtC.IsC.keeps (h := s.heap) ⟨t, its, rfl, r2, hT⟩ fun b o e _ => kp b o e, ?_⟩
    show (keyA H t).map Sum.isLeft = _
    rw [e]
    exact hsh p hp
  refine wpAny_bind (wpAny_newList ?_ hvz)
  have hoL : (h'.push (seqObj "list" vs.toArray 0)).get? h'.objs.size = some (seqObj "list" vs.toArray 0) := Heap.get?_push_size _ rfl
  refine wpAny_bind (wpAny_holding (wpAny_call_entry slot_list_sort ⟨_, hoL, rfl⟩ entry_list_sort (SrtO.list_sort_ord (SrtC.swo_lexC (keyU H)) hoL hvz (fun h2 => SrtC.cells_sortable (by omega) (fun v hv => ⟨(hp v hv).1.keeps fun b o e _ => Heap.get?_push_of_some _ e, (hp v hv).2⟩) fun o e => ?_) fun out h1 h2 => ⟨.none, rfl, ?_⟩) (args_list_sort _)))
  · obtain rfl : o = seqObj "list" vs.toArray 0 := Option.some.inj (e.symm.trans hoL)
    intro c
    exact absurd (Value.type.inj c) (by decide)
  · obtain ⟨c, hcc⟩ := sortedHeap_at (vs := vs) (out := out.toArray) hoL
    have I0 : Inv X pins σ H { s with heap := h', toks := tk } := I.kept kp
    have old : ∀ b u, h'.get? b = some u → (sortedHeap (h'.push (seqObj "list" vs.toArray 0)) h'.objs.size vs out.toArray).get? b = some u := fun b u e => by
      have hlt := Heap.lt_size e
      rw [sortedHeap_old (Nat.ne_of_lt hlt) (by rw [size_push']; exact Nat.lt_succ_of_lt hlt)]
      exact Heap.get?_push_of_some _ e
    have hout : out = (out.map refU).map Value.ref := by
      rw [List.map_map]
      conv => lhs; rw [← List.map_id out]
      refine List.map_congr_left fun v hv => ?_
      have hv := h2.perm.mem_iff.mp hv
      rw [eb] at hv
      obtain ⟨t, _, rfl⟩ := List.mem_map.mp hv
      rfl
    have hpm : (out.map refU).Perm bs := by
      have := h2.perm.map refU
      rw [eb, List.map_map] at this
      have e : List.map (refU ∘ Value.ref) bs = bs := by
        conv => rhs; rw [← List.map_id bs]
        exact List.map_congr_left fun _ _ => rfl
      rwa [e] at this
    generalize out.map refU = cs at *
    subst hout
    have hcz : (cs.map V.ref).length ≤ sizeLine := by rw [List.length_map, hpm.length_eq, lb]; omega
    refine wpAny_pure ⟨_, rfl, .ref h'.objs.size, upd H h'.objs.size (.lst (cs.map V.ref)), I0.laid (t' := tk) old (Nat.le_refl _) (show ObjOk X.prog X.w _ _ _ (.lst (cs.map V.ref)) from ⟨hcz, cs.map Value.ref, c, vals_refs cs, hcc⟩), rfl, ?_⟩
    refine q cs (cs.map (keyA H)) _ (paired_map cs fun c hc => k2 c (hpm.mem_iff.mp hc)) ?_ ?_ (I0.hok.fresh (Nat.le_refl _))
    · exact List.pairwise_map.mpr (List.pairwise_map.mp h1)
    · rw [← k1]
      exact hpm.map _
end L2

set_option Elab.async false
/-! comparisons of data within a block: K is named -/
namespace L2
open PySem
theorem hu65 {k : Nat} {A : Around} (r : Room k A) : A.units + 65 < cLine := by have := r.un; omega
section
variable {X : Cx} {K : PySem.W.Frag}
theorem op_inDK (hK : X.K = K) (hu : X.A.units + 65 < cLine) : OpR X (compareOp .In) (rInD K) := by
  subst hK
  exact op_inD hu
theorem op_notInDK (hK : X.K = K) (hu : X.A.units + 65 < cLine) : OpR X (compareOp .NotIn) (rNotInD K) := by
  subst hK
  exact op_notInD hu
theorem op_eqDK (hK : X.K = K) (hu : X.A.units + 64 < cLine) : OpR X (compareOp .Eq) (rEqD K) := by
  subst hK
  exact op_eqD hu
theorem op_neDK (hK : X.K = K) (hu : X.A.units + 64 < cLine) : OpR X (compareOp .NotEq) (rNeD K) := by
  subst hK
  exact op_neD hu
end
end L2

set_option Elab.async false
/-! membership in a list or a tuple of data -/
namespace L2
open PySem PySem.Spec PyProof.Rows
def rInT (K : PySem.W.Frag) : R2 := fun x y H Q => ∃ dx dys, Dp K H x dx ∧ Dp K H y (.tuple dys) ∧ SeqAt.shaped dx = true ∧ SeqAt.shaped (.tuple dys) = true ∧ Q (.bl (dys.any fun z => PyData.eqv z dx)) H
section
variable {X : Cx} {K : PySem.W.Frag}
theorem op_inTK (hK : X.K = K) (room : X.A.units + 65 < cLine) : OpR X (compareOp .In) (rInT K) := by
  subst hK
  rintro pins s σ H x y xv yv Q inv rdx rdy ⟨dx, dys, px, py, shx, shy, go⟩
  obtain ⟨ax, readx⟩ := Dp.reads inv dx x xv px rdx
  obtain ⟨ay, ready⟩ := Dp.reads inv (.tuple dys) y yv py rdy
  refine SeqAt.in_tuple_reads ready readx (SeqAt.canLay_of_shaped shy) (SeqAt.canLay_of_shaped shx) ?_ ⟨.bl _, H, inv, rfl, go⟩
  exact room_in_shaped shx room
theorem op_either {op : Value → Value → Sem Value} {r1 r2 : R2} (h1 : OpR X op r1) (h2 : OpR X op r2) : OpR X op (fun x y H Q => r1 x y H Q ∨ r2 x y H Q) :=
  fun pins s σ H x y v u Q inv rx ry h => h.elim (h1 pins s σ H x y v u Q inv rx ry) (h2 pins s σ H x y v u Q inv rx ry)
end
end L2

set_option Elab.async false
set_option linter.all false
set_option maxRecDepth 100000
set_option maxHeartbeats 4000000
/-! d.items() where the keys are tuples: each pair a new tuple of the key's own tuple and the value -/
namespace L2
open PySem PySem.Spec PyProof.Rows
def ItemT (d : Addr) (o : Obj) (kvs : List (List Key × V)) : It :=
  ⟨fun i H => H d = some (.frz o (.dT kvs)) ∧ i < kvs.length,
    fun i H x H' => ∃ (T : Addr) (k : List Key) (v : V) (q : Addr), kvs[i]? = some (k, v) ∧ x = .ref T ∧ H T = none ∧ H q = some (.tup (k.map kV)) ∧ H' = upd H T (.tup [.ref q, v]),
    fun i H => H d = some (.frz o (.dT kvs)) ∧ kvs.length ≤ i⟩
section
variable {X : Cx} {pins : List (Addr × Obj)} {σ : L2.St} {H : Hp} {s : Shared} {d : Addr} {o : Obj}
/-- the locked dict's entries, keys and values -/
theorem lockedT {kvs : List (List Key × V)} (inv : Inv X pins σ H s) (at_ : H d = some (.frz o (.dT kvs))) :
    (d == sysModules) = false ∧ ∃ (es : Array DictEntry) (ep : Nat), o.data = .dict es ep ∧ s.heap.DictRaw d es ep ∧ es.size = kvs.length ∧
      ∀ (i : Nat) (k : List Key) (v : V), kvs[i]? = some (k, v) → ∃ (hi : i < es.size) (q : Addr), es[i].key = .ref q ∧ H q = some (.tup (k.map kV)) ∧ RelV v es[i].val := by
  obtain ⟨there, lz, notSys, rows, pair, o2, es, ep, ho2, exact_, data_, list_, _⟩ := inv.hok d _ at_
  rw [there] at ho2
  cases ho2
  have n1 : kvs.length = rows.length := Paired.length pair
  have n2 : es.size = rows.length := by
    have := congrArg List.length list_
    rwa [Array.length_toList, List.length_map] at this
  refine ⟨notSys, es, ep, data_, ⟨o, there, exact_, data_⟩, by omega, fun i k v e => ?_⟩
  obtain ⟨row, hrow, e1, e2, e3⟩ := paired_get pair e
  have hi : i < es.size := by
    have := (List.getElem?_eq_some_iff.mp hrow).1
    omega
  have en : es[i] = entryOfKey (tupleKind (mixKind X.prog X.w)) row := by
    have q : es.toList[i]? = some (entryOfKey (tupleKind (mixKind X.prog X.w)) row) := by rw [list_, List.getElem?_map, hrow]; rfl
    rw [Array.getElem?_toList, Array.getElem?_eq_getElem hi] at q
    exact Option.some.inj q
  refine ⟨hi, row.2.1, ?_, e2, ?_⟩
  · rw [en]; rfl
  · rw [en]; exact e3
end
section
variable {P : Program} {w : World} {K : PySem.W.Frag} {d : Addr} {o : Obj} {es : Array DictEntry} {ep : Nat}
theorem turn_itemsT {kvs : List (List Key × V)} {elts : List Expr} {kk : Nat} {tpos : Pos} (it : Addr) (hod : o.data = .dict es ep) (hsz : es.size = kvs.length) :
    Turn P w K (.Tuple elts kk tpos) (ItemT d o kvs) [it] it (fun i h => ∃ a b, IsItemIter h it d i es.size ep a b) where
  mem := List.mem_singleton.mpr rfl
  obj := by
    rintro i h ⟨a, b, at_⟩ c hc
    rw [List.mem_singleton.mp hc]
    exact ⟨_, at_, fun _ z => nomatch z⟩
  keep := by
    rintro i h h' ⟨a, b, at_⟩ k
    exact ⟨a, b, k it (List.mem_singleton.mpr rfl) _ at_⟩
  item := by
    rintro X rfl rfl rfl calm i pins s σ H E inv free ⟨a, b, at_⟩ ⟨lk, lt⟩
    obtain ⟨ns, es2, ep2, dat2, raw, sz, ent⟩ := lockedT inv lk
    obtain ⟨rfl, rfl⟩ := dict_ep hod dat2
    have hkv : kvs[i]? = some kvs[i] := List.getElem?_eq_getElem lt
    generalize hp : kvs[i] = kv at hkv
    obtain ⟨k, v⟩ := kv
    obtain ⟨hi, q, e1, e2, e3⟩ := ent i k v hkv
    have below : it < s.heap.objs.size := Heap.lt_size at_
    refine wpAny_pyNext_items_item_raw at_ raw hi fun h1 out1 tup1 size1 same1 => ?_
    refine ⟨_, rfl, wpAny_letOwnedTupleGo_items (s := { s with heap := h1 }) out1 fun h2 it2 but2 => ?_⟩
    have tup2 : h2.get? s.heap.objs.size = some { cls := .type "tuple", data := .seq #[es2[i].key, es2[i].val] } := (but2.2 _ (Nat.ne_of_gt below)).trans tup1
    have fresh : H s.heap.objs.size = none := inv.hok.fresh (Nat.le_refl _)
    have new : ObjOk X.prog X.w (upd H s.heap.objs.size (.tup [.ref q, v])) h2 s.heap.objs.size (.tup [.ref q, v]) :=
      ⟨show 2 ≤ sizeLine by decide, [es2[i].key, es2[i].val], .cons e1 (.cons e3 .nil), ⟨_, tup2, rfl, _, rfl⟩⟩
    have inv2 := inv.turnedNew (t' := s.toks) (ch := [it]) (fun b ob hb e => (but2.2 b (fun z => hb (List.mem_singleton.mpr z))).trans (same1 b ob (fun z => hb (List.mem_singleton.mpr z)) e)) free (Nat.le_refl _) new
    refine ⟨.ref s.heap.objs.size, _, inv2, rfl, ⟨_, k, v, q, hkv, rfl, fresh, e2, rfl⟩, ⟨_, _, it2⟩, fun b hb => ?_⟩
    rw [List.mem_singleton.mp hb, upd_ne (Nat.ne_of_lt below)]
    exact (free it (List.mem_singleton.mpr rfl)).1
  done := by
    rintro X rfl rfl rfl calm i pins s σ H E inv free ⟨a, b, at_⟩ ⟨lk, ge⟩
    obtain ⟨f0, f1, f2, f3, f4, f5⟩ := free it (List.mem_singleton.mpr rfl)
    obtain ⟨ns, es2, ep2, dat2, raw, sz, ent⟩ := lockedT inv lk
    obtain ⟨rfl, rfl⟩ := dict_ep hod dat2
    exact wpAny_pyNext_items_end_raw (inv.ok.hd calm) at_ raw (by omega) fun h' eb => ⟨rfl, inv.turned (t' := s.toks) (fun b ob hb e => eb b ob hb e) f0 f1 f3 f4 f5⟩
  self := fun A i s Q E st h => by
    obtain ⟨a, b, at_⟩ := st
    exact PySem.W.kcp_self at_ h
end
def iItemT (td : TE) : TI := fun σ H R => td σ H fun x H1 => ∃ d o kvs, x = .ref d ∧ H1 d = some (.frz o (.dT kvs)) ∧ R (ItemT d o kvs) H1
section
variable {X : Cx} {e : Expr} {td : TE} {apos cpos : Pos}
theorem pi_itemsT {elts : List Expr} {kk : Nat} {tpos : Pos} (he : PE X e td) (hbase : attributeBase e "items" X.env (eval e X.env) = eval e X.env := by rfl) (hline : (apos.endLine == cpos.line) = true := by rfl) :
    PI X (.Tuple elts kk tpos) (.Call (.Attribute e "items" apos) [] [] cpos) (iItemT td) := by
  constructor
  intro pins s σ H R inv h
  refine wpAny_Call_method (T := "dict") (id := "dict.items") hbase rfl hline F.plainAttrs_dict F.slot_dict_items F.type_dict_items (thn (he.run pins s σ H _ inv h) fun u s1 hu => ?_)
  obtain ⟨x, H1, inv1, rx, d, o, kvs, rfl, lk, go⟩ := hu
  cases (show u = Value.ref d from rx)
  obtain ⟨ns, es, ep, dat, raw, sz, _⟩ := lockedT inv1 lk
  refine ⟨raw.typeIs, ?_, ?_⟩
  · intro a e
    cases e
    obtain ⟨o', a1, a2, _⟩ := raw
    exact ⟨o', a1, a2.2.1⟩
  have big : Inv X pins σ H1 { s1 with heap := s1.heap.push { cls := .type "dict_items", data := .fields #[.ref d] } } := inv1.kept (t' := s1.toks) fun b ob q => Heap.get?_push_of_some _ q
  have raw2 : ({ s1 with heap := s1.heap.push { cls := .type "dict_items", data := .fields #[.ref d] } } : Shared).heap.DictRaw d es ep := raw.at fun o e => Heap.get?_push_of_some _ e
  have fin : wpAny (model X.prog X.w) X.A (pyIter (.ref s1.heap.objs.size)) (PIE X pins σ (.Tuple elts kk tpos) R) X.xe { s1 with heap := s1.heap.push { cls := .type "dict_items", data := .fields #[.ref d] } } :=
    wpAny_pyIter_items_raw (d := d) ⟨_, Heap.get?_push_size _ rfl, rfl, rfl⟩ raw2 (pi_one (tk := s1.toks) big _ (turn_itemsT _ dat sz) ⟨.none, .none, Heap.get?_push_size _ rfl⟩ go)
  show wpAny _ _ (callWith cpos (.builtin "dict.items") [.ref d] [] []) _ X.xe s1
  exact method_meetsIn F.slot_dict_items F.entry_dict_items rfl (PySem.evalArgs_none ⟨rfl, raw.typeIs, F.args_dict_items_1 _, _, meets_dict_items_raw d ns, ⟨es, ep, raw⟩, fin⟩)
theorem walk_itemsT {d : Addr} {o : Obj} {kvs : List (List Key × V)} : Walk (ItemT d o kvs) kvs.length (fun H => H d = some (.frz o (.dT kvs)))
    (fun i H x H' => ∃ (T : Addr) (k : List Key) (v : V) (q : Addr), kvs[i]? = some (k, v) ∧ x = .ref T ∧ H T = none ∧ H q = some (.tup (k.map kV)) ∧ H' = upd H T (.tup [.ref q, v])) :=
  ⟨fun _ _ lt at_ => ⟨at_, lt⟩, fun _ at_ => ⟨at_, Nat.le_refl _⟩, fun _ _ _ _ _ _ y => y⟩
end
end L2

set_option Elab.async false
set_option linter.all false
set_option maxRecDepth 100000
/-! a dict comprehension over whatever a Walk tells of; an expression whose rule is either of two -/
namespace L2
open PySem PySem.Spec PyProof.Rows
theorem pe_either {X : Cx} {e : Expr} {ta tb : TE} (ha : PE X e ta) (hb : PE X e tb) : PE X e (fun σ H Q => ta σ H Q ∨ tb σ H Q) :=
  ⟨fun pins s σ H Q I h => h.elim (ha.run pins s σ H Q I) (hb.run pins s σ H Q I)⟩
/-- an f-string, as a name of its own -/
def tJ (ts : List TE) : TE := fun σ H Q => tJs ts Str.empty σ H fun out H1 => Q (.str out) H1
theorem pe_joinT {X : Cx} {v1 v2 : Expr} {rest : List Expr} {ts : List TE} {pos : Pos} (h : PJ X (v1 :: v2 :: rest) ts) : PE X (.JoinedStr (v1 :: v2 :: rest) pos) (tJ ts) := pe_joined h
theorem dc_it {J : It} {n : Nat} {G : Hp → Prop} {Y : Nat → Hp → V → Hp → Prop} (w : Walk J n G Y) {g : TG} {tt : TT} {tk tv : TE} {vs : List Nat} {σ : St} {H1 : Hp} {D : Addr} {Qd : Hp → Prop} (Pv : Nat → Hp → Prop)
    (h0 : Pv 0 (upd H1 D (.dK []))) (hG : ∀ i H, i ≤ n → Pv i H → G H) (hs : ∀ i x H H', i < n → Pv i H → Y i H x H' → (g x (wipe σ vs) H' fun σ2 H2 => wipe σ2 vs = wipe σ vs ∧ tt σ2 H2 fun b H3 => if b = true then (tk σ2 H3 fun y H4 => tv σ2 H4 fun z H5 => ∃ kvs k, y = kV k ∧ H5 D = some (.dK kvs) ∧ kvs.length < sizeLine ∧ Pv (i + 1) (upd H5 D (.dK (putK kvs k z)))) else Pv (i + 1) H3)) (hd : ∀ H, Pv n H → Qd H) :
    ∃ W : Nat → Nat → Hp → Prop, (∃ m, W 0 m (upd H1 D (.dK []))) ∧ ∀ i m H, W i m H → (J.stop i H ∧ Qd H) ∨
      (J.go i H ∧ ∃ Nx : Hp → Prop, (∀ H', Nx H' → ∃ m', m' < m ∧ W (i + 1) m' H') ∧ ∀ x H', J.yld i H x H' → (g x (wipe σ vs) H' fun σ2 H2 => wipe σ2 vs = wipe σ vs ∧ tt σ2 H2 fun b H3 => if b = true then (tk σ2 H3 fun y H4 => tv σ2 H4 fun z H5 => ∃ kvs k, y = kV k ∧ H5 D = some (.dK kvs) ∧ kvs.length < sizeLine ∧ Nx (upd H5 D (.dK (putK kvs k z)))) else Nx H3)) := by
  refine ⟨fun i m H => (m = n - i ∧ i ≤ n) ∧ Pv i H, ⟨n, ⟨rfl, Nat.zero_le _⟩, h0⟩, ?_⟩
  rintro i m H ⟨⟨rfl, hi⟩, p⟩
  rcases Nat.lt_or_ge i n with hlt | hge
  · exact .inr ⟨w.goes i H hlt (hG i H hi p), Pv (i + 1), fun H' p' => ⟨n - (i + 1), by omega, ⟨rfl, hlt⟩, p'⟩, fun x H' y => hs i x H H' hlt p (w.yields i H x H' hlt (hG i H hi p) y)⟩
  · have e : n = i := Nat.le_antisymm hge hi
    subst e
    exact .inl ⟨w.stops H (hG _ H hi p), hd H p⟩
end L2

set_option Elab.async false
set_option linter.all false
set_option maxRecDepth 100000
set_option maxHeartbeats 4000000
/-! sets of texts: made of a list, made by a comprehension, in, len, sorted -/
namespace SetX
open PySem PySem.Spec PyProof.Rows L2 PpSet
/-- an entry's text -/
def txt (e : Int × Value) : Str := SrtC.tv e.2
def Ent (w : World) (e : Int × Value) : Prop := ∃ k tk, e.2 = Value.str k tk ∧ e.1 = hashStr w k
/-- the set of texts at a: S its members, n their number -/
structure At (w : World) (h : Heap) (a : Addr) (S : Str → Bool) (n : Nat) (o : Obj) (es : Array (Int × Value)) (ep : Nat) (t : SetTable) : Prop where
  get : h.get? a = some o
  ex : o.ExactSet
  dat : o.data = .set es ep t
  ent : ∀ e ∈ es.toList, Ent w e
  nd : (es.toList.map txt).Nodup
  mem : ∀ k, S k = true ↔ k ∈ es.toList.map txt
  room : es.size < scanBound
  fit : t.fits es.size = true
  num : es.size = n
  ris : Ris t.place.toList
  led : w.params.followText "set-order" = true ∨ t.led = true
def SetS (w : World) (h : Heap) (a : Addr) (S : Str → Bool) (n : Nat) : Prop := ∃ o es ep t, At w h a S n o es ep t
section
variable {P : Program} {w : World} {h h' : Heap} {a : Addr} {S S' : Str → Bool} {n : Nat}
theorem SetS.keep (R : SetS w h a S n) (k : ∀ o, h.get? a = some o → h'.get? a = some o) : SetS w h' a S n := by
  obtain ⟨o, es, ep, t, r⟩ := R
  exact ⟨o, es, ep, t, { r with get := k o r.get }⟩
theorem SetS.congr (R : SetS w h a S n) (e : ∀ k, S' k = S k) : SetS w h a S' n := by
  have q : S' = S := funext e
  rw [q]; exact R
theorem str_is (k : Str) (u : Tok) : (strKind P w).is k (.str k u) = true := by
  show Value.isStrOf k (.str k u) = true
  simp [Value.isStrOf]
theorem elems {l : List (Int × Value)} (g : ∀ e ∈ l, Ent w e) : ElemsOf (strKind P w) l := fun e he => by
  obtain ⟨k, tk, h1, h2⟩ := g e he
  exact ⟨⟨k, by rw [h1]; exact str_is k tk, h2⟩, by rw [h1] <;> rfl⟩
theorem ent_is {e : Int × Value} (g : Ent w e) (k : Str) : (strKind P w).is k e.2 = true ↔ txt e = k := by
  obtain ⟨k0, tk, h1, _⟩ := g
  unfold txt
  rw [h1]
  constructor
  · intro q
    exact (strKind P w).inj (.str k0 tk) k0 k (str_is k0 tk) q
  · intro q
    have q : k0 = k := q
    rw [← q]
    exact str_is k0 tk
theorem ent_mem {l : List (Int × Value)} (g : ∀ e ∈ l, Ent w e) (k : Str) : k ∈ l.map txt ↔ ∃ e ∈ l, (strKind P w).is k e.2 = true := by
  rw [List.mem_map]
  exact ⟨fun ⟨e, he, q⟩ => ⟨e, he, (ent_is (g e he) k).2 q⟩, fun ⟨e, he, q⟩ => ⟨e, he, (ent_is (g e he) k).1 q⟩⟩
theorem SetS.of (R : SetS w h a S n) : h.SetOf (strKind P w) a S n := by
  obtain ⟨o, es, ep, t, r⟩ := R
  exact ⟨o, es, ep, t, r.get, r.ex, r.dat, elems r.ent, fun k => (r.mem k).trans (ent_mem r.ent k), r.room, r.fit, r.num⟩
end
section
variable {P : Program} {w : World} {A : Around} {E : Value → Shared → Prop} {s : Shared} {a : Addr} {S : Str → Bool} {n : Nat}
theorem add_tail {g : Bool → Sem Unit} (hg : ∀ (b : Bool) (s₁ : Shared) (Q' : Unit → Shared → Prop), Q' () s₁ → wpAny (model P w) A (g b) Q' E s₁)
    {o : Obj} {es : Array (Int × Value)} {ep : Nat} {t : SetTable} (ho : s.heap.get? a = some o) (hex : o.ExactSet) (hd : o.data = .set es ep t)
    {es1 : Array (Int × Value)} {t2 : SetTable} {S' : Str → Bool} (g1 : ∀ e ∈ es1.toList, Ent w e) (nd1 : (es1.toList.map txt).Nodup) (m1 : ∀ k, S' k = true ↔ k ∈ es1.toList.map txt)
    (hb1 : es1.size < scanBound) (hf2 : t2.fits es1.size = true) (hr : Ris t2.place.toList) (hl : w.params.followText "set-order" = true ∨ t2.led = true) {wasDummy : Bool} {R : Option Bool → Shared → Prop}
    (hR : ∀ h', Heap.SameBut a s.heap h' → SetS w h' a S' es1.size → R (some true) { s with heap := h' }) :
    wpAny (model P w) A (do
        storeSet a es1 t2
        if (!wasDummy && t2.tooFull) = true then do
            g (relayAll t2 es1 (SetTable.grown es1.size)).2.2
            storeSet a (relayAll t2 es1 (SetTable.grown es1.size)).1 (relayAll t2 es1 (SetTable.grown es1.size)).2.1
            pure (some true)
          else pure (some true)) R E s := by
  have ho1 := storeB_at (es' := es1) (t' := t2) ho hd
  have sb1 := Heap.SameBut.update s.heap a (Obj.putSet es1 t2)
  refine wpAny_bind (wpAny_storeSet_of ho hd ?_ (fits_of_scanBound hb1))
  by_cases full : (!wasDummy && t2.tooFull) = true
  · rw [if_pos full]
    have pm := relayAll_perm t2 es1 (SetTable.grown es1.size)
    have hf3 := relayAll_fits t2 es1 (SetTable.grown es1.size)
    have hr3 := relayAll_ris t2 es1 (SetTable.grown es1.size)
    have hl3 := relayAll_led t2 es1 (SetTable.grown es1.size)
    generalize relayAll t2 es1 (SetTable.grown es1.size) = Z at pm hf3 hr3 hl3 ⊢
    obtain ⟨es2, t3, gave⟩ := Z
    dsimp only at pm hf3 hr3 hl3 ⊢
    have hsz : es2.size = es1.size := by simpa using pm.length_eq
    have hb2 : es2.size < scanBound := hsz ▸ hb1
    refine wpAny_bind (hg _ _ _ (wpAny_bind (wpAny_storeSet_of ho1 rfl ?_ (fits_of_scanBound hb2))))
    have ho2 := storeB_at (es' := es2) (t' := t3) ho1 rfl
    refine wpAny_pure (hR _ (sb1.trans (Heap.SameBut.update _ a _)) ?_)
    refine ⟨_, es2, _, t3, ho2, hex, rfl, ?_, ?_, ?_, ?_, ?_, ?_, ?_, ?_⟩
    · exact fun e he => g1 e (pm.mem_iff.mp he)
    · exact (pm.map txt).nodup_iff.mpr nd1
    · exact fun k => (m1 k).trans (pm.map txt).mem_iff.symm
    · exact hb2
    · exact hf3
    · exact hsz
    · exact hr3
    · exact hl.imp id fun z => by rw [hl3]; exact z
  · rw [if_neg full]
    exact wpAny_pure (hR _ sb1 ⟨_, es1, _, t2, ho1, hex, rfl, g1, nd1, m1, hb1, hf2, rfl, hr, hl⟩)
theorem add_hashed {k : Str} {tk : Tok} {Q : Bool → Shared → Prop} (R : SetS w s.heap a S n) (room : n + 1 < scanBound)
    (hQ : ∀ h', Heap.SameBut a s.heap h' → SetS w h' a (fun j => S j || decide (j = k)) (if S k = true then n else n + 1) → Q (!S k) { s with heap := h' }) :
    wpAny (model P w) A (setAddHashed a (.str k tk) (hashStr w k)) Q E s := by
  obtain ⟨o, es, ep, t, r⟩ := R
  have hel : ElemsOf (strKind P w) es.toList := elems r.ent
  have hsc : (Value.str k tk).scannable = true := rfl
  have hkey : (strKind P w).is k (.str k tk) = true := str_is k tk
  unfold setAddHashed setAddHashedIn
  refine wpAny_holding (wpAny_bind (wpAny_setState_of r.get r.dat r.fit ?_))
  dsimp only
  rw [byScan_of hsc r.room hel]
  simp only [↓reduceIte]
  unfold setAddByScan
  refine wpAny_bind (wpAny_bind (wpAny_rule (wpAny_bind (wpAny_setScan_of hkey r.get r.dat r.fit hel ?_))))
  cases hfi : List.findIdx? (fun e => (strKind P w).is k e.2) es.toList with
  | some j =>
    dsimp only
    obtain ⟨hj, pj, _⟩ := List.findIdx?_eq_some_iff_getElem.mp hfi
    have hSk : S k = true := (r.mem k).2 ((ent_mem (P := P) r.ent k).2 ⟨es.toList[j], List.getElem_mem hj, pj⟩)
    refine wpAny_pure (wpAny_pure ?_)
    have hm : ∀ i, (S i || decide (i = k)) = true ↔ i ∈ es.toList.map txt := fun i => by
      rw [Bool.or_eq_true, decide_eq_true_eq, ← r.mem i]
      exact ⟨fun z => z.elim id (fun e => e ▸ hSk), .inl⟩
    have hn : es.size = if S k = true then n else n + 1 := by
      rw [if_pos hSk]
      exact r.num
    have q := hQ s.heap (Heap.SameBut.refl a s.heap) ⟨o, es, ep, t, r.get, r.ex, r.dat, r.ent, r.nd, hm, r.room, r.fit, hn, r.ris, r.led⟩
    rw [hSk] at q
    exact q
  | none =>
    dsimp only
    have hnk : k ∉ es.toList.map txt := fun z => by
      obtain ⟨e, he, q⟩ := (ent_mem (P := P) r.ent k).1 z
      have c := List.findIdx?_eq_none_iff.mp hfi e he
      rw [q] at c
      cases c
    have hSk : S k = false := by
      cases q : S k with
      | false => rfl
      | true => exact absurd ((r.mem k).1 q) hnk
    have hgw : ∀ (b : Bool) {s₁ : Shared} {Q' : Unit → Shared → Prop}, Q' () s₁ → wpAny (model P w) A (match b with | true => rule "set.scan.the-table-gave-way" | false => pure ()) Q' E s₁ :=
      fun b s₁ Q' q => by cases b <;> first | exact wpAny_pure q | exact wpAny_rule q
    have pm := layNew_perm t es (hashStr w k) (.str k tk)
    have hf1 := layNew_fits t es (hashStr w k) (.str k tk)
    have hr1 := layNew_ris t es (hashStr w k) (.str k tk) r.ris
    have hl1 := layNew_led t es (hashStr w k) (.str k tk)
    show wpAny _ _ _ _ _ _
    have eh : (strKind P w).hash k = hashStr w k := rfl
    generalize layNew t es (hashStr w k) (.str k tk) = Z at pm hf1 hr1 hl1 ⊢
    obtain ⟨es1, t1, wasDummy, gave⟩ := Z
    dsimp only at pm hf1 hr1 hl1 ⊢
    rw [Array.toList_push] at pm
    have pc : es1.toList.Perm ((hashStr w k, Value.str k tk) :: es.toList) := pm.trans (List.perm_append_singleton _ _)
    have pk : (es1.toList.map txt).Perm (k :: es.toList.map txt) := pc.map txt
    have hsz : es1.size = n + 1 := by
      have := pc.length_eq
      rw [List.length_cons, Array.length_toList, Array.length_toList, r.num] at this
      exact this
    have hb1 : es1.size < scanBound := hsz ▸ room
    have g1 : ∀ e ∈ es1.toList, Ent w e := fun e he => by
      rcases List.mem_cons.mp (pc.mem_iff.mp he) with z | z
      · rw [z]; exact ⟨k, tk, rfl, rfl⟩
      · exact r.ent e z
    have nd1 : (es1.toList.map txt).Nodup := pk.nodup_iff.mpr (List.nodup_cons.mpr ⟨hnk, r.nd⟩)
    have m1 : ∀ i, (S i || decide (i = k)) = true ↔ i ∈ es1.toList.map txt := fun i => by
      rw [Bool.or_eq_true, decide_eq_true_eq, r.mem i, pk.mem_iff, List.mem_cons]
      exact Or.comm
    have hled : w.params.followText "set-order" = true ∨ t1.led = true := r.led.imp id fun z => by rw [hl1]; exact z
    have fin : ∀ h', Heap.SameBut a s.heap h' → SetS w h' a (fun j => S j || decide (j = k)) es1.size → Q true { s with heap := h' } := fun h' sb r => by
      have q := hQ h' sb
      rw [hSk] at q
      rw [hsz] at r
      exact q r
    refine wpAny_bind (hgw _ ?_)
    split
    · refine wpAny_bind ?_
      rw [hashByValue_scannable 8 hsc]
      refine wpAny_pure (add_tail ?_ r.get r.ex r.dat g1 nd1 m1 hb1 ?_ ?_ ?_ ?_)
      · intro b s₁ Q' q; cases b <;> first | exact wpAny_pure q | exact wpAny_rule q
      · first | (split <;> first | exact hf1 | exact SetTable.fits_plain_off hf1) | exact hf1
      · first | (split <;> exact hr1) | exact hr1
      · first | (split <;> exact hled) | exact hled
      · intro h' sb r; dsimp only; exact wpAny_pure (fin h' sb r)
    · refine wpAny_bind (wpAny_pure ?_)
      simp only [↓reduceIte]
      refine add_tail ?_ r.get r.ex r.dat g1 nd1 m1 hb1 hf1 hr1 hled ?_
      · intro b s₁ Q' q; cases b <;> first | exact wpAny_pure q | exact wpAny_rule q
      · intro h' sb r; dsimp only; exact wpAny_pure (fin h' sb r)
theorem add_call {k : Str} {tk : Tok} {Q : Value → Shared → Prop} (R : SetS w s.heap a S n) (room : n + 1 < scanBound)
    (hQ : ∀ h', Heap.SameBut a s.heap h' → SetS w h' a (fun j => S j || decide (j = k)) (if S k = true then n else n + 1) → Q .none { s with heap := h', toks := s.toks + 1 }) :
    wpAny (model P w) A (call (.builtin "set.add") [.ref a, .str k tk]) Q E s := by
  have hS : s.heap.SetOf (strKind P w) a S n := R.of
  refine wpAny_call_entry F.slot_set_add hS.typeIs F.entry_set_add ?_ (F.args_set_add_2 _ _)
  unfold Builtin.«set.add» Builtin.Frozenset.oneOther
  simp only [List.isEmpty_nil, bind_assoc]
  unfold Builtin.Frozenset.addrOf setAdd
  refine wpAny_bind (wpAny_pure ?_)
  try dsimp only
  refine wpAny_bind (wpAny_pure ?_)
  try dsimp only
  refine wpAny_bind (wpAny_holding (wpAny_bind ((strKind P w).pyHash (str_is k tk) ?_)))
  refine add_hashed (s := { s with toks := s.toks + 1 }) R room fun h' sb r => ?_
  show wpAny _ _ (ret Value.none) _ _ _
  exact wpAny_pure ⟨_, rfl, hQ h' sb r⟩
theorem led0 (w : World) : w.params.followText "set-order" = true ∨ (SetTable.fresh 0 0 (!w.params.followText "set-order")).led = true := by
  show _ ∨ (!w.params.followText "set-order") = true
  cases w.params.followText "set-order"
  · exact .inr rfl
  · exact .inl rfl
theorem fresh {h : Heap} {a : Addr} (w : World) (ho : h.get? a = some { cls := .type "set", dict := none, data := .set #[] 0 (.fresh 0 0 (!w.params.followText "set-order")) }) : SetS w h a (fun _ => false) 0 :=
  ⟨_, #[], 0, _, ho, ⟨rfl, rfl, rfl⟩, rfl, (fun e he => by simp at he), (by simp), (fun k => by simp), (by decide), (by rfl), rfl, List.Pairwise.nil, led0 w⟩
/-! ### set(a list of texts) -/
theorem upd_loop {I : Addr} {fp wr : List Addr} {G : Array GenState → Array GenState → Prop} {m : Nat} {Pv : Nat → Value → Prop} {St : Nat → Shared → Prop} {R : Result → Shared → Prop}
    (W : WalksS P w A.in1 I fp wr G m Pv St) (D : Addr) (hDf : D ∉ fp) (ss : List Str) (hn : m = ss.length) (hb : ss.length + 1 < scanBound) (hval : ∀ i v, Pv i v → ∃ k t, ss[i]? = some k ∧ v = .str k t) :
    ∀ (k i : Nat) (s : Shared), m - i = k → i ≤ m → St i s → (∃ c, c ≤ i ∧ SetS w s.heap D (fun j => decide (j ∈ ss.take i)) c) →
      (∀ s' c, Moved (D :: wr) G s s' → c ≤ m → SetS w s'.heap D (fun j => decide (j ∈ ss)) c → R (.ok (.ret .none)) s') →
      codeAny (model P w) A (.builtin "set.update.loop" ⟨[.ref D, .ref I], []⟩) R s := by
  have hDw : D ∉ wr := fun h => hDf (W.sub _ h)
  have more : ∀ b ∈ wr, b ∈ D :: wr := fun b hb => List.mem_cons_of_mem _ hb
  intro k
  induction k with
  | zero =>
    rintro i s hk' hi hst ⟨c, hc, hS⟩ hR
    obtain rfl : i = m := by omega
    refine codeAny_builtin F.entry_set_update_loop ?_
    rw [Around.under_plainId F.plain_set_update_loop _]
    show wpAny _ A.in1 (pyNext (.ref I) >>= _) _ _ s
    refine wpAny_bind (W.done s _ _ hst fun s' hm => ?_)
    show wpAny _ A.in1 (ret Value.none) _ _ s'
    rw [List.take_of_length_le (show ss.length ≤ i by omega)] at hS
    exact wpAny_pure (hR s' c (hm.mono more) hc (hS.keep fun o e => hm.heap D o hDw e))
  | succ k ih =>
    rintro i s hk' hi hst ⟨c, hc, hS⟩ hR
    have hlt : i < m := by omega
    refine codeAny_builtin F.entry_set_update_loop ?_
    rw [Around.under_plainId F.plain_set_update_loop _]
    show wpAny _ A.in1 (pyNext (.ref I) >>= _) _ _ s
    refine wpAny_bind (W.item i s _ _ hlt hst fun v s' hP hst' hm => ?_)
    obtain ⟨z, t, hz, rfl⟩ := hval i v hP
    have hS' : SetS w s'.heap D (fun j => decide (j ∈ ss.take i)) c := hS.keep fun o e => hm.heap D o hDw e
    show wpAny _ A.in1 (holding [Value.str z t] (setAdd D (.str z t)) >>= _) _ _ s'
    refine wpAny_bind (wpAny_holding ?_)
    unfold setAdd
    refine wpAny_holding (wpAny_bind ((strKind P w).pyHash (k := z) (str_is _ _) ?_))
    refine add_hashed (s := { s' with toks := s'.toks + 1 }) hS' (by omega) fun h' hsb hS2 => ?_
    have hS3 : SetS w h' D (fun j => decide (j ∈ ss.take (i + 1))) (if decide (z ∈ ss.take i) = true then c else c + 1) := hS2.congr fun j => by
      rw [List.take_add_one, hz]
      simp [List.mem_append]
    have hc3 : (if decide (z ∈ ss.take i) = true then c else c + 1) ≤ i + 1 := by
      split <;> omega
    refine wpAny_pure ⟨plainId_quiet F.plain_set_update_loop _, ih (i + 1) _ (by omega) hlt (W.frame _ s' _ _ hst' (Nat.le_succ _) fun b hb o e => ?_) ⟨_, hc3, hS3⟩ fun s'' c2 hm'' hc'' hS'' => ?_⟩
    · rw [hsb.2 b (fun h : b = D => hDf (by rw [← h]; exact hb))]; exact e
    · refine hR s'' c2 (Moved.trans W.gtrans ((hm.mono more).then_heap (Nat.le_succ _) fun b o hb e => ?_) hm'') hc'' hS''
      rw [hsb.2 b (fun h : b = D => hb (by rw [h]; exact List.mem_cons_self))]; exact e
theorem strs_get : ∀ {us : List Value} {ss : List Str}, StrsAre us ss → ∀ {i : Nat} {v : Value}, us[i]? = some v → ∃ k t, ss[i]? = some k ∧ v = .str k t
  | _, _, .nil, i, v, h => by simp at h
  | _, _, .cons x t r, 0, v, h => by
    obtain rfl := Option.some.inj h
    exact ⟨x, t, rfl, rfl⟩
  | _, _, .cons x t r, i + 1, v, h => strs_get r (i := i) h
theorem slen : ∀ {vs : List Value} {ss : List Str}, StrsAre vs ss → vs.length = ss.length
  | _, _, .nil => rfl
  | _, _, .cons _ _ r => congrArg (· + 1) (slen r)
/-- a new empty set -/
abbrev newO (w : World) : Obj := { cls := .type "set", dict := none, data := .set #[] 0 (.fresh 0 0 (!w.params.followText "set-order")) }
set_option maxHeartbeats 6400000 in
theorem call_list {l : Addr} {items : Array Value} (ss : List Str) {Q : Value → Shared → Prop} (hh : A.handled = none) (hl : s.heap.IsList l items) (hit : StrsAre items.toList ss) (hb : ss.length + 1 < scanBound)
    (h : ∀ (h' : Heap) (tk c : Nat), SetS w h' s.heap.objs.size (fun j => decide (j ∈ ss)) c → c ≤ ss.length → (∀ b o, s.heap.get? b = some o → h'.get? b = some o) → Q (.ref s.heap.objs.size) { s with heap := h', toks := tk }) :
    wpAny (model P w) A (call (.type "set") [.ref l]) Q E s := by
  have hisz : items.size = ss.length := by rw [← slen hit, Array.length_toList]
  obtain ⟨c, tl, hmro⟩ := F.called_set.mro
  have hmade := F.called_set.made
  have hsub := F.called_set.sub
  have h1 := F.called_set.notType
  have h2 := F.called_set.canCreate
  have hct := F.typeCall_set_1 (.ref l)
  refine wpAny_call (codeAny_of_tree ?_)
  show wpAny _ _ (callAny (.type "set") _) _ _ _
  refine wpAny_pure ⟨Code.quiet_builtin _ (by decide +kernel), codeAny_builtin F.entry_type_call ?_⟩
  rw [Around.under_plain (weight_type_call_type "set" [.ref l] []) rfl]
  repeat (any_goals (first | assumption | wp_step))

  refine codeAny_mono (code_set_led1 (.ref l) (E := E) (Q₁ := fun obj s₁ => obj = .ref s.heap.objs.size ∧ s₁ = { s with heap := s.heap.push (newO w) }) ⟨rfl, rfl⟩) fun r s₁ hr => ?_
  cases r with
  | error e => exact hr
  | ok fl =>
    cases fl with
    | ret obj =>
      obtain ⟨rfl, rfl⟩ := hr
      have hS : (s.heap.push (newO w)).get? s.heap.objs.size = some (newO w) := Heap.get?_push_size _ rfl
      have hT : Shared.TypeIs { s with heap := s.heap.push (newO w) } (.ref s.heap.objs.size) "set" := ⟨_, hS, rfl⟩
      have hli := F.called_set.init.lookup
      have hbi := F.called_set.init.bind (.ref s.heap.objs.size)
      repeat (any_goals (first | assumption | wp_step))

      refine codeAny_mono (codeAny_call_builtin (R := wants (fun r s₂ => r = .none ∧ ∃ h' tk c, s₂ = { s with heap := h', toks := tk } ∧ SetS w h' s.heap.objs.size (fun j => decide (j ∈ ss)) c ∧ c ≤ ss.length ∧
          (∀ b o, s.heap.get? b = some o → h'.get? b = some o)) E) F.called_set.init.plain F.entry_set_init (check_set_init_1 hT ?_)) fun r₂ s₂ hr₂ => ?_
      · obtain ⟨ol, hol, hcl, nl, hdl⟩ := hl
        obtain ⟨ocls, odict, odata, oslots⟩ := ol
        simp only at hcl hdl
        subst hcl; subst hdl
        have hol' : (s.heap.push (newO w)).get? l = some { cls := .type "list", dict := odict, data := .seq items nl, slots := oslots } := Heap.get?_push_of_some _ hol
        have hsls := F.sub_list_set
        have hslf := F.sub_list_frozenset
        have hne : (Value.type "list" == Value.type "dict") = false := by decide
        have hl1 : (s.heap.push (newO w)).IsList l items := ⟨_, hol', rfl, nl, rfl⟩
        unfold Builtin.«set.__init__» noKeywords Builtin.Frozenset.updateFrom
        generalize hPI : pyIter = PI
        wp_walk
        subst hPI

        refine wpAny_pyIter_list hl1 ?_
        refine wpAny_bind (wpAny_runValue ?_)
        have hlS : l < s.heap.objs.size := Heap.lt_size hol
        have hh3 : A.in1.in1.in1.handled = none := by simp [hh]
        have hneI : l ≠ (s.heap.push (newO w)).objs.size := by
          rw [Heap.size_push]; exact Nat.ne_of_lt (Nat.lt_succ_of_lt hlS)
        have hSf : s.heap.objs.size ∉ [(s.heap.push (newO w)).objs.size, l] := by
          rw [Heap.size_push]; simp only [List.mem_cons, List.mem_singleton, List.not_mem_nil, or_false, not_or]
          exact ⟨Nat.ne_of_lt (Nat.lt_succ_self _), Nat.ne_of_gt hlS⟩
        have hval : ∀ (i : Nat) (v : Value), items[i]? = some v → ∃ k t, ss[i]? = some k ∧ v = .str k t := fun i v hv => strs_get hit (by rw [Array.getElem?_toList]; exact hv)
        refine upd_loop ((Walks.list hh3 _ l hneI items).toS) s.heap.objs.size
          hSf ss hisz hb hval (items.size - 0) 0 _ (by omega) (Nat.zero_le _)
          ⟨⟨_, Heap.get?_push_size _ rfl, rfl, rfl⟩, (hl1.push _)⟩ ?hS0 ?hR
        case hS0 =>
          have hget : ((s.heap.push (newO w)).push { cls := .type "list_iterator", data := .fields #[.ref l, .int 0 0] }).get? s.heap.objs.size = some (newO w) := Heap.get?_push_of_some _ hS
          exact ⟨0, Nat.le_refl 0, (fresh w hget).congr fun j => by simp⟩
        case hR =>
          intro s' c' hm hc' hS'
          obtain ⟨h', g2, d', tk', os'⟩ := s'
          obtain rfl : g2 = s.gens := hm.gens
          obtain rfl : d' = s.drawn := hm.drawn
          obtain rfl : os' = s.os := hm.os
          show wpAny _ _ _ _ _ _
          refine wpAny_pure ?_
          show wpAny _ _ (ret Value.none) _ _ _
          rw [hisz] at hc'
          refine wpAny_pure ⟨rfl, h', tk', c', rfl, hS', hc', fun b o e => ?_⟩
          have hb0 : b < s.heap.objs.size := Heap.lt_size e
          have hb1 : b ≠ s.heap.objs.size := Nat.ne_of_lt hb0
          have hb2 : b ≠ (s.heap.push (newO w)).objs.size := by
            rw [Heap.size_push]; exact Nat.ne_of_lt (Nat.lt_succ_of_lt hb0)
          exact hm.heap b o (by simp only [List.mem_cons, List.mem_singleton, List.not_mem_nil, or_false, not_or]; exact ⟨hb1, hb2⟩) (Heap.get?_push_of_some _ (Heap.get?_push_of_some _ e))

      · cases r₂ with
        | error e => exact hr₂
        | ok fl₂ =>
          cases fl₂ with
          | ret r =>
            obtain ⟨rfl, h', tk, c', rfl, hS', hc', hk'⟩ := hr₂
            repeat (any_goals (first | assumption | wp_step))
            exact h _ _ _ hS' hc' hk'
          | _ => exact hr₂.elim
    | _ => exact hr.elim
/-! ### sorted(a set of texts) -/
theorem sorted_set {Q : Value → Shared → Prop} (R : SetS w s.heap a S n) (hh : A.handled = none) (hn4 : n ≤ 100000)
    (hQ : ∀ s' p (out : Array Value) (c : Nat) (ss : List Str), (∀ b o, s.heap.get? b = some o → s'.heap.get? b = some o) → s'.gens = s.gens → s'.os = s.os → s.heap.objs.size ≤ p →
      s'.heap.get? p = some (seqObj "list" out c) → StrsAre out.toList ss → SrtC.Asc ss → ss.Nodup → (∀ k, k ∈ ss ↔ S k = true) → ss.length = n → Q (.ref p) s') :
    wpAny (model P w) A (call (.builtin "sorted") [.ref a]) Q E s := by
  obtain ⟨o, es, ep, t, r⟩ := R
  refine Calls.call_function_entry kind_sorted plain_sorted entry_sorted (args_sorted1 _) ?_
  unfold Builtin.«sorted»
  refine wpAny_bind (m := checkCount "sorted" 1 1 _) (wpAny_pure ?_)
  refine wpAny_bind (collect_set (A := A.in1) hh ⟨o, r.get, r.ex.1, r.dat⟩ r.fit r.room r.ris r.led fun s1 vs k1 hz g1 o1 pm => ?_)
  have hvl : vs.length = n := by rw [pm.length_eq, List.length_map, Array.length_toList]; exact r.num
  have hI : StrsAre vs (vs.map SrtC.tv) := SrtC.strs_tv fun v hv => by
    obtain ⟨e, he, q⟩ := List.mem_map.mp (pm.mem_iff.mp hv)
    obtain ⟨k, tk, h1, _⟩ := r.ent e he
    exact ⟨k, tk, by rw [← q]; exact h1⟩
  have pk : (vs.map SrtC.tv).Perm (es.toList.map txt) := by
    have q := pm.map SrtC.tv
    rw [List.map_map] at q
    exact q
  have hvz : vs.length ≤ sizeLine := by rw [hvl, sizeLine_eq]; omega
  refine wpAny_bind (wpAny_newList ?_ hvz)
  have hoL : (s1.heap.push (seqObj "list" vs.toArray 0)).get? s1.heap.objs.size = some (seqObj "list" vs.toArray 0) := Heap.get?_push_size _ rfl
  refine wpAny_bind (wpAny_holding (wpAny_call_entry slot_list_sort ⟨_, hoL, rfl⟩ entry_list_sort (SrtO.list_sort_ord SrtC.swo_tv hoL hvz (fun h2 => SrtC.strs_sortable hI h2) fun out h1 h2 => ⟨.none, rfl, ?_⟩) (args_list_sort _)))
  obtain ⟨a1, a2, a3⟩ := SrtC.strs_out hI h1 h2
  obtain ⟨c, hc⟩ := sortedHeap_at (vs := vs) (out := out.toArray) hoL
  have pn : (out.map SrtC.tv).Perm (es.toList.map txt) := a2.trans pk
  refine wpAny_pure ⟨_, rfl, hQ _ s1.heap.objs.size out.toArray c (out.map SrtC.tv) (fun b u e => ?_) g1 o1 hz hc a1 a3 (pn.nodup_iff.mpr r.nd) (fun k => by rw [pn.mem_iff, ← r.mem k]) ?_⟩
  · have q := k1 b u e
    have hlt := Heap.lt_size q
    show (sortedHeap (s1.heap.push (seqObj "list" vs.toArray 0)) s1.heap.objs.size vs out.toArray).get? b = some u
    rw [sortedHeap_old (Nat.ne_of_lt hlt) (by rw [size_push']; exact Nat.lt_succ_of_lt hlt)]
    exact Heap.get?_push_of_some _ q
  · rw [pn.length_eq, List.length_map, Array.length_toList]; exact r.num
end
end SetX
namespace L2
open PySem PySem.Spec PyProof.Rows SetX
/-- the set of texts at a -/
def SetSO (w : World) (a : Addr) (S : Str → Bool) (n : Nat) : HO := .ext fun h => SetS w h a S n
theorem setSO_new {w : World} {P : Program} {H : Hp} {h : Heap} {a : Addr} {S : Str → Bool} {n : Nat} (R : SetS w h a S n) : ObjOk P w H h a (SetSO w a S n) :=
  ⟨R, let ⟨o, _, _, _, r⟩ := R; ⟨o, r.get⟩, fun _ _ p k => SetS.keep p k⟩
section
variable {X : Cx}
theorem setSO_get {pins : List (Addr × Obj)} {σ : St} {H : Hp} {s : Shared} {a : Addr} {S : Str → Bool} {n : Nat} (I : Inv X pins σ H s) (ha : H a = some (SetSO X.w a S n)) : SetS X.w s.heap a S n := (I.hok a _ ha).1
/-- set(xs), xs a list of texts -/
def rSetTx (K : PySem.W.Frag) (w : World) : List V → Hp → VK → Prop := fun vs H Q => ∃ (l : Addr) (ss : List Str), vs = [V.ref l] ∧ SqL K H l (ss.map V.str) ∧ ss.length ≤ 4000 ∧
  ∀ (p : Addr) (c : Nat), H p = none → c ≤ ss.length → Q (.ref p) (upd H p (SetSO w p (fun j => decide (j ∈ ss)) c))
theorem cr_setTx (hc : X.calm = true) : CallR X (.type "set") (rSetTx X.K X.w) := by
  intro pins s σ H vs us Q I r h
  obtain ⟨l, ss, rfl, hs, hn, q⟩ := h
  obtain ⟨its, rv, hl, hz⟩ := I.list hs
  rw [Vals.ref1 r]
  have hI := strs_of_vals' rv
  refine call_list ss (I.ok.hd hc) hl.isList (by simpa using hI) (by unfold scanBound; omega) fun h' tk c R hc' k => ?_
  have hp := I.hok.fresh (Nat.le_refl s.heap.objs.size)
  exact ⟨.ref _, upd H s.heap.objs.size (SetSO X.w s.heap.objs.size (fun j => decide (j ∈ ss)) c), I.laid (t' := tk) k (Nat.le_refl _) (setSO_new R), rfl, q _ c hp hc'⟩
/-- sorted(a set of texts) -/
def rSortedSetS (w : World) : List V → Hp → VK → Prop := fun vs H Q => ∃ (a : Addr) (S : Str → Bool) (n : Nat), vs = [V.ref a] ∧ H a = some (SetSO w a S n) ∧ n ≤ 100000 ∧
  ∀ (ss : List Str) (p : Addr), SrtC.Asc ss → ss.Nodup → (∀ k : Str, k ∈ ss ↔ S k = true) → ss.length = n → H p = none → Q (.ref p) (upd H p (.lst (ss.map V.str)))
theorem cr_sortedSetS (hc : X.calm = true) : CallR X (.builtin "sorted") (rSortedSetS X.w) := by
  intro pins s σ H vs us Q I r h
  obtain ⟨a, S, n, rfl, ha, hn, q⟩ := h
  rw [Vals.ref1 r]
  refine SetX.sorted_set (setSO_get I ha) (I.ok.hd hc) hn fun s' p out c ss k g o hp hg hi hs hnd hm hl => ?_
  have hlen : (ss.map V.str).length ≤ sizeLine := by rw [List.length_map, hl, sizeLine_eq]; omega
  have hpn : H p = none := I.hok.fresh hp
  have J : Inv X pins σ (upd H p (.lst (ss.map V.str))) { s with heap := s'.heap, gens := s'.gens, drawn := s'.drawn, toks := s'.toks } :=
    I.call (ch := []) (Un.laid k hp hpn) (I.hok.laid k hp ⟨hlen, out.toList, c, vals_of_strs hi, hg⟩) (by rw [g]; exact I.bare) (fun _ z => nomatch z)
  have e : s' = { s with heap := s'.heap, gens := s'.gens, drawn := s'.drawn, toks := s'.toks } := by
    cases s'
    cases s
    cases o
    rfl
  rw [e]
  exact ⟨.ref p, _, J, rfl, q ss p hs hnd hm hl hpn⟩
/-- len(a set of texts) -/
def rLenSetS (w : World) : List V → Hp → VK → Prop := fun vs H Q => ∃ (a : Addr) (S : Str → Bool) (n : Nat), vs = [V.ref a] ∧ H a = some (SetSO w a S n) ∧ n ≤ 100000 ∧
  ∀ ss : List Str, ss.Nodup → (∀ k : Str, k ∈ ss ↔ S k = true) → ss.length = n → Q (.int n) H
theorem cr_lenSetS : CallR X (.builtin "len") (rLenSetS X.w) := by
  intro pins s σ H vs us Q I r h
  obtain ⟨a, S, n, rfl, ha, hn, q⟩ := h
  rw [Vals.ref1 r]
  obtain ⟨o, es, ep, t, R⟩ := setSO_get I ha
  refine call_len_set R.get R.ex R.dat R.fit (by rw [R.num] <;> omega) ⟨.int n, H, I.tok _, ⟨_, by rw [R.num]⟩, q (es.toList.map txt) R.nd (fun k => (R.mem k).symm) ?_⟩
  rw [List.length_map, Array.length_toList]
  exact R.num
/-- x in a set of texts -/
def rSInS (w : World) (neg : Bool) : V → V → Hp → VK → Prop := fun x y H Q => ∃ (k : Str) (a : Addr) (S : Str → Bool) (n : Nat), x = V.str k ∧ y = V.ref a ∧ H a = some (SetSO w a S n) ∧ Q (.bl (if neg then !S k else S k)) H
theorem or_sinS : OpR X (compareOp .In) (rSInS X.w false) := by
  intro pins s σ H x y v u Q I rx ry h
  obtain ⟨k, a, S, n, rfl, rfl, ha, q⟩ := h
  cases ry
  obtain ⟨t, rfl⟩ := rx
  exact wpAny_inSet_of (str_is (P := X.prog) (w := X.w) k t) rfl (setSO_get I ha).of ⟨.bl (S k), H, I.tok _, rfl, q⟩
end
end L2

set_option Elab.async false
set_option linter.all false
set_option maxRecDepth 100000
set_option maxHeartbeats 4000000
/-! a set of texts, made by a comprehension over two sources without tests -/
namespace SetC2
open PySem PySem.Spec PyProof.Rows L2 SetX
abbrev two (elt t0 i0 t1 i1 : Expr) (scope : Scope) (pos : Pos) : Expr := .SetComp elt [⟨t0, i0, [], 0⟩, ⟨t1, i1, [], 0⟩] scope pos
abbrev No : Value → Shared → Prop := fun _ _ => False
theorem outer_turn (elt t0 i0 t1 i1 : Expr) (scope : Scope) (pos : Pos) (it acc : Value) (env : Env) :
    compTurn (two elt t0 i0 t1 i1 scope pos) 0 it acc env = (do
      standAt i0.pos
      match ← pyNext it with
      | none => pure (.done .next)
      | some v =>
        letOwnedTupleGo t0 it v
        assign t0 env v
        let x ← eval i1 env
        standAt i1.pos
        let x ← foldedSetIterable i1 env x
        let _ ← runOwn (.compStart (two elt t0 i0 t1 i1 scope pos) 1 (← holding [x] (pyIter x)) acc env) env
        again (.compLoop (two elt t0 i0 t1 i1 scope pos) 0 it acc env)) := by rfl
theorem inner_turn (elt t0 i0 t1 i1 : Expr) (scope : Scope) (pos : Pos) (it acc : Value) (env : Env) :
    compTurn (two elt t0 i0 t1 i1 scope pos) 1 it acc env = (do
      standAt i1.pos
      match ← pyNext it with
      | none => pure (.done .next)
      | some v =>
        letOwnedTupleGo t1 it v
        assign t1 env v
        (do let v ← eval elt env; standAt elt.pos; let _ ← call (.builtin "set.add") [acc, v])
        again (.compLoop (two elt t0 i0 t1 i1 scope pos) 1 it acc env)) := by rfl
/-- one step of a walk: the end, or a thing more -/
def Step (J : It) (i : Nat) (H : Hp) (fin nxt : Hp → Prop) (B : V → Hp → (Hp → Prop) → Prop) : Prop :=
  (J.stop i H ∧ fin H) ∨ (J.go i H ∧ ∃ nx : Hp → Prop, (∀ H', nx H' → nxt H') ∧ ∀ x H', J.yld i H x H' → B x H' nx)
/-- a walk to its end, by a measure -/
def Whole (J : It) (H : Hp) (fin : Hp → Prop) (B : V → Hp → (Hp → Prop) → Prop) : Prop :=
  ∃ W : Nat → Nat → Hp → Prop, (∃ m, W 0 m H) ∧ ∀ i m H, W i m H → Step J i H fin (fun H' => ∃ m', m' < m ∧ W (i + 1) m' H') B
theorem whole_list {K : PySem.W.Frag} {a : Addr} {xs : List V} {H : Hp} {fin : Hp → Prop} {B : V → Hp → (Hp → Prop) → Prop} (Pv : Nat → Hp → Prop) (h0 : Pv 0 H) (hl : ∀ i H, Pv i H → SqL K H a xs)
    (hs : ∀ i x H, xs[i]? = some x → Pv i H → B x H (Pv (i + 1))) (hd : ∀ H, Pv xs.length H → fin H) : Whole (Itl K a) H fin B := by
  refine ⟨fun i m H => i + m = xs.length ∧ Pv i H, ⟨xs.length, Nat.zero_add _, h0⟩, fun i m H ⟨e, p⟩ => ?_⟩
  have q := hl i H p
  cases m with
  | zero => exact .inl ⟨⟨xs, q, by omega⟩, hd H (by rw [← e]; exact p)⟩
  | succ m =>
    have hlt : i < xs.length := by omega
    refine .inr ⟨⟨xs, xs[i], q, List.getElem?_eq_getElem hlt⟩, Pv (i + 1), fun H' p' => ⟨m, Nat.lt_succ_self m, by omega, p'⟩, fun x H' y => ?_⟩
    obtain ⟨rfl, y⟩ := y
    exact hs i x _ (y xs q) p
theorem whole_range {lo : Int} {n : Nat} {H : Hp} {fin : Hp → Prop} {B : V → Hp → (Hp → Prop) → Prop} (Pv : Nat → Hp → Prop) (h0 : Pv 0 H)
    (hs : ∀ i H, i < n → Pv i H → B (.int (lo + (i : Int))) H (Pv (i + 1))) (hd : ∀ H, Pv n H → fin H) : Whole (Itr lo n) H fin B := by
  refine ⟨fun i m H => i + m = n ∧ Pv i H, ⟨n, Nat.zero_add _, h0⟩, fun i m H ⟨e, p⟩ => ?_⟩
  cases m with
  | zero => exact .inl ⟨show n ≤ i by omega, hd H (by rw [← e]; exact p)⟩
  | succ m =>
    have hlt : i < n := by omega
    refine .inr ⟨hlt, Pv (i + 1), fun H' p' => ⟨m, Nat.lt_succ_self m, by omega, p'⟩, fun x H' y => ?_⟩
    obtain ⟨rfl, rfl⟩ := y
    exact hs i _ hlt p
theorem thnX {α : Type} {Y : Cx} {t : Sem α} {Q Q' : α → Shared → Prop} {M : Model} {A : Around} {E : Value → Shared → Prop} {s : Shared} (hx : ∀ v s, ¬ Y.xe v s) (h : wpAny M A t Q Y.xe s) (hQ : ∀ a s, Q a s → Q' a s) : wpAny M A t Q' E s :=
  wpAny_mono h hQ fun v s z => (hx v s z).elim
/-- set.add of a text -/
theorem add_text {Y : Cx} {pins : List (Addr × Obj)} {σ : L2.St} {H : Hp} {s : Shared} {E : Value → Shared → Prop} {D : Addr} {S : Str → Bool} {n : Nat} {c : Str} {u : Value} {Q : Value → Shared → Prop} (I : Inv Y pins σ H s) (hD : H D = some (SetSO Y.w D S n)) (hu : RelV (.str c) u) (room : n + 1 < scanBound)
    (h : ∀ s', Inv Y pins σ (upd H D (SetSO Y.w D (fun j => S j || decide (j = c)) (if S c = true then n else n + 1))) s' → Q .none s') : wpAny (model Y.prog Y.w) Y.A (call (.builtin "set.add") [.ref D, u]) Q E s := by
  obtain ⟨tk, rfl⟩ := hu
  refine add_call (setSO_get I hD) room fun h' sb R => h _ ?_
  have he : ∃ u, h'.get? D = some u := let ⟨o, _, _, _, r⟩ := R; ⟨o, r.get⟩
  exact I.write (e := D) (t' := s.toks + 1) (by rw [hD]; trivial) (.inl rfl) (fun b u hb hu => (sb.2 b hb).trans hu) he (setSO_new R)
section
variable {Y : Cx}
/-- a source's next thing, put into its name; what is behind it may go on as it likes as long as it knows the slots -/
theorem hand {tg : Expr} {J : It} {fp : List Addr} {it : Addr} {tn : Nat → Heap → Prop} {g : TG} {pins : List (Addr × Obj)} {σ : L2.St} {H : Hp} {s : Shared} {i : Nat} {vs : List Nat} {B : L2.St → Hp → Prop} (hc : Y.calm = true) (hx : ∀ v s, ¬ Y.xe v s) (T : Turn Y.prog Y.w Y.K tg J fp it tn) (pg : PG Y tg g)
    (I : Inv Y pins σ H s) (hf : ∀ b ∈ fp, FpOk Y pins H b) (st : tn i s.heap) (go : J.go i H) (h : ∀ x H', J.yld i H x H' → g x σ H' fun σ2 H2 => wipe σ2 vs = σ ∧ B σ2 H2) :
    wpAny (model Y.prog Y.w) Y.A (pyNext (.ref it)) (fun r s1 => ∃ u, r = some u ∧ wpAny (model Y.prog Y.w) Y.A (letOwnedTupleGo tg (.ref it) u) (fun _ s2 => wpAny (model Y.prog Y.w) Y.A (assign tg Y.env u)
      (fun _ s3 => ∃ pl σ2 H2, wipe σ2 vs = σ ∧ Inv Y (pins ++ pl) σ2 H2 s3 ∧ B σ2 H2 ∧ ∀ σ9 H9 s9, Inv Y (pins ++ pl) σ9 H9 s9 → σ.length = σ9.length → (∀ (j : Nat) v, σ[j]? = some (some v) → σ9[j]? = some (some v)) → Inv Y pins σ H9 s9 ∧ tn (i + 1) s9.heap ∧ ∀ b ∈ fp, H9 b = none) No s2) No s1) No s := by
  refine thnF (T.item Y rfl rfl rfl hc i pins s σ H No I hf st go) fun r s1 ⟨u, hr, h1⟩ => ⟨u, hr, thnF h1 fun _ s2 ⟨x, H2, I2, rx, hy, st2, n2⟩ => ?_⟩
  have P2 := I2.pinned (fun b hb => ⟨n2 b hb, (hf b hb).2⟩) (T.obj _ _ st2)
  refine thnX hx (pg.run _ s2 σ H2 x u _ P2 rx (h x H2 hy)) fun _ s3 ⟨σ3, H3, I3, hw, b3⟩ => ⟨_, σ3, H3, hw, I3, b3, fun σ9 H9 s9 I9 hl hk => ?_⟩
  have stay : ∀ b ∈ fp, ∀ o, s2.heap.get? b = some o → s9.heap.get? b = some o ∧ H9 b = none := fun b hb o e =>
    let z := I9.pin (b, o) (List.mem_append_right _ (List.mem_append_right _ (mem_pinsAt hb e)))
    ⟨z.1, z.2.1⟩
  refine ⟨I9.unpinned.weak hl hk, T.keep _ _ _ st2 fun b hb o e => (stay b hb o e).1, fun b hb => ?_⟩
  obtain ⟨o, e, _⟩ := T.obj _ _ st2 b hb
  exact (stay b hb o e).2
/-- what the second source's things come to -/
abbrev In (w : World) (g : TG) (te : TE) (D : Addr) (σ : L2.St) (vs : List Nat) : V → Hp → (Hp → Prop) → Prop := fun x H nx => g x σ H fun σ3 H3 => wipe σ3 vs = σ ∧ te σ3 H3 fun y H4 => ∃ (c : Str) (S : Str → Bool) (n : Nat), y = .str c ∧ H4 D = some (SetSO w D S n) ∧ n + 1 < scanBound ∧ nx (upd H4 D (SetSO w D (fun j => S j || decide (j = c)) (if S c = true then n else n + 1)))
theorem wiped {σ τ : L2.St} {vs : List Nat} (h : wipe τ vs = σ) : σ.length = τ.length ∧ ∀ (j : Nat) (v : V), σ[j]? = some (some v) → τ[j]? = some (some v) :=
  ⟨by rw [← h, wipe_length], fun j v e => by rw [← h] at e; exact (wipe_some e).1⟩
theorem inner {elt t0 i0 t1 i1 : Expr} {scope : Scope} {pos : Pos} {J : It} {fp : List Addr} {it D : Addr} {tn : Nat → Heap → Prop} {g : TG} {te : TE} {pins : List (Addr × Obj)} {σ : L2.St} {H : Hp} {s : Shared} {vs : List Nat} {fin : Hp → Prop} {R : Result → Shared → Prop}
    (hc : Y.calm = true) (hx : ∀ v s, ¬ Y.xe v s) (T : Turn Y.prog Y.w Y.K t1 J fp it tn) (pg : PG Y t1 g) (pe : PE Y elt te) (I : Inv Y pins σ H s) (hf : ∀ b ∈ fp, FpOk Y pins H b) (st : tn 0 s.heap) (h : Whole J H fin (In Y.w g te D σ vs))
    (done : ∀ s' H', Inv Y pins σ H' s' → fin H' → R (.ok .next) s') : codeAny (model Y.prog Y.w) Y.A (.compLoop (two elt t0 i0 t1 i1 scope pos) 1 (.ref it) (.ref D) Y.env) R s := by
  obtain ⟨W, ⟨m, w0⟩, turn⟩ := h
  refine codeAny_loop rfl (fun k s' => ∃ j H', Inv Y pins σ H' s' ∧ tn j s'.heap ∧ (∀ b ∈ fp, H' b = none) ∧ W j k H') (fun k s1 ⟨j, H1, I1, st1, n1, w1⟩ => ?_) m ⟨0, H, I, st, fun b hb => (hf b hb).1, w0⟩
  have f1 : ∀ b ∈ fp, FpOk Y pins H1 b := fun b hb => ⟨n1 b hb, (hf b hb).2⟩
  show wpAny _ Y.A ((compTurn (two elt t0 i0 t1 i1 scope pos) 1 (.ref it) (.ref D) Y.env).onRaise (fun x => do noteFrame x Y.env; theTreesLotGoes x)) _ _ s1
  refine wpAny_noted ?_
  rw [inner_turn]
  refine wpAny_bind (wpAny_standAt (wpAny_bind ?_))
  rcases turn j k H1 w1 with ⟨stop, q⟩ | ⟨go, nx, hn, b⟩
  · refine thnF (T.done Y rfl rfl rfl hc j pins _ σ H1 No I1 f1 st1 stop) fun r s2 ⟨hr, I2⟩ => ?_
    subst hr
    exact wpAny_pure (done s2 H1 I2 q)
  · refine thnF (hand (vs := vs) hc hx T pg I1 f1 st1 go b) fun r s2 ⟨u, hr, h2⟩ => ?_
    subst hr
    refine wpAny_bind (thnF h2 fun _ s3 h3 => wpAny_bind (thnF h3 fun _ s4 ⟨pl, σ4, H4, hw, I4, b4, back⟩ => ?_))
    refine wpAny_bind (wpAny_bind (thnX hx (pe.run _ s4 σ4 H4 _ I4 b4) fun z s5 ⟨y, H5, I5, r5, c, S, n, ey, hD5, room, nx5⟩ => ?_))
    subst ey
    refine wpAny_bind (wpAny_standAt (wpAny_bind (add_text I5 hD5 r5 room fun s6 I6 => wpAny_pure (wpAny_pure ⟨rfl, ?_⟩))))
    obtain ⟨I7, st7, n7⟩ := back σ4 _ s6 I6 (wiped hw).1 (wiped hw).2
    obtain ⟨m', hm, w'⟩ := hn _ nx5
    exact ⟨m', hm, j + 1, _, I7, st7, n7, w'⟩
theorem start_inner {elt t0 i0 t1 i1 : Expr} {scope : Scope} {pos : Pos} {prog : Program} {w : World} {A : Around} {R : Result → Shared → Prop} {s : Shared} {it acc : Value} {env : Env}
    (h : codeAny (model prog w) A (.compLoop (two elt t0 i0 t1 i1 scope pos) 1 it acc env) R s)
    (hi : ∀ (Q E : Value → Shared → Prop), Q it s → wpAny (model prog w) A (pyIter it) Q E s) : codeAny (model prog w) A (.compStart (two elt t0 i0 t1 i1 scope pos) 1 it acc env) R s := by
  refine codeAny_of_tree ?_
  show wpAny _ _ ((compStart (two elt t0 i0 t1 i1 scope pos) 1 it acc env).onRaise (fun x => do noteFrame x env; standAt theWindowsPlace)) _ _ s
  refine wpAny_notedAt ?_
  unfold compStart
  show wpAny _ _ (ask >>= _) _ _ s
  refine wpAny_bind (wpAny_askSetting (wpAny_ite ?_))
  split
  · first
      | exact wpAny_pure ⟨rfl, h⟩
      | exact wpAny_bind (wpAny_pure (wpAny_pure ⟨rfl, h⟩))
  · refine wpAny_bind (wpAny_rule ?_)
    show wpAny _ _ (standAt i1.pos >>= _) _ _ s
    exact wpAny_bind (wpAny_standAt (wpAny_bind (hi _ _ (wpAny_pure ⟨rfl, h⟩))))
/-- what the first source's things come to -/
abbrev Out (w : World) (g : TG) (wi1 : TI) (g1 : TG) (te : TE) (D : Addr) (σ : L2.St) (vs vs1 : List Nat) : V → Hp → (Hp → Prop) → Prop := fun x H nx => g x σ H fun σ2 H2 => wipe σ2 vs = σ ∧ wi1 σ2 H2 fun J1 H3 => Whole J1 H3 nx (In w g1 te D (wipe σ2 vs1) vs1)
theorem outer {elt t0 i0 t1 i1 : Expr} {scope : Scope} {pos : Pos} {J : It} {fp : List Addr} {it D : Addr} {tn : Nat → Heap → Prop} {g g1 : TG} {wi1 : TI} {te : TE} {σ : L2.St} {H : Hp} {s : Shared} {vs vs1 : List Nat} {fin : Hp → Prop} {R : Result → Shared → Prop}
    (hc : Y.calm = true) (hx : ∀ v s, ¬ Y.xe v s) (hs1 : ∀ env x, foldedSetIterable i1 env x = pure x) (hv : ∀ i ∈ vs1, i ∈ vs) (T : Turn Y.prog Y.w Y.K t0 J fp it tn) (pg : PG Y t0 g) (pi1 : PI Y t1 i1 wi1) (pg1 : PG Y t1 g1) (pe : PE Y elt te)
    (I : Inv Y [] σ H s) (hf : ∀ b ∈ fp, FpOk Y [] H b) (st : tn 0 s.heap) (h : Whole J H fin (Out Y.w g wi1 g1 te D σ vs vs1))
    (done : ∀ s' H', Inv Y [] σ H' s' → fin H' → R (.ok .next) s') : codeAny (model Y.prog Y.w) Y.A (.compLoop (two elt t0 i0 t1 i1 scope pos) 0 (.ref it) (.ref D) Y.env) R s := by
  obtain ⟨W, ⟨m, w0⟩, turn⟩ := h
  refine codeAny_loop rfl (fun k s' => ∃ j H', Inv Y [] σ H' s' ∧ tn j s'.heap ∧ (∀ b ∈ fp, H' b = none) ∧ W j k H') (fun k s1 ⟨j, H1, I1, st1, n1, w1⟩ => ?_) m ⟨0, H, I, st, fun b hb => (hf b hb).1, w0⟩
  have f1 : ∀ b ∈ fp, FpOk Y [] H1 b := fun b hb => ⟨n1 b hb, (hf b hb).2⟩
  show wpAny _ Y.A ((compTurn (two elt t0 i0 t1 i1 scope pos) 0 (.ref it) (.ref D) Y.env).onRaise (fun x => do noteFrame x Y.env; theTreesLotGoes x)) _ _ s1
  refine wpAny_noted ?_
  rw [outer_turn]
  refine wpAny_bind (wpAny_standAt (wpAny_bind ?_))
  rcases turn j k H1 w1 with ⟨stop, q⟩ | ⟨go, nx, hn, b⟩
  · refine thnF (T.done Y rfl rfl rfl hc j [] _ σ H1 No I1 f1 st1 stop) fun r s2 ⟨hr, I2⟩ => ?_
    subst hr
    exact wpAny_pure (done s2 H1 I2 q)
  · refine thnF (hand (vs := vs) hc hx T pg I1 f1 st1 go b) fun r s2 ⟨u, hr, h2⟩ => ?_
    subst hr
    refine wpAny_bind (thnF h2 fun _ s3 h3 => wpAny_bind (thnF h3 fun _ s4 ⟨pl, σ4, H4, hw, I4, b4, back⟩ => ?_))
    refine wpAny_bind (thnX hx (pi1.run _ s4 σ4 H4 _ I4 b4) fun x s5 h5 => ?_)
    refine wpAny_bind (wpAny_standAt (wpAny_bind (wpAny_of_eq (hs1 _ x) (wpAny_bind (wpAny_holding (thnX hx h5 fun itv s6 h6 => ?_))))))
    obtain ⟨it1, fp1, tn1, J1, H6, e6, I6, T1, st6, f6, W6⟩ := h6
    subst e6
    have know : ∀ (j : Nat) v, σ[j]? = some (some v) → (wipe σ4 vs1)[j]? = some (some v) := fun j v e => by
      rw [← hw] at e
      obtain ⟨e1, e2⟩ := wipe_some e
      rw [wipe_out fun z => e2 (hv j z)]
      exact e1
    have L := inner (elt := elt) (t0 := t0) (i0 := i0) (i1 := i1) (scope := scope) (pos := pos) (R := fun r s' => match r with
        | .ok _ => ∃ m, m < k ∧ ∃ j H', Inv Y [] σ H' s' ∧ tn j s'.heap ∧ (∀ b ∈ fp, H' b = none) ∧ W j m H'
        | .error _ => False) hc hx T1 pg1 pe (I6.weak (wipe_length σ4 vs1) (fun j v e => (wipe_some e).1)) f6 st6 W6 (fun s7 H7 I7 q7 => by
      obtain ⟨I8, st8, n8⟩ := back _ _ s7 I7 (by rw [wipe_length]; exact (wiped hw).1) know
      obtain ⟨m', hm, w'⟩ := hn _ q7
      exact ⟨m', hm, j + 1, _, I8, st8, n8, w'⟩)
    refine wpAny_bind (wpAny_runOwn ?_)
    rw [Around.mark_none]
    refine codeAny_mono (start_inner L fun Q E q => T1.self Y.A 0 _ _ _ st6 q) fun r s' hr => ?_
    cases r with
    | ok f =>
      first
        | exact wpAny_pure ⟨rfl, hr⟩
        | exact wpAny_bind (wpAny_pure (wpAny_pure ⟨rfl, hr⟩))
    | error e => exact hr.elim
end
/-- {elt for t0 in i0 for t1 in i1}: D the new set; vs the block's names, vs1 those of the second target -/
def tSc2 (w : World) (wi : TI) (g : TG) (wi1 : TI) (g1 : TG) (te : TE) (vs vs1 : List Nat) : TE := fun σ H Q => wi σ H fun J H1 => ∀ D, H1 D = none → Whole J (upd H1 D (SetSO w D (fun _ => false) 0)) (Q (.ref D)) (Out w g wi1 g1 te D (wipe σ vs) vs vs1)
section
variable {X : Cx}
/-- a new empty set behind a source's start: what the source needs stays -/
theorem with_set {pins : List (Addr × Obj)} {σ : L2.St} {H : Hp} {s : Shared} {tg : Expr} {J : It} {fp : List Addr} {it : Addr} {tn : Nat → Heap → Prop} (I : Inv X pins σ H s) (T : Turn X.prog X.w X.K tg J fp it tn) (st : tn 0 s.heap) (f : ∀ b ∈ fp, FpOk X pins H b) :
    H s.heap.objs.size = none ∧ Inv X pins σ (upd H s.heap.objs.size (SetSO X.w s.heap.objs.size (fun _ => false) 0)) { s with heap := s.heap.push (newO X.w) } ∧ tn 0 (s.heap.push (newO X.w)) ∧
      ∀ b ∈ fp, FpOk X pins (upd H s.heap.objs.size (SetSO X.w s.heap.objs.size (fun _ => false) 0)) b ∧ b < (s.heap.push (newO X.w)).objs.size := by
  have fr : H s.heap.objs.size = none := I.hok.fresh (Nat.le_refl _)
  have kp : ∀ b o, s.heap.get? b = some o → (s.heap.push (newO X.w)).get? b = some o := fun b o e => Heap.get?_push_of_some _ e
  refine ⟨fr, I.laid (t' := s.toks) kp (Nat.le_refl _) (setSO_new (fresh X.w (Heap.get?_push_size _ rfl))), T.keep _ _ _ st fun b _ o e => kp b o e, fun b hb => ?_⟩
  obtain ⟨o, e, _⟩ := T.obj _ _ st b hb
  have lt := Heap.lt_size e
  exact ⟨⟨by rw [upd_ne (Nat.ne_of_lt lt)]; exact (f b hb).1, (f b hb).2⟩, by rw [Heap.size_push]; exact Nat.lt_succ_of_lt lt⟩
theorem pe_sc2 {elt t0 i0 t1 i1 : Expr} {scope : Scope} {own : List (PySem.Str × Nat)} {vs1 : List Nat} {pos : Pos} {wi wi1 : TI} {g g1 : TG} {te : TE} (hc : X.calm = true) (hN : X.N.Nodup) (hi : PI X t0 i0 wi) (ok : BlkOk X.N X.env.scope scope own) (hv : ∀ i ∈ vs1, i ∈ own.map (·.2))
    (hg : ∀ (s : Shared) (H : Hp) (C : Addr) (cl : List (PySem.Str × Addr)) (fp : List Addr), PG (X.blk s H scope (compEnvC scope cl C X.env) fp) t0 g)
    (hi1 : ∀ (s : Shared) (H : Hp) (C : Addr) (cl : List (PySem.Str × Addr)) (fp : List Addr), PI (X.blk s H scope (compEnvC scope cl C X.env) fp) t1 i1 wi1)
    (hg1 : ∀ (s : Shared) (H : Hp) (C : Addr) (cl : List (PySem.Str × Addr)) (fp : List Addr), PG (X.blk s H scope (compEnvC scope cl C X.env) fp) t1 g1)
    (he : ∀ (s : Shared) (H : Hp) (C : Addr) (cl : List (PySem.Str × Addr)) (fp : List Addr), PE (X.blk s H scope (compEnvC scope cl C X.env) fp) elt te)
    (hs : ∀ x, foldedSetIterable i0 X.env x = pure x := by intro _; rfl) (hs1 : ∀ env x, foldedSetIterable i1 env x = pure x := by intro _ _; rfl) :
    PE X (two elt t0 i0 t1 i1 scope pos) (tSc2 X.w wi g wi1 g1 te (own.map (·.2)) vs1) := by
  refine ⟨fun pins s σ H Q I h => ?_⟩
  rw [PpSet.eval_SetComp]
  have hfree : ∀ y ∈ scope.names, y.2 = .free → ∃ c, X.env.cells.lookup y.1 = some c := fun y hy e => (ok.free y hy e).elim (fun k => I.ok.has _ (.inl k)) fun k => I.ok.has _ (.inr k)
  refine wpAny_comprehension_free (use := none) rfl hs (closure_ok hfree) ok.kind (fun y hy e => by rw [ok.uniq y hy, e]) (thn (hi.run pins s σ H _ I h) fun xv s1 h1 => thn h1 fun itv s2 h2 => ?_)
  obtain ⟨it, fp, tn, J, H2, e, I2, T, st2, f2, q⟩ := h2
  subst e
  refine PpSet.newSet_ok (newEnv_comp ?_)
  obtain ⟨fr, I3, st3, f3⟩ := with_set I2 T st2 f2
  have q := q s2.heap.objs.size fr
  have I4 := block_start I3 ok hN f3
  have st4 : tn 0 (pushCells ((s2.heap.push (newO X.w)).push { cls := Value.type "dict", data := Data.dict #[] }) scope.names) := T.keep _ _ _ st3 fun b _ o e => pushCells_keeps _ _ _ _ (Heap.get?_push_of_some _ e)
  have L := outer (Y := X.blk { s2 with heap := s2.heap.push (newO X.w) } (upd H2 s2.heap.objs.size (SetSO X.w s2.heap.objs.size (fun _ => false) 0)) scope (compEnvC scope (cellsFrom ((s2.heap.push (newO X.w)).objs.size + 1) scope.names (cloFrom X.env.cells scope.names [])) (s2.heap.push (newO X.w)).objs.size X.env) fp) (elt := elt) (i0 := i0) (scope := scope) (pos := pos) (R := compPost (model X.prog X.w) X.A X.xe none (fun u s' => EP X pins σ Q u s') (.ref s2.heap.objs.size) (s2.heap.push (newO X.w)).objs.size) hc (fun _ _ z => z) hs1 hv T (hg _ _ _ _ _) (hi1 _ _ _ _ _) (hg1 _ _ _ _ _) (he _ _ _ _ _) I4
    (fun b hb => ⟨(f3 b hb).1.1, (I4.ok.exf b hb).1, I4.ok.exfs b hb, .inl hb, fun x c e => (I4.ok.exf b hb).2 x c e, fun p hp => absurd (show p ∈ ([] : List (Addr × Obj)) ++ [] from hp) (by simp)⟩) st4 q (fun s5 H5 I5 q5 => ?_)
  · exact PpSet.codeAny_compStart_set L (T.self X.A 0 _ _ _ st4 L)
  · have I6 : Inv X pins σ H5 s5 := I3.call' (ch := fp) I5.os I5.base I5.hok I5.bare fun b hb => ⟨(f3 b hb).1.2.2.2.1, (f3 b hb).1.2.1, (f3 b hb).1.2.2.2.2.1, (f3 b hb).1.2.2.2.2.2⟩
    obtain ⟨m, hn, _⟩ := I5.loc
    obtain ⟨f0, f1, f2', f3', f4, f5⟩ := I3.fpOk (Nat.le_refl _) (show H5 (s2.heap.push (newO X.w)).objs.size = none from I5.free)
    exact ⟨m, hn, fun h'' sb => ⟨.ref _, H5, I6.turned (t' := s5.toks) (fun b o hb e => (sb.2 b hb).trans e) f0 f1 f3' f4 f5, rfl, q5⟩⟩
end
end SetC2

set_option Elab.async false
set_option linter.all false
set_option maxRecDepth 100000
set_option maxHeartbeats 4000000
/-! a set of texts, made by a comprehension over one source without tests -/
namespace SetC1
open PySem PySem.Spec PyProof.Rows L2 SetX SetC2
abbrev one (elt t0 i0 : Expr) (scope : Scope) (pos : Pos) : Expr := .SetComp elt [⟨t0, i0, [], 0⟩] scope pos
theorem one_turn (elt t0 i0 : Expr) (scope : Scope) (pos : Pos) (it acc : Value) (env : Env) :
    compTurn (one elt t0 i0 scope pos) 0 it acc env = (do
      standAt i0.pos
      match ← pyNext it with
      | none => pure (.done .next)
      | some v =>
        letOwnedTupleGo t0 it v
        assign t0 env v
        (do let v ← eval elt env; standAt elt.pos; let _ ← call (.builtin "set.add") [acc, v])
        again (.compLoop (one elt t0 i0 scope pos) 0 it acc env)) := by rfl
section
variable {Y : Cx}
theorem single {elt t0 i0 : Expr} {scope : Scope} {pos : Pos} {J : It} {fp : List Addr} {it D : Addr} {tn : Nat → Heap → Prop} {g : TG} {te : TE} {pins : List (Addr × Obj)} {σ : L2.St} {H : Hp} {s : Shared} {vs : List Nat} {fin : Hp → Prop} {R : Result → Shared → Prop}
    (hc : Y.calm = true) (hx : ∀ v s, ¬ Y.xe v s) (T : Turn Y.prog Y.w Y.K t0 J fp it tn) (pg : PG Y t0 g) (pe : PE Y elt te) (I : Inv Y pins σ H s) (hf : ∀ b ∈ fp, FpOk Y pins H b) (st : tn 0 s.heap) (h : Whole J H fin (In Y.w g te D σ vs))
    (done : ∀ s' H', Inv Y pins σ H' s' → fin H' → R (.ok .next) s') : codeAny (model Y.prog Y.w) Y.A (.compLoop (one elt t0 i0 scope pos) 0 (.ref it) (.ref D) Y.env) R s := by
  obtain ⟨W, ⟨m, w0⟩, turn⟩ := h
  refine codeAny_loop rfl (fun k s' => ∃ j H', Inv Y pins σ H' s' ∧ tn j s'.heap ∧ (∀ b ∈ fp, H' b = none) ∧ W j k H') (fun k s1 ⟨j, H1, I1, st1, n1, w1⟩ => ?_) m ⟨0, H, I, st, fun b hb => (hf b hb).1, w0⟩
  have f1 : ∀ b ∈ fp, FpOk Y pins H1 b := fun b hb => ⟨n1 b hb, (hf b hb).2⟩
  show wpAny _ Y.A ((compTurn (one elt t0 i0 scope pos) 0 (.ref it) (.ref D) Y.env).onRaise (fun x => do noteFrame x Y.env; theTreesLotGoes x)) _ _ s1
  refine wpAny_noted ?_
  rw [one_turn]
  refine wpAny_bind (wpAny_standAt (wpAny_bind ?_))
  rcases turn j k H1 w1 with ⟨stop, q⟩ | ⟨go, nx, hn, b⟩
  · refine thnF (T.done Y rfl rfl rfl hc j pins _ σ H1 No I1 f1 st1 stop) fun r s2 ⟨hr, I2⟩ => ?_
    subst hr
    exact wpAny_pure (done s2 H1 I2 q)
  · refine thnF (hand (vs := vs) hc hx T pg I1 f1 st1 go b) fun r s2 ⟨u, hr, h2⟩ => ?_
    subst hr
    refine wpAny_bind (thnF h2 fun _ s3 h3 => wpAny_bind (thnF h3 fun _ s4 ⟨pl, σ4, H4, hw, I4, b4, back⟩ => ?_))
    refine wpAny_bind (wpAny_bind (thnX hx (pe.run _ s4 σ4 H4 _ I4 b4) fun z s5 ⟨y, H5, I5, r5, c, S, n, ey, hD5, room, nx5⟩ => ?_))
    subst ey
    refine wpAny_bind (wpAny_standAt (wpAny_bind (add_text I5 hD5 r5 room fun s6 I6 => wpAny_pure (wpAny_pure ⟨rfl, ?_⟩))))
    obtain ⟨I7, st7, n7⟩ := back σ4 _ s6 I6 (wiped hw).1 (wiped hw).2
    obtain ⟨m', hm, w'⟩ := hn _ nx5
    exact ⟨m', hm, j + 1, _, I7, st7, n7, w'⟩
end
/-- {elt for t0 in i0}: D the new set; vs the block's names -/
def tSc1 (w : World) (wi : TI) (g : TG) (te : TE) (vs : List Nat) : TE := fun σ H Q => wi σ H fun J H1 => ∀ D, H1 D = none → Whole J (upd H1 D (SetSO w D (fun _ => false) 0)) (Q (.ref D)) (In w g te D (wipe σ vs) vs)
section
variable {X : Cx}
theorem pe_sc1 {elt t0 i0 : Expr} {scope : Scope} {own : List (PySem.Str × Nat)} {pos : Pos} {wi : TI} {g : TG} {te : TE} (hc : X.calm = true) (hN : X.N.Nodup) (hi : PI X t0 i0 wi) (ok : BlkOk X.N X.env.scope scope own)
    (hg : ∀ (s : Shared) (H : Hp) (C : Addr) (cl : List (PySem.Str × Addr)) (fp : List Addr), PG (X.blk s H scope (compEnvC scope cl C X.env) fp) t0 g)
    (he : ∀ (s : Shared) (H : Hp) (C : Addr) (cl : List (PySem.Str × Addr)) (fp : List Addr), PE (X.blk s H scope (compEnvC scope cl C X.env) fp) elt te)
    (hs : ∀ x, foldedSetIterable i0 X.env x = pure x := by intro _; rfl) :
    PE X (one elt t0 i0 scope pos) (tSc1 X.w wi g te (own.map (·.2))) := by
  refine ⟨fun pins s σ H Q I h => ?_⟩
  rw [PpSet.eval_SetComp]
  have hfree : ∀ y ∈ scope.names, y.2 = .free → ∃ c, X.env.cells.lookup y.1 = some c := fun y hy e => (ok.free y hy e).elim (fun k => I.ok.has _ (.inl k)) fun k => I.ok.has _ (.inr k)
  refine wpAny_comprehension_free (use := none) rfl hs (closure_ok hfree) ok.kind (fun y hy e => by rw [ok.uniq y hy, e]) (thn (hi.run pins s σ H _ I h) fun xv s1 h1 => thn h1 fun itv s2 h2 => ?_)
  obtain ⟨it, fp, tn, J, H2, e, I2, T, st2, f2, q⟩ := h2
  subst e
  refine PpSet.newSet_ok (newEnv_comp ?_)
  obtain ⟨fr, I3, st3, f3⟩ := with_set I2 T st2 f2
  have q := q s2.heap.objs.size fr
  have I4 := block_start I3 ok hN f3
  have st4 : tn 0 (pushCells ((s2.heap.push (newO X.w)).push { cls := Value.type "dict", data := Data.dict #[] }) scope.names) := T.keep _ _ _ st3 fun b _ o e => pushCells_keeps _ _ _ _ (Heap.get?_push_of_some _ e)
  have L := single (Y := X.blk { s2 with heap := s2.heap.push (newO X.w) } (upd H2 s2.heap.objs.size (SetSO X.w s2.heap.objs.size (fun _ => false) 0)) scope (compEnvC scope (cellsFrom ((s2.heap.push (newO X.w)).objs.size + 1) scope.names (cloFrom X.env.cells scope.names [])) (s2.heap.push (newO X.w)).objs.size X.env) fp) (elt := elt) (i0 := i0) (scope := scope) (pos := pos) (R := compPost (model X.prog X.w) X.A X.xe none (fun u s' => EP X pins σ Q u s') (.ref s2.heap.objs.size) (s2.heap.push (newO X.w)).objs.size) hc (fun _ _ z => z) T (hg _ _ _ _ _) (he _ _ _ _ _) I4
    (fun b hb => ⟨(f3 b hb).1.1, (I4.ok.exf b hb).1, I4.ok.exfs b hb, .inl hb, fun x c e => (I4.ok.exf b hb).2 x c e, fun p hp => absurd (show p ∈ ([] : List (Addr × Obj)) ++ [] from hp) (by simp)⟩) st4 q (fun s5 H5 I5 q5 => ?_)
  · exact PpSet.codeAny_compStart_set L (T.self X.A 0 _ _ _ st4 L)
  · have I6 : Inv X pins σ H5 s5 := I3.call' (ch := fp) I5.os I5.base I5.hok I5.bare fun b hb => ⟨(f3 b hb).1.2.2.2.1, (f3 b hb).1.2.1, (f3 b hb).1.2.2.2.2.1, (f3 b hb).1.2.2.2.2.2⟩
    obtain ⟨m, hn, _⟩ := I5.loc
    obtain ⟨f0, f1, f2', f3', f4, f5⟩ := I3.fpOk (Nat.le_refl _) (show H5 (s2.heap.push (newO X.w)).objs.size = none from I5.free)
    exact ⟨m, hn, fun h'' sb => ⟨.ref _, H5, I6.turned (t' := s5.toks) (fun b o hb e => (sb.2 b hb).trans e) f0 f1 f3' f4 f5, rfl, q5⟩⟩
end
end SetC1

set_option Elab.async false
set_option linter.all false
set_option maxRecDepth 100000
set_option maxHeartbeats 4000000
/-! a dict whose keys are tuples, made by a comprehension over one source without tests -/
namespace DcT
open PySem PySem.Spec PyProof.Rows L2 SetC2
abbrev one (kx vx t0 i0 : Expr) (scope : Scope) (pos : Pos) : Expr := .DictComp kx vx [⟨t0, i0, [], 0⟩] scope pos
section
variable {Y : Cx}
/-- an entry by a tuple -/
theorem put_tup {pins : List (Addr × Obj)} {σ : L2.St} {H : Hp} {s : Shared} {E : Value → Shared → Prop} {D b : Addr} {kvs : List (List Key × V)} {k : List Key} {z : V} {u r : Value} {Q : Unit → Shared → Prop} (hu : Y.A.units + 1 < cLine) (I : Inv Y pins σ H s) (hD : H D = some (.dT kvs)) (hb : H b = some (.tup (k.map kV))) (hz : kvs.length < sizeLine)
    (ru : RelV (.ref b) u) (rr : RelV z r) (h : ∀ s', Inv Y pins σ (upd H D (.dT (putK kvs k z))) s' → Q () s') : wpAny (model Y.prog Y.w) Y.A (dictSet D u r) Q E s := by
  cases (show u = Value.ref b from ru)
  obtain ⟨l0, hd, xs, rel, dd⟩ := dt_of I.hok hD
  have hl : (putK kvs k z).length ≤ sizeLine := by have := length_putK kvs k z; omega
  have hxs : xs.length ≤ sizeLine := by rw [← Paired.length rel]; exact l0
  refine wpAny_dictSet_heap (hsz := hxs) (show Y.A.units < cLine by omega) (key_of I.hok hb) dd fun h' dd' hs => h _ ?_
  obtain ⟨q, es, ep, hq, h2, h3, h4, _, h5⟩ := dd'
  refine d_write I (by rw [hD]; exact True.intro) hs ⟨q, hq⟩ ⟨hl, hd, _, (rel.put k hb rr).keeps fun c ys ec => ?_, q, es, ep, hq, h2, h3, h4, h5⟩
  rw [upd_ne (ne_of ec hD (fun z => nomatch z))]
  exact ec
/-- what the source's things come to -/
abbrev InT (g : TG) (tk tv : TE) (D : Addr) (σ : L2.St) (vs : List Nat) : V → Hp → (Hp → Prop) → Prop := fun x H nx => g x σ H fun σ3 H3 => wipe σ3 vs = σ ∧ tk σ3 H3 fun y H4 => tv σ3 H4 fun z H5 => ∃ (kvs : List (List Key × V)) (k : List Key) (b : Addr), y = .ref b ∧ H5 b = some (.tup (k.map kV)) ∧ H5 D = some (.dT kvs) ∧ kvs.length < sizeLine ∧ nx (upd H5 D (.dT (putK kvs k z)))
theorem single {kx vx t0 i0 : Expr} {scope : Scope} {pos : Pos} {J : It} {fp : List Addr} {it D : Addr} {tn : Nat → Heap → Prop} {g : TG} {tk tv : TE} {pins : List (Addr × Obj)} {σ : L2.St} {H : Hp} {s : Shared} {vs : List Nat} {fin : Hp → Prop} {R : Result → Shared → Prop}
    (hu : Y.A.units + 1 < cLine) (hc : Y.calm = true) (hx : ∀ v s, ¬ Y.xe v s) (T : Turn Y.prog Y.w Y.K t0 J fp it tn) (pg : PG Y t0 g) (pk : PE Y kx tk) (pv : PE Y vx tv) (I : Inv Y pins σ H s) (hf : ∀ b ∈ fp, FpOk Y pins H b) (st : tn 0 s.heap) (h : Whole J H fin (InT g tk tv D σ vs))
    (done : ∀ s' H', Inv Y pins σ H' s' → fin H' → R (.ok .next) s') : codeAny (model Y.prog Y.w) Y.A (.compLoop (one kx vx t0 i0 scope pos) 0 (.ref it) (.ref D) Y.env) R s := by
  obtain ⟨W, ⟨m, w0⟩, turn⟩ := h
  refine compLoop_anyD (fun k s' => ∃ j H', Inv Y pins σ H' s' ∧ tn j s'.heap ∧ (∀ b ∈ fp, H' b = none) ∧ W j k H') (fun k s1 ⟨j, H1, I1, st1, n1, w1⟩ => ?_) m ⟨0, H, I, st, fun b hb => (hf b hb).1, w0⟩
  have f1 : ∀ b ∈ fp, FpOk Y pins H1 b := fun b hb => ⟨n1 b hb, (hf b hb).2⟩
  rcases turn j k H1 w1 with ⟨stop, q⟩ | ⟨go, nx, hn, b⟩
  · refine thnF (T.done Y rfl rfl rfl hc j pins _ σ H1 No I1 f1 st1 stop) fun r s2 ⟨hr, I2⟩ => ?_
    subst hr
    exact done s2 H1 I2 q
  · refine thnF (hand (vs := vs) hc hx T pg I1 f1 st1 go b) fun r s2 ⟨u, hr, h2⟩ => ?_
    subst hr
    refine thnF h2 fun _ s3 h3 => thnF h3 fun _ s4 ⟨pl, σ4, H4, hw, I4, b4, back⟩ => ?_
    refine wpAny_pure ?_
    rw [if_pos rfl]
    refine thnX hx (pk.run _ s4 σ4 H4 _ I4 b4) fun ku s5 ⟨y, H5, I5, r5, b5⟩ => ?_
    refine thnX hx (pv.run _ s5 σ4 H5 _ I5 b5) fun vu s6 ⟨z, H6, I6, r6, kvs, key, b, ey, hb, hD6, hz, nx6⟩ => ?_
    subst ey
    refine put_tup hu I6 hD6 hb hz r5 r6 fun s7 I7 => ?_
    obtain ⟨I8, st8, n8⟩ := back σ4 _ s7 I7 (wiped hw).1 (wiped hw).2
    obtain ⟨m', hm, w'⟩ := hn _ nx6
    exact ⟨m', hm, j + 1, _, I8, st8, n8, w'⟩
end
/-- {kx: vx for t0 in i0}: D the new dict; vs the block's names -/
def tDcT (wi : TI) (g : TG) (tk tv : TE) (vs : List Nat) : TE := fun σ H Q => wi σ H fun J H1 => ∀ D, H1 D = none → Whole J (upd H1 D (.dT [])) (Q (.ref D)) (InT g tk tv D (wipe σ vs) vs)
section
variable {X : Cx}
theorem with_dict {pins : List (Addr × Obj)} {σ : L2.St} {H : Hp} {s : Shared} {tg : Expr} {J : It} {fp : List Addr} {it : Addr} {tn : Nat → Heap → Prop} (I : Inv X pins σ H s) (T : Turn X.prog X.w X.K tg J fp it tn) (st : tn 0 s.heap) (f : ∀ b ∈ fp, FpOk X pins H b) :
    H s.heap.objs.size = none ∧ Inv X pins σ (upd H s.heap.objs.size (.dT [])) { s with heap := s.heap.push { cls := .type "dict", data := .dict #[] } } ∧ tn 0 (s.heap.push { cls := .type "dict", data := .dict #[] }) ∧
      ∀ b ∈ fp, FpOk X pins (upd H s.heap.objs.size (.dT [])) b ∧ b < (s.heap.push { cls := .type "dict", data := .dict #[] }).objs.size := by
  have fr : H s.heap.objs.size = none := I.hok.fresh (Nat.le_refl _)
  have kp : ∀ b o, s.heap.get? b = some o → (s.heap.push { cls := .type "dict", data := .dict #[] }).get? b = some o := fun b o e => Heap.get?_push_of_some _ e
  refine ⟨fr, I.laid (t' := s.toks) kp (Nat.le_refl _) (dt_empty s.heap I.big), T.keep _ _ _ st fun b _ o e => kp b o e, fun b hb => ?_⟩
  obtain ⟨o, e, _⟩ := T.obj _ _ st b hb
  have lt := Heap.lt_size e
  exact ⟨⟨by rw [upd_ne (Nat.ne_of_lt lt)]; exact (f b hb).1, (f b hb).2⟩, by rw [Heap.size_push]; exact Nat.lt_succ_of_lt lt⟩
theorem core {kx vx t0 i0 : Expr} {scope : Scope} {own : List (PySem.Str × Nat)} {pos pos' : Pos} {wi : TI} {g : TG} {tk tv : TE} {use : Option (Value → Sem Unit)} {Qf : Value → Shared → Prop} {pins : List (Addr × Obj)} {s : Shared} {σ : L2.St} {H : Hp} {Q : VK} (hu : X.A.units + 1 < cLine) (hc : X.calm = true) (hN : X.N.Nodup) (I : Inv X pins σ H s) (hi : PI X t0 i0 wi) (ok : BlkOk X.N X.env.scope scope own)
    (hg : ∀ (s : Shared) (H : Hp) (C : Addr) (cl : List (PySem.Str × Addr)) (fp : List Addr), PG (X.blk s H scope (compEnvC scope cl C X.env) fp) t0 g)
    (hk : ∀ (s : Shared) (H : Hp) (C : Addr) (cl : List (PySem.Str × Addr)) (fp : List Addr), PE (X.blk s H scope (compEnvC scope cl C X.env) fp) kx tk)
    (he : ∀ (s : Shared) (H : Hp) (C : Addr) (cl : List (PySem.Str × Addr)) (fp : List Addr), PE (X.blk s H scope (compEnvC scope cl C X.env) fp) vx tv)
    (hs : ∀ x, foldedSetIterable i0 X.env x = pure x) (h : tDcT wi g tk tv (own.map (·.2)) σ H Q)
    (hRR : ∀ D C s' m H', Inv X pins σ H' s' → Q (.ref D) H' → s'.heap.Ns C m → FpOk X pins H' C → compPost (model X.prog X.w) X.A X.xe use Qf (.ref D) C (.ok .next) s') :
    wpAny (model X.prog X.w) X.A (comprehension (one kx vx t0 i0 scope pos) scope X.env pos' newDict false (eval i0 X.env) use) Qf X.xe s := by
  have hfree : ∀ y ∈ scope.names, y.2 = .free → ∃ c, X.env.cells.lookup y.1 = some c := fun y hy e => (ok.free y hy e).elim (fun k => I.ok.has _ (.inl k)) fun k => I.ok.has _ (.inr k)
  refine wpAny_comprehension_free (use := use) rfl hs (closure_ok hfree) ok.kind (fun y hy e => by rw [ok.uniq y hy, e]) (thn (hi.run pins s σ H _ I h) fun xv s1 h1 => thn h1 fun itv s2 h2 => ?_)
  obtain ⟨it, fp, tn, J, H2, e, I2, T, st2, f2, q⟩ := h2
  subst e
  refine wpAny_newObj_type (newEnv_comp ?_)
  obtain ⟨fr, I3, st3, f3⟩ := with_dict I2 T st2 f2
  have q := q s2.heap.objs.size fr
  have I4 := block_start I3 ok hN f3
  have st4 : tn 0 (pushCells ((s2.heap.push { cls := .type "dict", data := .dict #[] }).push { cls := Value.type "dict", data := Data.dict #[] }) scope.names) := T.keep _ _ _ st3 fun b _ o e => pushCells_keeps _ _ _ _ (Heap.get?_push_of_some _ e)
  have L := single (Y := X.blk { s2 with heap := s2.heap.push { cls := .type "dict", data := .dict #[] } } (upd H2 s2.heap.objs.size (.dT [])) scope (compEnvC scope (cellsFrom ((s2.heap.push { cls := .type "dict", data := .dict #[] }).objs.size + 1) scope.names (cloFrom X.env.cells scope.names [])) (s2.heap.push { cls := .type "dict", data := .dict #[] }).objs.size X.env) fp) (kx := kx) (vx := vx) (i0 := i0) (scope := scope) (pos := pos) (R := compPost (model X.prog X.w) X.A X.xe use Qf (.ref s2.heap.objs.size) (s2.heap.push { cls := .type "dict", data := .dict #[] }).objs.size) hu hc (fun _ _ z => z) T (hg _ _ _ _ _) (hk _ _ _ _ _) (he _ _ _ _ _) I4
    (fun b hb => ⟨(f3 b hb).1.1, (I4.ok.exf b hb).1, I4.ok.exfs b hb, .inl hb, fun x c e => (I4.ok.exf b hb).2 x c e, fun p hp => absurd (show p ∈ ([] : List (Addr × Obj)) ++ [] from hp) (by simp)⟩) st4 q (fun s5 H5 I5 q5 => ?_)
  · exact codeAny_compStart_dict L (T.self X.A 0 _ _ _ st4 L)
  · have I6 : Inv X pins σ H5 s5 := I3.call' (ch := fp) I5.os I5.base I5.hok I5.bare fun b hb => ⟨(f3 b hb).1.2.2.2.1, (f3 b hb).1.2.1, (f3 b hb).1.2.2.2.2.1, (f3 b hb).1.2.2.2.2.2⟩
    obtain ⟨m, hn, _⟩ := I5.loc
    exact hRR _ _ s5 m H5 I6 q5 hn (I3.fpOk (Nat.le_refl _) (show H5 (s2.heap.push { cls := .type "dict", data := .dict #[] }).objs.size = none from I5.free))
theorem pe_dcT {kx vx t0 i0 : Expr} {scope : Scope} {own : List (PySem.Str × Nat)} {pos : Pos} {wi : TI} {g : TG} {tk tv : TE} (hu : X.A.units + 1 < cLine) (hc : X.calm = true) (hN : X.N.Nodup) (hi : PI X t0 i0 wi) (ok : BlkOk X.N X.env.scope scope own)
    (hg : ∀ (s : Shared) (H : Hp) (C : Addr) (cl : List (PySem.Str × Addr)) (fp : List Addr), PG (X.blk s H scope (compEnvC scope cl C X.env) fp) t0 g)
    (hk : ∀ (s : Shared) (H : Hp) (C : Addr) (cl : List (PySem.Str × Addr)) (fp : List Addr), PE (X.blk s H scope (compEnvC scope cl C X.env) fp) kx tk)
    (he : ∀ (s : Shared) (H : Hp) (C : Addr) (cl : List (PySem.Str × Addr)) (fp : List Addr), PE (X.blk s H scope (compEnvC scope cl C X.env) fp) vx tv)
    (hs : ∀ x, foldedSetIterable i0 X.env x = pure x := by intro _; rfl) : PE X (one kx vx t0 i0 scope pos) (tDcT wi g tk tv (own.map (·.2))) := by
  refine ⟨fun pins s σ H Q I h => ?_⟩
  rw [arm_eval_DictComp]
  refine core hu hc hN I hi ok hg hk he hs h fun D C s' m H' I' q hn f => ⟨m, hn, fun h'' sb => ?_⟩
  exact ⟨.ref D, H', I'.turned (t' := s'.toks) (fun b o hb e => (sb.2 b hb).trans e) f.1 f.2.1 f.2.2.2.1 f.2.2.2.2.1 f.2.2.2.2.2, rfl, q⟩
/-- put into a name at once -/
theorem ps_setDcT {i : Nat} {y : PySem.Str} {py : Pos} {kx vx t0 i0 : Expr} {scope : Scope} {own : List (PySem.Str × Nat)} {pos spos : Pos} {wi : TI} {g : TG} {tk tv : TE} (hu : X.A.units + 1 < cLine) (hc : X.calm = true) (hN : X.N.Nodup) (hy : X.N[i]? = some y) (hyl : X.env.scope.names.lookup y = some .local)
    (hsw : swapsWith (one kx vx t0 i0 scope pos) (some (.Name y py)) spos.line X.env = pure true) (hi : PI X t0 i0 wi) (ok : BlkOk X.N X.env.scope scope own)
    (hg : ∀ (s : Shared) (H : Hp) (C : Addr) (cl : List (PySem.Str × Addr)) (fp : List Addr), PG (X.blk s H scope (compEnvC scope cl C X.env) fp) t0 g)
    (hk : ∀ (s : Shared) (H : Hp) (C : Addr) (cl : List (PySem.Str × Addr)) (fp : List Addr), PE (X.blk s H scope (compEnvC scope cl C X.env) fp) kx tk)
    (he : ∀ (s : Shared) (H : Hp) (C : Addr) (cl : List (PySem.Str × Addr)) (fp : List Addr), PE (X.blk s H scope (compEnvC scope cl C X.env) fp) vx tv)
    (hs : ∀ x, foldedSetIterable i0 X.env x = pure x := by intro _; rfl) : PS X (.Assign [.Name y py] (one kx vx t0 i0 scope pos) spos) (tAsg (tDcT wi g tk tv (own.map (·.2))) (gName i)) := by
  constructor
  intro pins s σ H Z I h
  replace h : tDcT wi g tk tv (own.map (·.2)) σ H (fun x H1 => gName i x σ H1 Z.nx) := h
  rw [exec_Assign_Name_used _ _ _ _ hsw]
  refine wpAny_bind (wpAny_standAt (wpAny_bind ?_))
  show wpAny _ X.A (do let _ ← comprehension (one kx vx t0 i0 scope pos) scope X.env (firstIterPos [⟨t0, i0, [], 0⟩] pos) newDict false (eval i0 X.env) (some (assign (.Name y py) X.env))) _ _ s
  have c := core (use := some (assign (.Name y py) X.env)) (pos := pos) (pos' := firstIterPos [⟨t0, i0, [], 0⟩] pos) (Qf := fun _ s' => SP X pins Z .next s') hu hc hN I hi ok hg hk he hs h fun D C s1 m H1 I1 q hn f => by
    show wpAny _ _ (assign (.Name y py) X.env (.ref D)) _ _ _
    refine wpAny_assign_Name (store_ok2 (v := V.ref D) I1 hN hy (.inl hyl) rfl (fun s2 I2 ⟨a, sb, ha⟩ => ?_) (.inr hyl))
    have ne : C ≠ a := ha.elim (fun z => by rw [z]; exact f.2.1) fun z => fun e => f.2.2.2.2.1 y a z e.symm
    exact ⟨m, hn.sameBut sb ne, fun h3 sb3 => ⟨_, H1, I2.turned (t' := s2.toks) (fun b o hb e => (sb3.2 b hb).trans e) f.1 f.2.1 f.2.2.2.1 f.2.2.2.2.1 f.2.2.2.2.2, q⟩⟩
  exact wpAny_bind (thn c fun _ s' hq => wpAny_pure (wpAny_pure hq))
end
end DcT

set_option Elab.async false
set_option linter.all false
set_option maxRecDepth 100000
/-! o.name(e, ..) with a letter for the frozen heap: for the word of a comprehension -/
namespace L2
open PySem PySem.Spec PyProof.Rows
theorem pe_bmK {X : Cx} {K : PySem.W.Frag} (hK : X.K = K) {o e : Expr} {es : List Expr} {to : TE} {t : TA} {name : Str} {apos cpos : Pos} {T id : String} {r : V → List V → Hp → VK → Prop}
    (pa : PlainAttrs T) (slot : Slot T name id) (hty : typeOf (.builtin id) = pure (.type "method_descriptor")) (hm : MtR X id r) (ho : PE X o to) (ha : PA X (e :: es) t)
    (h1 : attributeBase o name X.env (eval o X.env) = eval o X.env := by rfl)
    (h2 : (((backTo cpos (starEach (e :: es) X.env)).all (!·.1) && (backToKw cpos (keywordEach [] X.env)).all (·.1.isSome)) && decide ((e :: es).length + ([] : List Keyword).length + (if ([] : List Keyword).isEmpty then 0 else 1) < 30)) = true := by rfl)
    (h3 : (apos.endLine == cpos.line) = true := by rfl) (h4 : starEach (e :: es) X.env = (false, eval e X.env) :: starEach es X.env := by rfl) (h5 : (backTo cpos (starEach es X.env)).any (·.1) = false := by rfl) :
    PE X (.Call (.Attribute o name apos) (e :: es) [] cpos) (tBM K T r to t) := by
  subst hK
  exact pe_bm pa slot hty hm ho ha h1 h2 h3 h4 h5
end L2

set_option Elab.async false
set_option linter.all false
set_option maxRecDepth 100000
set_option maxHeartbeats 4000000
namespace L2
open PySem PySem.Spec PyProof.Rows
namespace DelS
/-- what is kept of numbered items -/
theorem keep {α : Type} (c : Nat) (f : Nat → Bool) : ∀ (xs : List α) (j : Nat), (∀ k, j ≤ k → k < j + xs.length → f k = decide (c ≤ k)) →
    ((xs.zipIdx j).filterMap fun (x, k) => if f k = true then none else some x) = xs.take (c - j)
  | [], _, _ => by simp
  | x :: xs, j, h => by
    have ih := keep c f xs (j + 1) fun k h1 h2 => h k (by omega) (by rw [List.length_cons]; omega)
    have h0 := h j (Nat.le_refl _) (by rw [List.length_cons]; omega)
    rw [List.zipIdx_cons, List.filterMap_cons]
    by_cases hc : c ≤ j
    · have e : f j = true := by rw [h0]; exact decide_eq_true hc
      simp only [e, if_true]
      rw [ih, show c - (j + 1) = 0 by omega, show c - j = 0 by omega]
      rfl
    · have e : f j = false := by rw [h0]; exact decide_eq_false hc
      simp only [e, Bool.false_eq_true, if_false]
      rw [ih, show c - j = (c - (j + 1)) + 1 by omega, List.take_succ_cons]
end DelS
section
variable {prog : Program} {w : World} {A : Around} {E : Value → Shared → Prop} {s : Shared}
theorem bounds_from {a n : Nat} (ha : a ≤ n) : sliceBounds (some (a : Int)) none none n = ((a : Int), (n : Int), 1) := by
  simp only [sliceBounds, Option.getD_none]
  have h1 : ¬ ((a : Int) < 0) := by omega
  simp only [h1, if_false, show (1 : Int) > 0 by decide, if_true]
  congr 1
  omega
def selB (a n : Int) (k : Nat) : Bool := decide (a ≤ (k : Int)) && decide ((k : Int) < n) && ((((k : Int) - a) % 1) == 0)
theorem selB_is {a n k : Nat} (h : k < n) : selB (a : Int) (n : Int) k = decide (a ≤ k) := by
  unfold selB
  rw [Int.emod_one]
  have : decide ((k : Int) < (n : Int)) = true := decide_eq_true (by omega)
  rw [this]
  simp
/-- list.__delitem__ with a slice from a place on -/
theorem delItem_slice {l sl : Addr} {items : List Value} {n : Nat} {vl : Value} {a : Nat} {Q : Unit → Shared → Prop}
    (e : s.heap.get? l = some { cls := .type "list", data := .seq items.toArray n })
    (hs : s.heap.IsSliceOf sl vl .none .none) (pl : IsPart vl (some (a : Int))) (ha : a ≤ items.length)
    (hsz : items.length ≤ sizeLine) (h : ∀ f : Array Value → Array Value, f items.toArray = (items.take a).toArray → Q () { s with heap := s.heap.update l (Obj.mapSeq f) }) :
    wpAny (model prog w) A (delItem (.ref l) (.ref sl)) Q E s := by
  have hl : s.heap.IsList l items.toArray := PySem.IsL.isList e
  obtain ⟨os, hos, hcs, hds⟩ := id hs
  have hTs : s.TypeIs (.ref sl) "slice" := ⟨os, hos, hcs⟩
  have hstep : ¬ ((rawPart none == rawInt 0) = true) := Bool.false_ne_true
  have hk : (fun xs : Array Value => (xs.toList.zipIdx.filterMap fun (x, k) => if selB (a : Int) (items.toArray.size : Int) k = true then none else some x).toArray) items.toArray = (items.take a).toArray := by
    show ((items.toArray.toList.zipIdx.filterMap fun (x, k) => if selB (a : Int) (items.toArray.size : Int) k = true then none else some x).toArray) = _
    rw [DelS.keep a _ _ 0 (fun k _ h2 => selB_is (by rw [List.size_toArray]; simpa using h2))]
    simp
  have hz' : ((fun xs : Array Value => (xs.toList.zipIdx.filterMap fun (x, k) => if selB (a : Int) (items.toArray.size : Int) k = true then none else some x).toArray) items.toArray).size ≤ sizeLine + 1 := by
    rw [hk, List.size_toArray, List.length_take]
    omega
  unfold delItem
  try with_reducible refine wpAny_holding ?_
  first | refine wpAny_bind (wpAny_pure ?_) | skip
  refine wpAny_bind (wpAny_sequenceKey hl.typeIs (by decide) ?_)
  refine wpAny_bind (wpAny_callSpecial?_slot (name := Str.ofString "__delitem__") hl.typeIs F.slot_list_delitem
    (wpAny_call_entry F.slot_list_delitem hl.typeIs F.entry_list_delitem ?_ (F.args_list_delitem_2 _ _)))
  show wpAny _ _ (Builtin.List.listSubscript? (.ref sl) >>= _) _ _ s
  refine wpAny_bind ?_
  unfold Builtin.List.listSubscript?
  refine wpAny_bind (wpAny_specialOf hTs slice_no_index ?_)
  simp only [Option.isNone_none, if_true]
  refine wpAny_pure ?_
  show wpAny _ _ (typeOf (.ref sl) >>= _) _ _ s
  refine wpAny_bind (wpAny_typeOf hTs ?_)
  first
    | rw [if_neg (by decide)]
    | refine PySem.W.KFB.if_not (by decide) ?_
  rw [listSliceParts_eq]
  refine wpAny_bind (wpAny_bind (wpAny_field hos hds (x := .none) rfl (wpAny_bind (wpAny_listPart .none ?_))))
  rw [if_neg hstep]
  refine wpAny_bind (wpAny_field hos hds (x := vl) rfl (wpAny_bind (wpAny_listPart pl ?_)))
  refine wpAny_bind (wpAny_field hos hds (x := .none) rfl (wpAny_bind (wpAny_listPart .none (wpAny_pure ?_))))
  refine wpAny_bind (m := Builtin.List.listItems (.ref l)) ?_
  unfold Builtin.List.listItems
  refine wpAny_bind (wpAny_seqItems e rfl (wpAny_pure ?_))
  refine wpAny_bind (wpAny_of_eq ((sliceIndices_raw (some (a : Int)) none none items.toArray.size (by simp)).trans (congrArg (pure : Int × Int × Int → Sem (Int × Int × Int)) (bounds_from (by rw [List.size_toArray]; exact ha)))) ?_)
  refine wpAny_bind (wpAny_rule ?_)
  show wpAny _ _ (updateSeq l (fun xs => (xs.toList.zipIdx.filterMap fun (x, k) => if selB (a : Int) (items.toArray.size : Int) k = true then none else some x).toArray) >>= _) _ _ s
  refine wpAny_bind (wpAny_updateSeq (hz := by rw [List.size_toArray]; exact hsz) (_hz' := hz') e rfl ?_)
  refine wpAny_bind (wpAny_letGo ?_)
  first
    | exact wpAny_bind (wpAny_pure (wpAny_pure ⟨.none, rfl, wpAny_pure (h _ hk)⟩))
    | exact wpAny_pure ⟨.none, rfl, wpAny_pure (h _ hk)⟩
end
section
variable {X : Cx}
theorem del_slice {pins : List (Addr × Obj)} {s : Shared} {σ : St} {H : Hp} {l sl : Addr} {xs : List V} {a : Nat} {vl : Value} {Q : Unit → Shared → Prop} (I : Inv X pins σ H s)
    (hH : H l = some (.lst xs)) (hs : s.heap.IsSliceOf sl vl .none .none) (pl : IsPart vl (some (a : Int))) (ha : a ≤ xs.length)
    (h : ∀ s', Inv X pins σ (upd H l (.lst (xs.take a))) s' → Q () s') :
    wpAny (model X.prog X.w) X.A (delItem (.ref l) (.ref sl)) Q X.xe s := by
  obtain ⟨z, its, n, r, hl, e⟩ := I.lstM hH
  refine delItem_slice (a := a) e hs pl (by omega) (by omega) fun f hf => h _ ?_
  exact I.lset (its' := its.take a) (t' := s.toks) hH e hf (r.take a) (by rw [List.length_take]; omega)
/-- del xs[e:] -/
def tDelS (to : TE) (tl : TO) : TS := fun D σ H => to σ H fun x H1 => tl σ H1 fun y H2 => ∃ (l : Addr) (xs : List V) (k : Nat), x = .ref l ∧ y = some (k : Int) ∧ H2 l = some (.lst xs) ∧ k ≤ xs.length ∧ D.nx σ (upd H2 l (.lst (xs.take k)))
theorem ps_delS {o : Expr} {lo : Option Expr} {to : TE} {tl : TO} {p2 tpos pos : Pos} (ho : PE X o to) (hl : PO X lo tl) : PS X (.Delete [.Subscript o (.Slice lo none none p2) tpos] pos) (tDelS to tl) := by
  refine ⟨fun pins s σ H D I h => ?_⟩
  refine wpAny_Delete (wpAny_deleteEach_cons (wpAny_delete_Subscript (thn (ho.run pins s σ H _ I h) fun u s1 ⟨x, H1, I1, rx, q1⟩ => ?_)))
  refine wpAny_Slice (thn (hl.run pins s1 σ H1 _ I1 q1) fun vl s2 ⟨l, H2, I2, pl, q2⟩ => thn (po_none.run pins s2 σ H2 (fun o H3 => o = none ∧ H3 = H2) I2 ⟨rfl, rfl⟩) fun vu s3 ⟨u2, H3, I3, pu, e2, e3⟩ => ?_)
  subst e2
  subst e3
  cases pu
  rw [evalPart_none]
  refine wpAny_pure ?_
  obtain ⟨a, xs, k, ex, ey, hH, hk, q⟩ := q2
  subst ex
  subst ey
  cases (show u = Value.ref a from rx)
  have I4 : Inv X pins σ H3 { s3 with heap := s3.heap.push { cls := .type "slice", data := .fields #[vl, .none, .none] } } := I3.kept (t' := s3.toks) fun b ob q => Heap.get?_push_of_some _ q
  exact del_slice I4 hH (Heap.IsSliceOf.new ..) pl hk fun s5 I5 => wpAny_deleteEach_nil ⟨σ, _, I5, q⟩
end
end L2

set_option Elab.async false
set_option linter.all false
set_option maxRecDepth 100000
set_option maxHeartbeats 4000000
/-! list(d.values()) -/
namespace L2
open PySem PySem.Spec PyProof.Rows
def tListVals (te : TE) : TE := fun σ H Q => te σ H fun x H1 => ∃ d kvs, x = V.ref d ∧ H1 d = some (.dK kvs) ∧ ∀ p, H1 p = none → Q (.ref p) (upd H1 p (.lst (kvs.map (·.2))))
theorem kv_vals {κ : Type} : ∀ {kvs : List (κ × V)} {vs : List (κ × Value)}, KV kvs vs → Vals (kvs.map (·.2)) (vs.map (·.2))
  | [], [], _ => .nil
  | _ :: _, _ :: _, .cons h t => .cons h.2 (kv_vals t)
section
variable {X : Cx} {e : Expr} {te : TE} {p apos cpos pos : Pos}
theorem pe_listVals (hc : X.calm = true) (he : PE X e te) (hg : Gl X "list") (hm : X.mg "list" = none) (hv : bootBuiltins "list" = some (.type "list")) (hbase : attributeBase e "values" X.env (eval e X.env) = eval e X.env := by rfl) (hline : (apos.endLine == cpos.line) = true := by rfl)
    (hs : starEach [.Call (.Attribute e "values" apos) [] [] cpos] X.env = (false, eval (.Call (.Attribute e "values" apos) [] [] cpos) X.env) :: starEach [] X.env := by rfl) :
    PE X (.Call (.Name "list" p) [.Call (.Attribute e "values" apos) [] [] cpos] [] pos) (tListVals te) := by
  refine ⟨fun pins s σ H Q I hq => ?_⟩
  refine wpAny_Call_Name_kw (ld_blt I hg hm hv ?_)
  refine PyProof.Rows.callWith_type1 ?_ hs rfl
  rw [hs]
  show wpAny _ _ (spliced ((false, eval (.Call (.Attribute e "values" apos) [] [] cpos) X.env) :: backTo pos (starEach [] X.env))) _ _ s
  refine Calls.spliced_cons ?_
  refine wpAny_Call_method (T := "dict") (id := "dict.values") hbase rfl hline F.plainAttrs_dict F.slot_dict_values F.type_dict_values (thn (he.run pins s σ H _ I hq) fun u s1 ⟨x, H1, I1, rx, d, kvs, ex, hd, q⟩ => ?_)
  subst ex
  obtain rfl : u = Value.ref d := rx
  obtain ⟨hz, hs0, vs, kv, hdo⟩ := I1.hok d _ hd
  obtain ⟨ep, hat⟩ := hdo.dictAt
  have lk : kvs.length = vs.length := Paired.length kv
  have I2 : Inv X pins σ H1 { s1 with heap := s1.heap.push { cls := .type "dict_values", data := .fields #[.ref d] } } := I1.kept (t' := s1.toks) fun b ob q => Heap.get?_push_of_some _ q
  refine ⟨hdo.typeIs, hdo.mapOf.noDict, ?_⟩
  show wpAny _ _ (callWith cpos (.builtin "dict.values") [.ref d] [] []) _ X.xe s1
  refine method_meetsIn F.slot_dict_values F.entry_dict_values rfl (PySem.evalArgs_none ⟨rfl, hdo.typeIs, F.args_dict_values_1 _, _, meets_dict_values (mixKind X.prog X.w) d hs0, ⟨vs, hdo⟩, ?_⟩)
  refine Calls.spliced_nil ?_
  refine PySem.W.kdl_call (PySem.W.kdl_values (knd := mixKind X.prog X.w) (kvs := vs) (ep := ep) (r := s1.heap.objs.size) (d := d)) (I1.ok.hd hc) ⟨⟨_, Heap.get?_push_size _ rfl, rfl, rfl⟩, hat.push _⟩ (by rw [← lk]; exact hz) fun h' tk acc c' hk hD hacc => ?_
  have ev : acc.toList = vs.map (·.2) := PySem.W.kdl_vals_eq _ (by rw [Array.length_toList]; exact hacc.1) fun j v e => hacc.2 j v (by rw [← Array.getElem?_toList]; exact e)
  refine ⟨.ref _, upd H1 _ (.lst (kvs.map (·.2))), I2.laid (t' := tk) hk (Nat.le_refl _)
    (show ObjOk X.prog X.w _ _ _ (.lst (kvs.map (·.2))) from ⟨by rw [List.length_map]; exact hz, acc.toList, c', by rw [ev]; exact kv_vals kv, by rw [Array.toArray_toList]; exact hD⟩), rfl, q _ (I2.hok.fresh (Nat.le_refl _))⟩
end
end L2

set_option Elab.async false
set_option linter.all false
set_option maxRecDepth 100000
set_option maxHeartbeats 4000000
/-! len(set(ints)), some of them twice -/
namespace L2
open PySem PySem.Spec PyProof.Rows
theorem fm_nodup (val : Nat → Int) : ∀ i, (firstMet val i).Nodup
  | 0 => by rw [firstMet_zero]; exact List.nodup_nil
  | i + 1 => by
    rw [firstMet_succ]
    have ih := fm_nodup val i
    unfold step_dedup
    split
    · exact ih
    · rename_i c
      rw [List.nodup_append]
      refine ⟨ih, by simp, fun a ha b hb => ?_⟩
      rw [List.mem_singleton.mp hb]
      intro z
      apply c
      rw [List.any_eq_true]
      exact ⟨a, ha, by rw [z]; exact beq_self_eq_true _⟩
theorem fm_mem (ns : List Int) (k : Int) : k ∈ firstMet (fun i => ns.getD i 0) ns.length ↔ k ∈ ns := by
  have h := firstMet_any (fun i => ns.getD i 0) ns.length k
  have e : (List.range ns.length).map (fun i => ns.getD i 0) = ns := by
    refine List.ext_getElem (by simp) fun i h1 h2 => ?_
    simp [List.getElem?_eq_getElem h2]
  rw [e] at h
  have q : ∀ l : List Int, l.any (· == k) = true ↔ k ∈ l := fun l => by
    rw [List.any_eq_true]
    exact ⟨fun ⟨x, hx, e⟩ => by rw [← eq_of_beq e]; exact hx, fun h => ⟨k, h, beq_self_eq_true _⟩⟩
  rw [← q, h, q]
def tLenSetG (K : PySem.W.Frag) (t : TA) : TE := fun σ H Q => t σ H fun vs H1 => ∃ (l : Addr) (ns : List Int), vs = [V.ref l] ∧ SqL K H1 l (ns.map V.int) ∧ ns.length ≤ 4000 ∧ ∀ ys : List Int, ys.Nodup → (∀ k, k ∈ ys ↔ k ∈ ns) → ys.length ≤ ns.length → Q (.int ys.length) H1
section
variable {X : Cx} {e : Expr} {t : TA} {p p2 pos pos2 : Pos}
theorem pe_lenSetG (hc : X.calm = true) (hA : PA X [e] t) (hg : Gl X "len") (hm : X.mg "len" = none) (hg2 : Gl X "set") (hm2 : X.mg "set" = none)
    (he : starEach [e] X.env = (false, eval e X.env) :: starEach [] X.env := by rfl) :
    PE X (.Call (.Name "len" p) [.Call (.Name "set" p2) [e] [] pos2] [] pos) (tLenSetG X.K t) := by
  refine ⟨fun pins s σ H Q I h => ?_⟩
  refine Call_ (ld_blt I hg hm PySem.boot_len ?_)
  refine PyProof.Rows.callWith_builtin1 (PyProof.Rows.args_cons ?_ rfl) rfl rfl
  refine Call_ (ld_blt I hg2 hm2 PyProof.Rows.boot_set ?_)
  refine PyProof.Rows.callWith_type1 (thn (hA.run pos2 pins s σ H _ I h) fun us s1 ⟨vs, H1, I1, r1, l, ns, ev, hq, hl, q1⟩ => ?_) he rfl
  subst ev
  rw [Vals.ref1 r1]
  obtain ⟨its, r, pl, hz⟩ := I1.list hq
  have hlen : its.toArray.size = ns.length := by rw [List.size_toArray, ← r.length, List.length_map]
  refine call_set_list (I1.ok.hd hc) pl.isList (ns := ns) (by simpa using RZ.intsAre_vals r) (by rw [hlen]; unfold scanBound; omega) fun h' tk hS hk => ?_
  refine PyProof.Rows.args_nil ?_
  rw [hlen] at hS
  obtain ⟨o, es, ep, tt, ho, hex, hd, _, _, _, hf, hn⟩ := hS
  have I2 : Inv X pins σ H1 { s1 with heap := h', toks := tk } := I1.kept fun b o e => hk b o (Heap.lt_size e) e
  have hle := firstMet_length_le (fun i => ns.getD i 0) ns.length
  exact call_len_set ho hex hd hf (by rw [hn] <;> omega) ⟨.int _, H1, I2.tok _, ⟨_, by rw [hn]⟩, q1 _ (fm_nodup _ _) (fm_mem ns) hle⟩
end
end L2

set_option Elab.async false
set_option linter.all false
set_option maxRecDepth 100000
set_option maxHeartbeats 4000000
/-! several except clauses, some of which name the error -/
namespace L2
open PySem PySem.Spec PyProof.Rows
/-- an error at g that has landed in the frame of X -/
def Lnd (X : Cx) (pins : List (Addr × Obj)) (τ : St) (G : Hp) (g : Addr) (cls : Value) (d : Option Addr) (t : Shared) : Prop :=
  ∃ (B : Heap) (t0 : Shared), Inv X pins τ G t0 ∧ (∀ b o, t0.heap.get? b = some o → b ∉ frs X.stack → B.get? b = some o) ∧ t0.heap.UpToSlots t.heap ∧
    HandSPX.FlyingZ B (X.env :: X.outer) g (Zc cls d) t.heap ∧ G g = none ∧ t.os = t0.os ∧ AllBare t.gens ∧ g ≠ X.env.locals ∧ g ∉ X.fs
section
variable {X : Cx} {pins : List (Addr × Obj)} {τ : St} {G : Hp} {g : Addr} {cls : Value} {d : Option Addr} {t : Shared}
theorem Lnd.inv (l : Lnd X pins τ G g cls d t) : Inv X pins τ G t := by
  obtain ⟨B, t0, J, n, u, f, _, o, y, _⟩ := l
  exact J.landed n f.1 u o y
theorem Lnd.as_suite (l : Lnd X pins τ G g cls d t) : ∃ oe, Zc cls d oe ∧ (∃ vs, oe.data = .fields vs) ∧ t.heap.get? g = some oe ∧ Inv (X.suite g ((g, oe) :: (X.pn ++ pins))) [] τ G t := by
  have J := l.inv
  obtain ⟨B, t0, _, _, _, f, z, _, _, n1, n2⟩ := l
  obtain ⟨oe, vs, h1, h2, h3⟩ := f.there
  exact ⟨oe, h2, ⟨vs, h3⟩, h1, J.suite h1 h3 z n1 n2⟩
theorem Lnd.again {M : Model} {A : Around} {E : Value → Shared → Prop} {Q : Unit → Shared → Prop} (l : Lnd X pins τ G g cls d t) (q : ∀ t', Lnd X pins τ G g cls d t' → Q () t') : wpAny M A (setFlight (.ref g) none) Q E t := by
  obtain ⟨B, t0, J, n, u, f, z, o, y, n1, n2⟩ := l
  exact HandSPX.lands_againZ f fun h' f' u' => q _ ⟨B, t0, J, n, u.trans u', f', z, o, y, n1, n2⟩
/-- what the clauses wish, one behind the other; a slot where the clause names the error -/
def wCls (K : PySem.W.Frag) (Wout : WX) (D : Ends) : List (Value × Option Nat × (Addr → Value → Option Addr → TS)) → WX
  | [] => Wout
  | (c, none, ts) :: r => fun cls d τ G => ∃ b, PySem.W.exmOne K cls c = some b ∧ (b = true → ∀ g, G g = none → ts g cls d D τ G) ∧ (b = false → wCls K Wout D r cls d τ G)
  | (c, some i, ts) :: r => fun cls d τ G => ∃ b, PySem.W.exmOne K cls c = some b ∧
      (b = true → ∀ g, G g = none → ts g cls d { nx := fun τ' G' => D.nx (τ'.set i none) G', rt := D.rt, bk := fun τ' G' => D.bk (τ'.set i none) G', ct := fun τ' G' => D.ct (τ'.set i none) G' } (τ.set i (some (.ref g))) G) ∧
      (b = false → wCls K Wout D r cls d τ G)
inductive ClsOk (X : Cx) : List ExceptHandler → List (Value × Option Nat × (Addr → Value → Option Addr → TS)) → Prop
  | nil : ClsOk X [] []
  | plain {x : Str} {c : Value} {ts : Addr → Value → Option Addr → TS} {b : Stmt} {bs : List Stmt} {np hp : Pos} {hds : List ExceptHandler} {l : List (Value × Option Nat × (Addr → Value → Option Addr → TS))} (hc : Names X x c)
      (hsu : ∀ (g : Addr) (oe : Obj) (cls : Value) (d : Option Addr) (pn : List (Addr × Obj)), Zc cls d oe → (∃ vs, oe.data = .fields vs) → PSs (X.suite g ((g, oe) :: pn)) (b :: bs) (ts g cls d)) (r : ClsOk X hds l) :
      ClsOk X (.ExceptHandler (some (.Name x np)) none (b :: bs) hp :: hds) ((c, none, ts) :: l)
  | named {x n : Str} {i : Nat} {c : Value} {ts : Addr → Value → Option Addr → TS} {b : Stmt} {bs : List Stmt} {np hp : Pos} {hds : List ExceptHandler} {l : List (Value × Option Nat × (Addr → Value → Option Addr → TS))} (hc : Names X x c)
      (hN : X.N.Nodup) (hi : X.N[i]? = some n) (hk : X.env.kindOf n = some .local)
      (hsu : ∀ (g : Addr) (oe : Obj) (cls : Value) (d : Option Addr) (pn : List (Addr × Obj)), Zc cls d oe → (∃ vs, oe.data = .fields vs) → PSs (X.suite g ((g, oe) :: pn)) (b :: bs) (ts g cls d)) (r : ClsOk X hds l) :
      ClsOk X (.ExceptHandler (some (.Name x np)) (some n) (b :: bs) hp :: hds) ((c, some i, ts) :: l)
/-- the test of a clause -/
theorem Lnd.test {x : Str} {c : Value} {np hp : Pos} {b : Bool} {R : Result → Shared → Prop} (l : Lnd X pins τ G g cls d t) (hc : Names X x c) (e : PySem.W.exmOne X.K cls c = some b) (q : R (.ok (if b then .brk else .next)) t) :
    codeAny (model X.prog X.w) (X.A.mark (some (.ref g))) (.handlers (.ref g) [.ExceptHandler (some (.Name x np)) none [] hp] X.env) R t := by
  obtain ⟨oe, z, hv, he, S⟩ := l.as_suite
  have ty : PySem.W.Looks (model X.prog X.w) t.heap (typeOf (.ref g)) cls := fun A1 Q1 E1 s1 k1 q1 => wpAny_typeOf_ref (k1 _ _ he) (by rw [z.1]; exact q1)
  refine codeAny_handlers_test ?_
  have look := PySem.W.exm_one (M := model X.prog X.w) l.inv.kIn ty e
  obtain ⟨h1, h2, h3 | ⟨h3, h4, h5⟩⟩ := hc
  · exact ld_glob (X := X.suite g ((g, oe) :: (X.pn ++ pins))) S h1 h3 (look.here (by exact q)) h2
  · exact ld_blt (X := X.suite g ((g, oe) :: (X.pn ++ pins))) S h1 h3 h4 (look.here (by exact q)) h5 h2
/-- the clauses, gone through -/
theorem Lnd.through {Wout : WX} {D : Ends} (hst : X.stack = X.env :: X.outer) (hfr : X.env.frame = some X.env.locals) (tk : Takes X Wout) (ok : X.Ok) {hds : List ExceptHandler} {cl : List (Value × Option Nat × (Addr → Value → Option Addr → TS))} (hk : ClsOk X hds cl) :
    ∀ {t : Shared}, Lnd X pins τ G g cls d t → wCls X.K Wout D cl cls d τ G → wpAny (model X.prog X.w) X.A (handleBy (.ref g) X.env hds) (SP X pins D) X.xe t := by
  induction hk with
  | nil =>
    intro t l wish
    refine wpAny_handleBy_nil ?_
    obtain ⟨B, t0, J, n, u, f, z, o, y, _⟩ := l
    obtain ⟨_, _, _, oe, vs, trb, _, _, hob, _, hda, htr, _⟩ := id f
    have out : wpAny (model X.prog X.w) X.A (setFlight (.ref g) X.env.frame) (fun _ t4 => wpAny (model X.prog X.w) X.A (throw (.ref g) : Sem Flow) (SP X pins D) X.xe t4) X.xe t := by
      rw [hfr]
      exact HandSPX.setFlight_upZ f fun h4 held u4 => wpAny_throw (tk _ _ ⟨g, B, t0, pins, τ, G, cls, d, rfl, J, n, u.trans u4, .inr (.inr (by rw [hst]; exact held)), z, o, y, wish⟩)
    unfold PySem.passOn
    refine wpAny_bind (wpAny_field hob hda htr ?_)
    rw [if_neg (by simp : ¬ ((Value.ref trb == Value.none) = true))]
    first
      | exact wpAny_bind (wpAny_pure (wpAny_bind out))
      | exact wpAny_bind out
  | @plain x c ts b bs np hp hds2 l2 hc hsu r ih =>
    intro t l wish
    obtain ⟨k, e, yes, no⟩ := wish
    refine wpAny_handleBy_cons (l.test hc e ?_) (by intro q; cases q)
    cases k with
    | false => exact ih l (no rfl)
    | true =>
      refine codeAny_handlers_suite (l.again fun t' l' => ?_)
      obtain ⟨oe, z, hv, _, S⟩ := l'.as_suite
      have na : G g = none := by obtain ⟨_, _, _, _, _, _, q, _⟩ := l'; exact q
      refine wpAny_mono ((hsu g oe cls d (X.pn ++ pins) z hv).run [] _ _ G _ S (yes rfl g na)) (fun fl t6 hsp => ?_) (fun _ _ q => q.elim)
      match fl, hsp with
      | .next, ⟨_, _, S6, q6⟩ => exact ⟨_, _, S6.unsuite ok, q6⟩
      | .brk, ⟨_, _, S6, q6⟩ => exact ⟨_, _, S6.unsuite ok, q6⟩
      | .cont, ⟨_, _, S6, q6⟩ => exact ⟨_, _, S6.unsuite ok, q6⟩
      | .ret _, ⟨_, _, _, S6, r6, q6⟩ => exact ⟨_, _, _, S6.unsuite ok, r6, q6⟩
  | @named x n i c ts b bs np hp hds2 l2 hc hN hi hkd hsu r ih =>
    intro t l wish
    obtain ⟨k, e, yes, no⟩ := wish
    refine wpAny_handleBy_cons (l.test hc e ?_) (by intro q; cases q)
    cases k with
    | false => exact ih l (no rfl)
    | true =>
      refine codeAny_handlers_suite_as (l.again fun t' l' => ?_)
      obtain ⟨oe, z, hv, _, S⟩ := l'.as_suite
      have na : G g = none := by obtain ⟨_, _, _, _, _, _, q, _⟩ := l'; exact q
      refine store_ok (X := X.suite g ((g, oe) :: (X.pn ++ pins))) (v := .ref g) S hN hi (.inl hkd) rfl (fun t5 S5 => ?_) (.inr hkd)
      refine wpAny_mono ((hsu g oe cls d (X.pn ++ pins) z hv).run [] t5 _ G _ S5 (yes rfl g na)) (fun fl t6 hsp => ?_) (fun _ _ q => q.elim)
      match fl, hsp with
      | .next, ⟨_, _, S6, q6⟩ => exact gone_ok (S6.unsuite ok) hN hi hkd fun t7 J7 => ⟨_, _, J7, q6⟩
      | .brk, ⟨_, _, S6, q6⟩ => exact gone_ok (S6.unsuite ok) hN hi hkd fun t7 J7 => ⟨_, _, J7, q6⟩
      | .cont, ⟨_, _, S6, q6⟩ => exact gone_ok (S6.unsuite ok) hN hi hkd fun t7 J7 => ⟨_, _, J7, q6⟩
      | .ret _, ⟨_, _, _, S6, r6, q6⟩ => exact gone_ok (S6.unsuite ok) hN hi hkd fun t7 J7 => ⟨_, _, _, J7, r6, q6⟩
/-- try: body / except X: .. / except Y as e: .. -/
theorem ps_try_cls {body : List Stmt} {h₀ : ExceptHandler} {hds : List ExceptHandler} {pos : Pos} {tb : WX → TS} {Wout : WX} {cl : List (Value × Option Nat × (Addr → Value → Option Addr → TS))} (hst : X.stack = X.env :: X.outer) (hfr : X.env.frame = some X.env.locals) (tk : Takes X Wout)
    (hb : ∀ (W : WX) (pn : List (Addr × Obj)) (xe : Value → Shared → Prop), Takes (X.tr pn xe) W → PassesOwn (model X.prog X.w) X.A X.env xe → PSs (X.tr pn xe) body (tb W)) (hh : ClsOk X (h₀ :: hds) cl) :
    PS X (.Try body (h₀ :: hds) [] [] pos) (fun D σ H => tb (wCls X.K Wout D cl) D σ H) := by
  refine ⟨fun ps s0 σ0 H0 D I0 wish => ?_⟩
  have ok := I0.ok
  have frs1 : X.A.frames = some (X.env :: X.outer) := ok.frames.trans (congrArg some hst)
  let caught : Value → Shared → Prop := fun er ta => wpAny (model X.prog X.w) X.A (noteFrame er X.env) (fun _ tb' => wpAny (model X.prog X.w) X.A (setFlight er none) (fun _ tc => wpAny (model X.prog X.w) X.A (handleBy er X.env (h₀ :: hds)) (SP X ps D) X.xe tc) X.xe tb') X.xe ta
  have land : Takes (X.tr (X.pn ++ ps) caught) (wCls X.K Wout D cl) := by
    rintro er ta ⟨g, B, t0, _, τ, G, cls, d, rfl, J0, n, u, sky, na, o, y, q⟩
    have J := J0.ofTry ok
    refine Sky.land (B := B) (a := g) (Z := Zc cls d) (L := X.env.locals) (outer := X.outer) Zc.steady frs1 hfr (by rw [← hst]; exact sky) fun h3 f3 u3 => ?_
    obtain ⟨oe, vs, e1, e2, e3⟩ := f3.there
    have away : g ∉ frs (X.env :: X.outer) := fun hm => by
      obtain ⟨_, o2, q1, q2⟩ := f3.2.2.1.mem hm
      rw [e1] at q1
      cases q1
      exact q2 _ e3
    refine Lnd.through hst hfr tk ok hh ⟨B, t0, J, n, u.trans u3, f3, na, o, y, fun z => ?_, fun hm => ?_⟩ q
    · exact away (List.mem_filterMap.mpr ⟨X.env, List.mem_cons_self, by rw [hfr, z]⟩)
    · obtain ⟨en, m1, m2⟩ := List.mem_filterMap.mp hm
      exact away (List.mem_filterMap.mpr ⟨en, List.mem_cons_of_mem _ m1, m2⟩)
  refine wpAny_Try_except (wpAny_mono ((hb _ (X.pn ++ ps) caught land PassesOwn.looking).run [] s0 σ0 H0 D (I0.toTry _) wish) (fun fl t1 z => ?_) fun _ _ z => z)
  match fl, z with
  | .next, ⟨_, _, J1, q1⟩ => exact wpAny_execs_nil ⟨_, _, J1.ofTry ok, q1⟩
  | .brk, ⟨_, _, J1, q1⟩ => exact ⟨_, _, J1.ofTry ok, q1⟩
  | .cont, ⟨_, _, J1, q1⟩ => exact ⟨_, _, J1.ofTry ok, q1⟩
  | .ret _, ⟨_, _, _, J1, r1, q1⟩ => exact ⟨_, _, _, J1.ofTry ok, r1, q1⟩
end
end L2

set_option Elab.async false
set_option linter.all false
set_option maxRecDepth 100000
set_option maxHeartbeats 4000000
/-! sorted(a list of lists of ints), any length -/
namespace L2
open PySem PySem.Spec PyProof.Rows
theorem each_self {α : Type} {P : α → α → Prop} : ∀ l : List α, (∀ v ∈ l, P v v) → PySem.W.EachIs P l l
  | [], _ => .nil
  | v :: l, h => .cons (h v (List.mem_cons_self ..)) (each_self l fun u hu => h u (List.mem_cons_of_mem _ hu))
theorem each_eq {α : Type} : ∀ {l m : List α}, PySem.W.EachIs (fun v b : α => v = b) l m → l = m
  | _, _, .nil => rfl
  | _, _, .cons e t => by rw [e, each_eq t]
def rSortedLL (K : PySem.W.Frag) : List V → Hp → VK → Prop := fun vs H Q => ∃ (a : Addr) (xs : List V) (k : V → List Int), vs = [V.ref a] ∧ SqL K H a xs ∧ (∀ x ∈ xs, ∃ t, x = V.ref t ∧ SqL K H t ((k x).map V.int)) ∧
  ∀ ys p, ys.Pairwise (fun x y => k x ≤ k y) → ys.Perm xs → H p = none → Q (.ref p) (upd H p (.lst ys))
theorem dpAll_ints {K : PySem.W.Frag} {H : Hp} : ∀ ns : List Int, DpAll K H (ns.map V.int) (ns.map PyData.int)
  | [] => .nil
  | n :: r => .cons (.int n) (dpAll_ints r)
section
variable {X : Cx}
theorem cr_sortedLL (hu : X.A.units + 64 < cLine) : CallR X (.builtin "sorted") (rSortedLL X.K) := by
  intro pins s σ H vs us Q I r h
  obtain ⟨a, xs, k, rfl, hs, hx, q⟩ := h
  obtain ⟨its, rv, hl, hz⟩ := I.list hs
  obtain ⟨u, rfl, ru⟩ := vals1 r
  obtain rfl : u = Value.ref a := ru
  obtain ⟨e1, e2⟩ := refs_back rv fun x m => by
    obtain ⟨t, e, _⟩ := hx x m
    exact ⟨t, e⟩
  have hd1 : ∀ u : Value, (PyData.list ((k (backV u)).map PyData.int)).depth ≤ 1 := fun u => by
    show PyData.depthAll _ + 1 ≤ 1
    rw [PySem.W.depth_ints]
    exact Nat.le_refl _
  refine PySem.W.sorted_data (vs := its) (bs := its) (enc := fun u => .list ((k (backV u)).map .int)) (R := fun v b => v = b) hl.isList (each_self _ fun _ _ => rfl) (each_self _ fun v hv => ?_) (PySem.W.AllAlike.of fun b b' => ?_) (PySem.W.Sortable.others (enc := fun u : Value => PyData.list ((k (backV u)).map PyData.int)) fun b => ⟨(fun z => nomatch z), (fun xs z => nomatch z)⟩) (by rw [← rv.length]; exact hz) (fun b _ => ?_) fun out ho he => ?_
  · obtain ⟨t, rfl⟩ := e2 v hv
    have hm : V.ref t ∈ xs := by rw [e1]; exact List.mem_map.mpr ⟨_, hv, rfl⟩
    obtain ⟨t', e, ht⟩ := hx _ hm
    cases e
    exact Dp.reads I _ _ _ (.lst ht (dpAll_ints _)) rfl
  · show PySem.W.alike (.list _) (.list _) = true
    rw [PySem.W.alike]
    exact PySem.W.alike_ints _ _
  · have := hd1 b
    omega
  · have eo := each_eq he
    rw [PySem.W.dataLe_rows] at eo
    have hp : out.Perm its := by rw [eo]; exact List.mergeSort_perm _ _
    have hs2 : out.Pairwise fun u v => k (backV u) ≤ k (backV v) := by
      rw [eo]
      refine (List.pairwise_mergeSort (fun a b c h1 h2 => ?_) (fun a b => ?_) its).imp fun h => of_decide_eq_true h
      · exact decide_eq_true (List.le_trans (of_decide_eq_true h1) (of_decide_eq_true h2))
      · rw [Bool.or_eq_true, decide_eq_true_iff, decide_eq_true_iff]
        exact List.le_total _ _
    have h3 : ∀ u ∈ out, ∃ a, u = Value.ref a := fun u hu => e2 u (hp.mem_iff.mp hu)
    obtain ⟨n, hn⟩ := sortedAll_at s.heap its out.toArray
    have hb : (out.map backV).Perm xs := by
      rw [e1]
      exact hp.map backV
    have hfr : s.heap.objs.size ≤ s.heap.objs.size + 1 := Nat.le_succ _
    refine ⟨.ref _, upd H (s.heap.objs.size + 1) (.lst (out.map backV)), I.laid (t' := s.toks) (fun b o e => sortedAll_old e) hfr ⟨?_, out, n, vals_back h3, hn⟩, rfl, q _ _ (List.pairwise_map.mpr hs2) hb (I.hok.fresh hfr)⟩
    rw [hb.length_eq]
    exact hz
end
end L2

set_option Elab.async false
set_option linter.all false
set_option maxRecDepth 100000
set_option maxHeartbeats 4000000
namespace J
open PySem L2
def topS (i : Nat) : Stmt := PySem.Challenge.pw_onewayread_k08_texts_and_states_refused.main.body.getD i (.Pass ⟨0, 0, 0, 0⟩)
abbrev s__wall : Stmt := topS 0
abbrev N__wall : List Str := ["k"]
abbrev P__wall : List Str := ["k"]
theorem sc__wall : FnScope N__wall P__wall (defScope s__wall) := ⟨rfl, rfl, rfl, by decide +kernel, rfl, by decide +kernel, by decide +kernel⟩
abbrev s_InvalidLoom_init : Stmt := inClass (topS 3) 0
abbrev N_InvalidLoom_init : List Str := ["self", "part", "at"]
abbrev P_InvalidLoom_init : List Str := ["self", "part", "at"]
theorem sc_InvalidLoom_init : FnScope N_InvalidLoom_init P_InvalidLoom_init (defScope s_InvalidLoom_init) := ⟨rfl, rfl, rfl, by decide +kernel, rfl, by decide +kernel, by decide +kernel⟩
abbrev s_LimitExceeded_init : Stmt := inClass (topS 7) 0
abbrev N_LimitExceeded_init : List Str := ["self", "limit"]
abbrev P_LimitExceeded_init : List Str := ["self", "limit"]
theorem sc_LimitExceeded_init : FnScope N_LimitExceeded_init P_LimitExceeded_init (defScope s_LimitExceeded_init) := ⟨rfl, rfl, rfl, by decide +kernel, rfl, by decide +kernel, by decide +kernel⟩
abbrev s_is_number : Stmt := topS 13
abbrev N_is_number : List Str := ["thing", "low", "high"]
abbrev P_is_number : List Str := ["thing", "low", "high"]
theorem sc_is_number : FnScope N_is_number P_is_number (defScope s_is_number) := ⟨rfl, rfl, rfl, by decide +kernel, rfl, by decide +kernel, by decide +kernel⟩
abbrev s_is_sequence : Stmt := topS 14
abbrev N_is_sequence : List Str := ["thing", "fewest", "most"]
abbrev P_is_sequence : List Str := ["thing", "fewest", "most"]
theorem sc_is_sequence : FnScope N_is_sequence P_is_sequence (defScope s_is_sequence) := ⟨rfl, rfl, rfl, by decide +kernel, rfl, by decide +kernel, by decide +kernel⟩
abbrev s_is_signs : Stmt := topS 15
abbrev N_is_signs : List Str := ["thing", "letters", "sign", "one", "other"]
abbrev P_is_signs : List Str := ["thing"]
theorem sc_is_signs : FnScope N_is_signs P_is_signs (defScope s_is_signs) := ⟨rfl, rfl, rfl, by decide +kernel, rfl, by decide +kernel, by decide +kernel⟩
abbrev s_is_string_over : Stmt := topS 16
abbrev N_is_string_over : List Str := ["signs", "thing", "fewest", "most", "sign"]
abbrev P_is_string_over : List Str := ["signs", "thing", "fewest", "most"]
theorem sc_is_string_over : FnScope N_is_string_over P_is_string_over (defScope s_is_string_over) := ⟨rfl, rfl, rfl, by decide +kernel, rfl, by decide +kernel, by decide +kernel⟩
abbrev s_is_word : Stmt := topS 17
abbrev N_is_word : List Str := ["signs", "thing"]
abbrev P_is_word : List Str := ["signs", "thing"]
theorem sc_is_word : FnScope N_is_word P_is_word (defScope s_is_word) := ⟨rfl, rfl, rfl, by decide +kernel, rfl, by decide +kernel, by decide +kernel⟩
abbrev s_check_signs : Stmt := topS 18
abbrev N_check_signs : List Str := ["signs"]
abbrev P_check_signs : List Str := ["signs"]
theorem sc_check_signs : FnScope N_check_signs P_check_signs (defScope s_check_signs) := ⟨rfl, rfl, rfl, by decide +kernel, rfl, by decide +kernel, by decide +kernel⟩
abbrev s_check_state : Stmt := topS 19
abbrev N_check_state : List Str := ["state"]
abbrev P_check_state : List Str := ["state"]
theorem sc_check_state : FnScope N_check_state P_check_state (defScope s_check_state) := ⟨rfl, rfl, rfl, by decide +kernel, rfl, by decide +kernel, by decide +kernel⟩
abbrev s_check_text : Stmt := topS 20
abbrev N_check_text : List Str := ["signs", "text"]
abbrev P_check_text : List Str := ["signs", "text"]
theorem sc_check_text : FnScope N_check_text P_check_text (defScope s_check_text) := ⟨rfl, rfl, rfl, by decide +kernel, rfl, by decide +kernel, by decide +kernel⟩
abbrev s_goes_on : Stmt := topS 23
abbrev N_goes_on : List Str := ["text", "at", "arc", "live", "beyond", "_", "word", "goal", "end"]
abbrev P_goes_on : List Str := ["text", "at", "arc", "live", "beyond"]
theorem sc_goes_on : FnScope N_goes_on P_goes_on (defScope s_goes_on) := ⟨rfl, rfl, rfl, by decide +kernel, rfl, by decide +kernel, by decide +kernel⟩
abbrev s_live_arcs : Stmt := topS 24
abbrev N_live_arcs : List Str := ["loom", "text", "beyond", "live", "at", "number", "arc", "_"]
abbrev P_live_arcs : List Str := ["loom", "text", "beyond"]
theorem sc_live_arcs : FnScope N_live_arcs P_live_arcs (defScope s_live_arcs) := ⟨rfl, rfl, rfl, by decide +kernel, rfl, by decide +kernel, by decide +kernel⟩
abbrev s_readings : Stmt := topS 25
abbrev N_readings : List Str := ["loom", "state", "text", "live", "found", "row", "waiting", "kept", "at", "number", "_", "word", "goal", "end", "other"]
abbrev P_readings : List Str := ["loom", "state", "text"]
theorem sc_readings : FnScope N_readings P_readings (defScope s_readings) := ⟨rfl, rfl, rfl, by decide +kernel, rfl, by decide +kernel, by decide +kernel⟩
abbrev s_count : Stmt := topS 26
abbrev N_count : List Str := ["loom", "state", "text", "ways", "at", "place", "word", "goal", "end", "_"]
abbrev P_count : List Str := ["loom", "state", "text"]
theorem sc_count : FnScope N_count P_count (defScope s_count) := ⟨rfl, rfl, rfl, by decide +kernel, rfl, by decide +kernel, by decide +kernel⟩
abbrev s_sure : Stmt := topS 27
abbrev N_sure : List Str := ["loom", "state", "text", "live", "row", "at", "place", "number", "_", "word"]
abbrev P_sure : List Str := ["loom", "state", "text"]
theorem sc_sure : FnScope N_sure P_sure (defScope s_sure) := ⟨rfl, rfl, rfl, by decide +kernel, rfl, by decide +kernel, by decide +kernel⟩
abbrev s_is_arc : Stmt := topS 30
abbrev N_is_arc : List Str := ["signs", "thing", "state", "word", "goal"]
abbrev P_is_arc : List Str := ["signs", "thing"]
theorem sc_is_arc : FnScope N_is_arc P_is_arc (defScope s_is_arc) := ⟨rfl, rfl, rfl, by decide +kernel, rfl, by decide +kernel, by decide +kernel⟩
abbrev s_Loom_init : Stmt := inClass (topS 31) 0
abbrev N_Loom_init : List Str := ["self", "signs", "arcs", "at", "arc"]
abbrev P_Loom_init : List Str := ["self", "signs", "arcs"]
theorem sc_Loom_init : FnScope N_Loom_init P_Loom_init (defScope s_Loom_init) := ⟨rfl, rfl, rfl, by decide +kernel, rfl, by decide +kernel, by decide +kernel⟩
abbrev s_Loom_eq : Stmt := inClass (topS 31) 1
abbrev N_Loom_eq : List Str := ["self", "other"]
abbrev P_Loom_eq : List Str := ["self", "other"]
theorem sc_Loom_eq : FnScope N_Loom_eq P_Loom_eq (defScope s_Loom_eq) := ⟨rfl, rfl, rfl, by decide +kernel, rfl, by decide +kernel, by decide +kernel⟩
abbrev s_Trail_init : Stmt := inClass (topS 33) 0
abbrev N_Trail_init : List Str := ["self", "ahead", "number", "far", "doubled"]
abbrev P_Trail_init : List Str := ["self", "ahead", "number"]
theorem sc_Trail_init : FnScope N_Trail_init P_Trail_init (defScope s_Trail_init) := ⟨rfl, rfl, rfl, by decide +kernel, rfl, by decide +kernel, by decide +kernel⟩
abbrev s_cut : Stmt := topS 34
abbrev N_cut : List Str := ["trail", "many"]
abbrev P_cut : List Str := ["trail", "many"]
theorem sc_cut : FnScope N_cut P_cut (defScope s_cut) := ⟨rfl, rfl, rfl, by decide +kernel, rfl, by decide +kernel, by decide +kernel⟩
abbrev s_shared : Stmt := topS 35
abbrev N_shared : List Str := ["one", "other"]
abbrev P_shared : List Str := ["one", "other"]
theorem sc_shared : FnScope N_shared P_shared (defScope s_shared) := ⟨rfl, rfl, rfl, by decide +kernel, rfl, by decide +kernel, by decide +kernel⟩
abbrev s_numbers_beyond : Stmt := topS 36
abbrev N_numbers_beyond : List Str := ["trail", "many", "numbers"]
abbrev P_numbers_beyond : List Str := ["trail", "many"]
theorem sc_numbers_beyond : FnScope N_numbers_beyond P_numbers_beyond (defScope s_numbers_beyond) := ⟨rfl, rfl, rfl, by decide +kernel, rfl, by decide +kernel, by decide +kernel⟩
abbrev s_arcs_by_beginnings : Stmt := topS 37
abbrev N_arcs_by_beginnings : List Str := ["loom", "table", "number", "state", "word", "goal", "end"]
abbrev P_arcs_by_beginnings : List Str := ["loom"]
theorem sc_arcs_by_beginnings : FnScope N_arcs_by_beginnings P_arcs_by_beginnings (defScope s_arcs_by_beginnings) := ⟨rfl, rfl, rfl, by decide +kernel, rfl, by decide +kernel, by decide +kernel⟩
abbrev s_Reader_init : Stmt := inClass (topS 38) 0
abbrev N_Reader_init : List Str := ["self", "loom", "state"]
abbrev P_Reader_init : List Str := ["self", "loom", "state"]
theorem sc_Reader_init : FnScope N_Reader_init P_Reader_init (defScope s_Reader_init) := ⟨rfl, rfl, rfl, by decide +kernel, rfl, by decide +kernel, by decide +kernel⟩
abbrev s_Reader_take : Stmt := inClass (topS 38) 1
abbrev N_Reader_take : List Str := ["self", "sign", "covers", "numbers"]
abbrev P_Reader_take : List Str := ["self", "sign"]
theorem sc_Reader_take : FnScope N_Reader_take P_Reader_take (defScope s_Reader_take) := ⟨rfl, rfl, rfl, by decide +kernel, rfl, by decide +kernel, by decide +kernel⟩
abbrev s_Reader_told : Stmt := inClass (topS 38) 2
abbrev N_Reader_told : List Str := ["self"]
abbrev P_Reader_told : List Str := ["self"]
theorem sc_Reader_told : FnScope N_Reader_told P_Reader_told (defScope s_Reader_told) := ⟨rfl, rfl, rfl, by decide +kernel, rfl, by decide +kernel, by decide +kernel⟩
abbrev s_Reader_text : Stmt := inClass (topS 38) 3
abbrev N_Reader_text : List Str := ["self"]
abbrev P_Reader_text : List Str := ["self"]
theorem sc_Reader_text : FnScope N_Reader_text P_Reader_text (defScope s_Reader_text) := ⟨rfl, rfl, rfl, by decide +kernel, rfl, by decide +kernel, by decide +kernel⟩
abbrev s_Reader_twin : Stmt := inClass (topS 38) 4
abbrev N_Reader_twin : List Str := ["self"]
abbrev P_Reader_twin : List Str := ["self"]
theorem sc_Reader_twin : FnScope N_Reader_twin P_Reader_twin (defScope s_Reader_twin) := ⟨rfl, rfl, rfl, by decide +kernel, rfl, by decide +kernel, by decide +kernel⟩
abbrev s_Reader__covers : Stmt := inClass (topS 38) 5
abbrev N_Reader__covers : List Str := ["self", "sign", "text", "found", "back", "place", "left", "state", "trail", "alone", "arcs"]
abbrev P_Reader__covers : List Str := ["self", "sign"]
theorem sc_Reader__covers : FnScope N_Reader__covers P_Reader__covers (defScope s_Reader__covers) := ⟨rfl, rfl, rfl, by decide +kernel, rfl, by decide +kernel, by decide +kernel⟩
abbrev s_sure_trail : Stmt := topS 39
abbrev N_sure_trail : List Str := ["covers", "trail", "alone", "arcs", "_", "other"]
abbrev P_sure_trail : List Str := ["covers"]
theorem sc_sure_trail : FnScope N_sure_trail P_sure_trail (defScope s_sure_trail) := ⟨rfl, rfl, rfl, by decide +kernel, rfl, by decide +kernel, by decide +kernel⟩
abbrev s_ends : Stmt := topS 40
abbrev N_ends : List Str := ["covers", "found", "trail", "alone", "arcs", "length", "number", "word", "goal", "longer"]
abbrev P_ends : List Str := ["covers"]
theorem sc_ends : FnScope N_ends P_ends (defScope s_ends) := ⟨rfl, rfl, rfl, by decide +kernel, rfl, by decide +kernel, by decide +kernel⟩
abbrev s_l_state : Stmt := topS 42
abbrev N_l_state : List Str := ["_law_script"]
abbrev P_l_state : List Str := ["_law_script"]
theorem sc_l_state : FnScope N_l_state P_l_state (defScope s_l_state) := ⟨rfl, rfl, rfl, by decide +kernel, rfl, by decide +kernel, by decide +kernel⟩
abbrev s_l_draw : Stmt := topS 43
abbrev N_l_draw : List Str := ["_law_state_here", "_law_many", "_law_digit", "_law_cell", "_law_number"]
abbrev P_l_draw : List Str := ["_law_state_here", "_law_many"]
theorem sc_l_draw : FnScope N_l_draw P_l_draw (defScope s_l_draw) := ⟨rfl, rfl, rfl, by decide +kernel, rfl, by decide +kernel, by decide +kernel⟩
abbrev s_l_word : Stmt := topS 44
abbrev N_l_word : List Str := ["_law_state_here", "_law_signs", "_law_most", "_law_size", "_law_k"]
abbrev P_l_word : List Str := ["_law_state_here", "_law_signs", "_law_most"]
theorem sc_l_word : FnScope N_l_word P_l_word (defScope s_l_word) := ⟨rfl, rfl, rfl, by decide +kernel, rfl, by decide +kernel, by decide +kernel⟩
abbrev s_l_loom : Stmt := topS 45
abbrev N_l_loom : List Str := ["_law_state_here", "_law_signs", "_law_places", "_law_many", "_law_most", "_law_arcs", "_law_k", "_law_start"]
abbrev P_l_loom : List Str := ["_law_state_here"]
theorem sc_l_loom : FnScope N_l_loom P_l_loom (defScope s_l_loom) := ⟨rfl, rfl, rfl, by decide +kernel, rfl, by decide +kernel, by decide +kernel⟩
abbrev s_l_made : Stmt := topS 46
abbrev N_l_made : List Str := ["_law_pair"]
abbrev P_l_made : List Str := ["_law_pair"]
theorem sc_l_made : FnScope N_l_made P_l_made (defScope s_l_made) := ⟨rfl, rfl, rfl, by decide +kernel, rfl, by decide +kernel, by decide +kernel⟩
abbrev s_l_odd : Stmt := topS 47
abbrev N_l_odd : List Str := ["_law_state_here", "_law_some"]
abbrev P_l_odd : List Str := ["_law_state_here"]
theorem sc_l_odd : FnScope N_l_odd P_l_odd (defScope s_l_odd) := ⟨rfl, rfl, rfl, by decide +kernel, rfl, by decide +kernel, by decide +kernel⟩
abbrev s_l_call : Stmt := topS 48
abbrev N_l_call : List Str := ["_law_which", "_law_loom_here", "_law_here", "_law_text"]
abbrev P_l_call : List Str := ["_law_which", "_law_loom_here", "_law_here", "_law_text"]
theorem sc_l_call : FnScope N_l_call P_l_call (defScope s_l_call) := ⟨rfl, rfl, rfl, by decide +kernel, rfl, by decide +kernel, by decide +kernel⟩
abbrev s_l_told : Stmt := topS 49
abbrev N_l_told : List Str := ["_law_which", "_law_loom_here", "_law_here", "_law_text", "e"]
abbrev P_l_told : List Str := ["_law_which", "_law_loom_here", "_law_here", "_law_text"]
theorem sc_l_told : FnScope N_l_told P_l_told (defScope s_l_told) := ⟨rfl, rfl, rfl, by decide +kernel, rfl, by decide +kernel, by decide +kernel⟩
abbrev s_law : Stmt := topS 50
abbrev N_law : List Str := ["_law_script", "_law_state_here", "_law_turn", "_law_pair", "_law_signs", "_law_arcs", "_law_loom_here", "_law_k", "_law_odd_here", "_law_which", "_law_bads", "_law_bad", "_law_twins", "_law_size", "_law_due", "_law_arc"]
abbrev P_law : List Str := ["_law_script"]
theorem sc_law : FnScope N_law P_law (defScope s_law) := ⟨rfl, rfl, rfl, by decide +kernel, rfl, by decide +kernel, by decide +kernel⟩
/-- what the top has written -/
structure Tx (K : PySem.W.Frag) (mg : Str → Option Value) : Type where
  f__wall : Addr
  fd__wall : FuncData
  F__wall : Fun K "_wall" "_wall" s__wall f__wall fd__wall
  b__wall : Binds K fd__wall P__wall []
  m__wall : mg "_wall" = some (.ref f__wall)
  f_InvalidLoom_init : Addr
  fd_InvalidLoom_init : FuncData
  F_InvalidLoom_init : Fun K "__init__" "InvalidLoom.__init__" s_InvalidLoom_init f_InvalidLoom_init fd_InvalidLoom_init
  b_InvalidLoom_init : Binds K fd_InvalidLoom_init P_InvalidLoom_init []
  f_LimitExceeded_init : Addr
  fd_LimitExceeded_init : FuncData
  F_LimitExceeded_init : Fun K "__init__" "LimitExceeded.__init__" s_LimitExceeded_init f_LimitExceeded_init fd_LimitExceeded_init
  b_LimitExceeded_init : Binds K fd_LimitExceeded_init P_LimitExceeded_init []
  f_is_number : Addr
  fd_is_number : FuncData
  F_is_number : Fun K "is_number" "is_number" s_is_number f_is_number fd_is_number
  b_is_number : Binds K fd_is_number P_is_number []
  m_is_number : mg "is_number" = some (.ref f_is_number)
  f_is_sequence : Addr
  fd_is_sequence : FuncData
  F_is_sequence : Fun K "is_sequence" "is_sequence" s_is_sequence f_is_sequence fd_is_sequence
  b_is_sequence : Binds K fd_is_sequence P_is_sequence []
  m_is_sequence : mg "is_sequence" = some (.ref f_is_sequence)
  f_is_signs : Addr
  fd_is_signs : FuncData
  F_is_signs : Fun K "is_signs" "is_signs" s_is_signs f_is_signs fd_is_signs
  b_is_signs : Binds K fd_is_signs P_is_signs []
  m_is_signs : mg "is_signs" = some (.ref f_is_signs)
  f_is_string_over : Addr
  fd_is_string_over : FuncData
  F_is_string_over : Fun K "is_string_over" "is_string_over" s_is_string_over f_is_string_over fd_is_string_over
  b_is_string_over : Binds K fd_is_string_over P_is_string_over []
  m_is_string_over : mg "is_string_over" = some (.ref f_is_string_over)
  f_is_word : Addr
  fd_is_word : FuncData
  F_is_word : Fun K "is_word" "is_word" s_is_word f_is_word fd_is_word
  b_is_word : Binds K fd_is_word P_is_word []
  m_is_word : mg "is_word" = some (.ref f_is_word)
  f_check_signs : Addr
  fd_check_signs : FuncData
  F_check_signs : Fun K "check_signs" "check_signs" s_check_signs f_check_signs fd_check_signs
  b_check_signs : Binds K fd_check_signs P_check_signs []
  m_check_signs : mg "check_signs" = some (.ref f_check_signs)
  f_check_state : Addr
  fd_check_state : FuncData
  F_check_state : Fun K "check_state" "check_state" s_check_state f_check_state fd_check_state
  b_check_state : Binds K fd_check_state P_check_state []
  m_check_state : mg "check_state" = some (.ref f_check_state)
  f_check_text : Addr
  fd_check_text : FuncData
  F_check_text : Fun K "check_text" "check_text" s_check_text f_check_text fd_check_text
  b_check_text : Binds K fd_check_text P_check_text []
  m_check_text : mg "check_text" = some (.ref f_check_text)
  f_goes_on : Addr
  fd_goes_on : FuncData
  F_goes_on : Fun K "goes_on" "goes_on" s_goes_on f_goes_on fd_goes_on
  b_goes_on : Binds K fd_goes_on P_goes_on []
  m_goes_on : mg "goes_on" = some (.ref f_goes_on)
  f_live_arcs : Addr
  fd_live_arcs : FuncData
  F_live_arcs : Fun K "live_arcs" "live_arcs" s_live_arcs f_live_arcs fd_live_arcs
  b_live_arcs : Binds K fd_live_arcs P_live_arcs []
  m_live_arcs : mg "live_arcs" = some (.ref f_live_arcs)
  f_readings : Addr
  fd_readings : FuncData
  F_readings : Fun K "readings" "readings" s_readings f_readings fd_readings
  b_readings : Binds K fd_readings P_readings []
  m_readings : mg "readings" = some (.ref f_readings)
  f_count : Addr
  fd_count : FuncData
  F_count : Fun K "count" "count" s_count f_count fd_count
  b_count : Binds K fd_count P_count []
  m_count : mg "count" = some (.ref f_count)
  f_sure : Addr
  fd_sure : FuncData
  F_sure : Fun K "sure" "sure" s_sure f_sure fd_sure
  b_sure : Binds K fd_sure P_sure []
  m_sure : mg "sure" = some (.ref f_sure)
  f_is_arc : Addr
  fd_is_arc : FuncData
  F_is_arc : Fun K "is_arc" "is_arc" s_is_arc f_is_arc fd_is_arc
  b_is_arc : Binds K fd_is_arc P_is_arc []
  m_is_arc : mg "is_arc" = some (.ref f_is_arc)
  f_Loom_init : Addr
  fd_Loom_init : FuncData
  F_Loom_init : Fun K "__init__" "Loom.__init__" s_Loom_init f_Loom_init fd_Loom_init
  b_Loom_init : Binds K fd_Loom_init P_Loom_init []
  f_Loom_eq : Addr
  fd_Loom_eq : FuncData
  F_Loom_eq : Fun K "__eq__" "Loom.__eq__" s_Loom_eq f_Loom_eq fd_Loom_eq
  b_Loom_eq : Binds K fd_Loom_eq P_Loom_eq []
  f_Trail_init : Addr
  fd_Trail_init : FuncData
  F_Trail_init : Fun K "__init__" "Trail.__init__" s_Trail_init f_Trail_init fd_Trail_init
  b_Trail_init : Binds K fd_Trail_init P_Trail_init []
  f_cut : Addr
  fd_cut : FuncData
  F_cut : Fun K "cut" "cut" s_cut f_cut fd_cut
  b_cut : Binds K fd_cut P_cut []
  m_cut : mg "cut" = some (.ref f_cut)
  f_shared : Addr
  fd_shared : FuncData
  F_shared : Fun K "shared" "shared" s_shared f_shared fd_shared
  b_shared : Binds K fd_shared P_shared []
  m_shared : mg "shared" = some (.ref f_shared)
  f_numbers_beyond : Addr
  fd_numbers_beyond : FuncData
  F_numbers_beyond : Fun K "numbers_beyond" "numbers_beyond" s_numbers_beyond f_numbers_beyond fd_numbers_beyond
  b_numbers_beyond : Binds K fd_numbers_beyond P_numbers_beyond []
  m_numbers_beyond : mg "numbers_beyond" = some (.ref f_numbers_beyond)
  f_arcs_by_beginnings : Addr
  fd_arcs_by_beginnings : FuncData
  F_arcs_by_beginnings : Fun K "arcs_by_beginnings" "arcs_by_beginnings" s_arcs_by_beginnings f_arcs_by_beginnings fd_arcs_by_beginnings
  b_arcs_by_beginnings : Binds K fd_arcs_by_beginnings P_arcs_by_beginnings []
  m_arcs_by_beginnings : mg "arcs_by_beginnings" = some (.ref f_arcs_by_beginnings)
  f_Reader_init : Addr
  fd_Reader_init : FuncData
  F_Reader_init : Fun K "__init__" "Reader.__init__" s_Reader_init f_Reader_init fd_Reader_init
  b_Reader_init : Binds K fd_Reader_init P_Reader_init []
  f_Reader_take : Addr
  fd_Reader_take : FuncData
  F_Reader_take : Fun K "take" "Reader.take" s_Reader_take f_Reader_take fd_Reader_take
  b_Reader_take : Binds K fd_Reader_take P_Reader_take []
  f_Reader_told : Addr
  fd_Reader_told : FuncData
  F_Reader_told : Fun K "told" "Reader.told" s_Reader_told f_Reader_told fd_Reader_told
  b_Reader_told : Binds K fd_Reader_told P_Reader_told []
  f_Reader_text : Addr
  fd_Reader_text : FuncData
  F_Reader_text : Fun K "text" "Reader.text" s_Reader_text f_Reader_text fd_Reader_text
  b_Reader_text : Binds K fd_Reader_text P_Reader_text []
  f_Reader_twin : Addr
  fd_Reader_twin : FuncData
  F_Reader_twin : Fun K "twin" "Reader.twin" s_Reader_twin f_Reader_twin fd_Reader_twin
  b_Reader_twin : Binds K fd_Reader_twin P_Reader_twin []
  f_Reader__covers : Addr
  fd_Reader__covers : FuncData
  F_Reader__covers : Fun K "_covers" "Reader._covers" s_Reader__covers f_Reader__covers fd_Reader__covers
  b_Reader__covers : Binds K fd_Reader__covers P_Reader__covers []
  f_sure_trail : Addr
  fd_sure_trail : FuncData
  F_sure_trail : Fun K "sure_trail" "sure_trail" s_sure_trail f_sure_trail fd_sure_trail
  b_sure_trail : Binds K fd_sure_trail P_sure_trail []
  m_sure_trail : mg "sure_trail" = some (.ref f_sure_trail)
  f_ends : Addr
  fd_ends : FuncData
  F_ends : Fun K "ends" "ends" s_ends f_ends fd_ends
  b_ends : Binds K fd_ends P_ends []
  m_ends : mg "ends" = some (.ref f_ends)
  f_l_state : Addr
  fd_l_state : FuncData
  F_l_state : Fun K "_law_state" "_law_state" s_l_state f_l_state fd_l_state
  b_l_state : Binds K fd_l_state P_l_state []
  m_l_state : mg "_law_state" = some (.ref f_l_state)
  f_l_draw : Addr
  fd_l_draw : FuncData
  F_l_draw : Fun K "_law_draw" "_law_draw" s_l_draw f_l_draw fd_l_draw
  b_l_draw : Binds K fd_l_draw P_l_draw []
  m_l_draw : mg "_law_draw" = some (.ref f_l_draw)
  f_l_word : Addr
  fd_l_word : FuncData
  F_l_word : Fun K "_law_word" "_law_word" s_l_word f_l_word fd_l_word
  b_l_word : Binds K fd_l_word P_l_word []
  m_l_word : mg "_law_word" = some (.ref f_l_word)
  f_l_loom : Addr
  fd_l_loom : FuncData
  F_l_loom : Fun K "_law_loom" "_law_loom" s_l_loom f_l_loom fd_l_loom
  b_l_loom : Binds K fd_l_loom P_l_loom []
  m_l_loom : mg "_law_loom" = some (.ref f_l_loom)
  f_l_made : Addr
  fd_l_made : FuncData
  F_l_made : Fun K "_law_made" "_law_made" s_l_made f_l_made fd_l_made
  b_l_made : Binds K fd_l_made P_l_made []
  m_l_made : mg "_law_made" = some (.ref f_l_made)
  f_l_odd : Addr
  fd_l_odd : FuncData
  F_l_odd : Fun K "_law_odd" "_law_odd" s_l_odd f_l_odd fd_l_odd
  b_l_odd : Binds K fd_l_odd P_l_odd []
  m_l_odd : mg "_law_odd" = some (.ref f_l_odd)
  f_l_call : Addr
  fd_l_call : FuncData
  F_l_call : Fun K "_law_call" "_law_call" s_l_call f_l_call fd_l_call
  b_l_call : Binds K fd_l_call P_l_call []
  m_l_call : mg "_law_call" = some (.ref f_l_call)
  f_l_told : Addr
  fd_l_told : FuncData
  F_l_told : Fun K "_law_told" "_law_told" s_l_told f_l_told fd_l_told
  b_l_told : Binds K fd_l_told P_l_told []
  m_l_told : mg "_law_told" = some (.ref f_l_told)
  f_law : Addr
  fd_law : FuncData
  F_law : Fun K "law" "law" s_law f_law fd_law
  b_law : Binds K fd_law P_law []
  m_law : mg "law" = some (.ref f_law)
  n_all : mg "all" = none
  n_bool : mg "bool" = none
  n_enumerate : mg "enumerate" = none
  n_int : mg "int" = none
  n_isinstance : mg "isinstance" = none
  n_len : mg "len" = none
  n_list : mg "list" = none
  n_range : mg "range" = none
  n_reversed : mg "reversed" = none
  n_str : mg "str" = none
  n_sum : mg "sum" = none
  n_tuple : mg "tuple" = none
  n_zip : mg "zip" = none
  t_MOST_SIGNS : Tok
  g_MOST_SIGNS : mg "MOST_SIGNS" = some (.int 4 t_MOST_SIGNS)
  t_LONGEST_WORD : Tok
  g_LONGEST_WORD : mg "LONGEST_WORD" = some (.int 12 t_LONGEST_WORD)
  t_LONGEST_TEXT : Tok
  g_LONGEST_TEXT : mg "LONGEST_TEXT" = some (.int 2000 t_LONGEST_TEXT)
  t_LAST_STATE : Tok
  g_LAST_STATE : mg "LAST_STATE" = some (.int 63 t_LAST_STATE)
  t_MOST_READINGS : Tok
  g_MOST_READINGS : mg "MOST_READINGS" = some (.int 200 t_MOST_READINGS)
  t_MOST_ARCS : Tok
  g_MOST_ARCS : mg "MOST_ARCS" = some (.int 200 t_MOST_ARCS)
  C_Loom : Addr
  M_Loom : Mk K C_Loom f_Loom_init
  cl_Loom : Cls K C_Loom
  g_Loom : mg "Loom" = some (.ref C_Loom)
  na_Loom_signs : NoAttr K C_Loom "signs"
  na_Loom_arcs : NoAttr K C_Loom "arcs"
  C_Trail : Addr
  M_Trail : Mk K C_Trail f_Trail_init
  cl_Trail : Cls K C_Trail
  g_Trail : mg "Trail" = some (.ref C_Trail)
  na_Trail_ahead : NoAttr K C_Trail "ahead"
  na_Trail_number : NoAttr K C_Trail "number"
  na_Trail_many : NoAttr K C_Trail "many"
  na_Trail_jump : NoAttr K C_Trail "jump"
  C_Reader : Addr
  M_Reader : Mk K C_Reader f_Reader_init
  cl_Reader : Cls K C_Reader
  g_Reader : mg "Reader" = some (.ref C_Reader)
  na_Reader__loom : NoAttr K C_Reader "_loom"
  na_Reader__state : NoAttr K C_Reader "_state"
  na_Reader__arcs : NoAttr K C_Reader "_arcs"
  na_Reader__text : NoAttr K C_Reader "_text"
  na_Reader__told : NoAttr K C_Reader "_told"
  na_Reader__places : NoAttr K C_Reader "_places"
  C_ReadError : Addr
  C_InvalidLoom : Addr
  C_LimitExceeded : Addr
  C_UnknownState : Addr
  C_InvalidText : Addr
  g_ReadError : mg "ReadError" = some (.ref C_ReadError)
  kc_ReadError : PySem.W.keepIn K (.ref C_ReadError) = true
  E_ReadError : ExcC K C_ReadError
  ty_ReadError : PySem.W.typeIn K (.ref C_ReadError) = some (.type "type")
  in_ReadError : PySem.W.excIn K C_ReadError [.type "Exception", .type "BaseException", .type "object"] "Exception.__new__" = true
  g_InvalidLoom : mg "InvalidLoom" = some (.ref C_InvalidLoom)
  kc_InvalidLoom : PySem.W.keepIn K (.ref C_InvalidLoom) = true
  E_InvalidLoom : ExcC K C_InvalidLoom
  ty_InvalidLoom : PySem.W.typeIn K (.ref C_InvalidLoom) = some (.type "type")
  X_InvalidLoom : PySem.ExX.ExcT K mg C_InvalidLoom f_InvalidLoom_init "InvalidLoom" ["part", "at"] "InvalidLoom.__init__" s_InvalidLoom_init
  g_LimitExceeded : mg "LimitExceeded" = some (.ref C_LimitExceeded)
  kc_LimitExceeded : PySem.W.keepIn K (.ref C_LimitExceeded) = true
  E_LimitExceeded : ExcC K C_LimitExceeded
  ty_LimitExceeded : PySem.W.typeIn K (.ref C_LimitExceeded) = some (.type "type")
  X_LimitExceeded : PySem.ExX.ExcT K mg C_LimitExceeded f_LimitExceeded_init "LimitExceeded" ["limit"] "LimitExceeded.__init__" s_LimitExceeded_init
  g_UnknownState : mg "UnknownState" = some (.ref C_UnknownState)
  kc_UnknownState : PySem.W.keepIn K (.ref C_UnknownState) = true
  E_UnknownState : ExcC K C_UnknownState
  ty_UnknownState : PySem.W.typeIn K (.ref C_UnknownState) = some (.type "type")
  in_UnknownState : PySem.W.excIn K C_UnknownState [.type "Exception", .type "BaseException", .type "object"] "Exception.__new__" = true
  g_InvalidText : mg "InvalidText" = some (.ref C_InvalidText)
  kc_InvalidText : PySem.W.keepIn K (.ref C_InvalidText) = true
  E_InvalidText : ExcC K C_InvalidText
  ty_InvalidText : PySem.W.typeIn K (.ref C_InvalidText) = some (.type "type")
  in_InvalidText : PySem.W.excIn K C_InvalidText [.type "Exception", .type "BaseException", .type "object"] "Exception.__new__" = true
  ic_Loom : PySem.W.findIn K (.ref C_Loom) "__class__" = some (some (.builtin "object.__class__"))
  ig : PySem.W.specialIn K (.builtin "object.__class__") "__get__" = some (some (.builtin "getset_descriptor.__get__"))
  it : PySem.W.takesIn K (.builtin "object.__class__") = some true
  im_Loom : PySem.W.mroIn K C_Loom (.type "object") = some true
  si_InvalidLoom : PySem.W.subIn K (.ref C_InvalidLoom) (.type "int") = some false
  si_Loom : PySem.W.subIn K (.ref C_Loom) (.type "int") = some false
  sl_InvalidLoom : PySem.W.subIn K (.ref C_InvalidLoom) (.type "list") = some false
  st_InvalidLoom : PySem.W.subIn K (.ref C_InvalidLoom) (.type "tuple") = some false
  sl_Loom : PySem.W.subIn K (.ref C_Loom) (.type "list") = some false
  st_Loom : PySem.W.subIn K (.ref C_Loom) (.type "tuple") = some false
  cl_UnknownState : PySem.W.isClsIn K C_UnknownState = true
  cl_InvalidText : PySem.W.isClsIn K C_InvalidText = true
  cl_LimitExceeded : PySem.W.isClsIn K C_LimitExceeded = true
  cl_ReadError : PySem.W.isClsIn K C_ReadError = true
  su_UnknownState_UnknownState : PySem.W.subIn K (.ref C_UnknownState) (.ref C_UnknownState) = some true
  su_UnknownState_InvalidText : PySem.W.subIn K (.ref C_UnknownState) (.ref C_InvalidText) = some false
  su_UnknownState_LimitExceeded : PySem.W.subIn K (.ref C_UnknownState) (.ref C_LimitExceeded) = some false
  sr_UnknownState : PySem.W.subIn K (.ref C_UnknownState) (.ref C_ReadError) = some true
  su_InvalidText_UnknownState : PySem.W.subIn K (.ref C_InvalidText) (.ref C_UnknownState) = some false
  su_InvalidText_InvalidText : PySem.W.subIn K (.ref C_InvalidText) (.ref C_InvalidText) = some true
  su_InvalidText_LimitExceeded : PySem.W.subIn K (.ref C_InvalidText) (.ref C_LimitExceeded) = some false
  sr_InvalidText : PySem.W.subIn K (.ref C_InvalidText) (.ref C_ReadError) = some true
  su_LimitExceeded_UnknownState : PySem.W.subIn K (.ref C_LimitExceeded) (.ref C_UnknownState) = some false
  su_LimitExceeded_InvalidText : PySem.W.subIn K (.ref C_LimitExceeded) (.ref C_InvalidText) = some false
  su_LimitExceeded_LimitExceeded : PySem.W.subIn K (.ref C_LimitExceeded) (.ref C_LimitExceeded) = some true
  sr_LimitExceeded : PySem.W.subIn K (.ref C_LimitExceeded) (.ref C_ReadError) = some true
  nx_LimitExceeded_limit : PySem.W.findIn K (.ref C_LimitExceeded) "limit" = some none
  sx_Loom : PySem.W.subIn K (.ref C_Loom) (.type "str") = some false
  sx_InvalidText : PySem.W.subIn K (.ref C_InvalidText) (.type "str") = some false
end J

set_option Elab.async false
set_option linter.all false
set_option maxRecDepth 100000
set_option maxHeartbeats 4000000
namespace J
open PySem L2
/-! ### frames -/
/-- all that was tracked but what stands at p is as it was -/
def Ex (p : Addr) (H H' : Hp) : Prop := ∀ b o, b ≠ p → H b = some o → H' b = some o
theorem Ex.refl (p : Addr) (H : Hp) : Ex p H H := fun _ _ _ h => h
theorem Ex.trans {p : Addr} {H H1 H2 : Hp} (a : Ex p H H1) (b : Ex p H1 H2) : Ex p H H2 := fun c o n h => b c o n (a c o n h)
theorem Ex.upd {p : Addr} {H : Hp} (o : HO) : Ex p H (upd H p o) := fun c u n h => by rw [upd_ne n]; exact h
theorem Ex.new {p q : Addr} {H : Hp} (o : HO) (h : H q = none) : Ex p H (L2.upd H q o) := fun c u n e => by
  rw [upd_ne (ne_of_none e h)]; exact e
theorem Same.ex {p : Addr} {H H' : Hp} (s : Same H H') : Ex p H H' := fun c o _ h => s c o h
theorem Same.new {q : Addr} {H : Hp} (o : HO) (h : H q = none) : Same H (L2.upd H q o) := fun c u e => by
  rw [upd_ne (ne_of_none e h)]; exact e
/-! ### the pool of draws -/
def stv (l : Addr) (a b c d e : Int) : List V := [.ref l, .int a, .int b, .int c, .int d, .int e]
def StAt (ns : List Int) (l : Addr) (H : Hp) (p : Addr) : Prop := ∃ (a b c d e : Int), H l = some (.lst (ns.map V.int)) ∧ H p = some (.lst (stv l a b c d e)) ∧ 0 ≤ a
theorem StAt.there {ns : List Int} {l : Addr} {H : Hp} {p : Addr} (h : StAt ns l H p) : (∃ o, H p = some o) ∧ ∃ o, H l = some o := by
  obtain ⟨a, b, c, d, e, h1, h2, h3⟩ := h
  exact ⟨⟨_, h2⟩, _, h1⟩
theorem hp_ne {H : Hp} {p q : Addr} {o : HO} (h : H p = some o) (hq : H q = none) : q ≠ p := by
  intro z
  rw [z, h] at hq
  cases hq
theorem StAt.ne {ns : List Int} {l : Addr} {H : Hp} {p q : Addr} (h : StAt ns l H p) (hq : H q = none) : q ≠ p ∧ q ≠ l := by
  obtain ⟨⟨o, h1⟩, u, h2⟩ := h.there
  exact ⟨hp_ne h1 hq, hp_ne h2 hq⟩
theorem StAt.same {ns : List Int} {l : Addr} {H H' : Hp} {p : Addr} (h : StAt ns l H p) (s : Same H H') : StAt ns l H' p := by
  obtain ⟨a, b, c, d, e, h1, h2, h3⟩ := h
  exact ⟨a, b, c, d, e, s _ _ h1, s _ _ h2, h3⟩
theorem StAt.upd {ns : List Int} {l : Addr} {H : Hp} {p q : Addr} {o : HO} (h : StAt ns l H p) (n : q ≠ p ∧ q ≠ l) : StAt ns l (L2.upd H q o) p := by
  obtain ⟨a, b, c, d, e, h1, h2, h3⟩ := h
  exact ⟨a, b, c, d, e, by rw [upd_ne n.2.symm]; exact h1, by rw [upd_ne n.1.symm]; exact h2, h3⟩
theorem Ex.free {p q : Addr} {H H' : Hp} (x : Ex p H H') (hq : H' q = none) (n : q ≠ p) : H q = none := by
  cases e : H q with
  | none => rfl
  | some o => rw [x _ _ n e] at hq; cases hq
theorem Ex.updNew {p q : Addr} {H H' : Hp} {o : HO} (x : Ex p H H') (hq : H q = none) : Ex p H (L2.upd H' q o) := fun b u n e => by
  rw [upd_ne (ne_of_none e hq)]; exact x b u n e
def spState (K : PySem.W.Frag) (ns : List Int) : Sp := fun vs H Q _ => ∃ a : Addr, vs = [.ref a] ∧ SqL K H a (ns.map V.int) ∧ ∀ H' p l, Same H H' → H p = none → H l = none → StAt ns l H' p → Q (.ref p) H'
def spDraw (ns : List Int) : Sp := fun vs H Q _ => ∃ (p l : Addr) (m : Int), vs = [.ref p, .int m] ∧ StAt ns l H p ∧ 0 < m ∧ m < 1073741824 ∧
  ∀ H' (r : Int), Ex p H H' → StAt ns l H' p → 0 ≤ r → r < m → Q (.int r) H'
theorem fm_nonneg (a : Int) {b : Int} (h : 0 < b) : 0 ≤ a.fmod b := Int.fmod_nonneg_of_pos a h
theorem fm_lt (a : Int) {b : Int} (h : 0 < b) : a.fmod b < b := Int.fmod_lt_of_pos a h
theorem atI_ints {ns : List Int} {a : Int} (h0 : 0 ≤ a) (h1 : a < ns.length) : ∃ n, atI (ns.map V.int) a = some (V.int n) := by
  obtain ⟨j, rfl⟩ := Int.eq_ofNat_of_zero_le h0
  have hj : j < ns.length := by exact_mod_cast h1
  exact ⟨ns[j], atI_nat (by rw [List.getElem?_map, List.getElem?_eq_getElem hj]; rfl)⟩
section
variable {P : Program} {w : World} {K : PySem.W.Frag} {mg : Str → Option Value} {base : Heap}
theorem ok_l_state (T : Tx K mg) (ns : List Int) : FnOk P w K mg base CX0 1 T.f_l_state T.fd_l_state P_l_state (spState K ns) := by
  refine T.F_l_state.ok sc_l_state (fun vs H Q E h => ?_) (fun cdv A outer s H vs Q E hr h => ?_)
  · obtain ⟨a, rfl, _⟩ := h
    rfl
  · obtain ⟨a, rfl, hS, k⟩ := h
    refine ⟨_, (pss_one (ps_ret (pe_lst (pa_cons (pe_callTy (call_list_ofK (K := K) rfl) rfl T.n_list (by decide +kernel) (pa_cons (pv 0) pa_nil)) (pa_cons pe_int (pa_cons pe_int (pa_cons pe_int (pa_cons pe_int (pa_cons pe_int pa_nil))))))))), ?_⟩
    refine ⟨_, rfl, a, _, rfl, .inl hS, fun l hl => ?_⟩
    refine ⟨by show 6 ≤ sizeLine; decide, fun p hp => ?_⟩
    have nlp : l ≠ p := fun q => by
      rw [q, upd_same] at hp
      cases hp
    have hp0 : H p = none := by rw [upd_ne nlp.symm] at hp; exact hp
    refine k _ p l ((Same.new _ hl).trans (Same.new _ hp)) hp0 hl ⟨0, 0, 0, 0, 0, ?_, upd_same, Int.le_refl _⟩
    rw [upd_ne nlp, upd_same]
theorem ok_l_draw (T : Tx K mg) (ns : List Int) : FnOk P w K mg base CX0 1 T.f_l_draw T.fd_l_draw P_l_draw (spDraw ns) := by
  refine T.F_l_draw.ok sc_l_draw (fun vs H Q E h => ?_) (fun cdv A outer s H vs Q E hr h => ?_)
  · obtain ⟨p, l, m, rfl, _⟩ := h
    rfl
  · obtain ⟨p, l, m, rfl, hst, hm, hm2, k⟩ := h
    refine ⟨_, (C8.pss_cut (ps_if (PW.pt (pw_and (pt_cmpR op_gt (pe_ix (ix_listK (K := K) rfl) (pv 0) pe_int (fun _ _ => rfl)) pe_int (nomark _)) (pw_and1 (pt_cmpR op_lt (pe_ix (ix_listK (K := K) rfl) (pv 0) pe_int (fun _ _ => rfl)) pe_int (nomark _))))) (pss_cons (ps_set (i := 2) sc_l_draw.nd rfl (Or.inl rfl) (pe_op op_modN (pe_callTy call_int1 rfl T.n_int (by decide +kernel) (pa_cons (pe_ix (ix_listK (K := K) rfl) (pv 0) pe_int (fun _ _ => rfl)) pa_nil)) (pv 1)))
        (pss_cons (ps_asg (pe_op op_fdivN (pe_ix (ix_listK (K := K) rfl) (pv 0) pe_int (fun _ _ => rfl)) (pv 1)) (pg_sub (pv 0) pe_int set_list))
        (pss_cons (ps_asg (pe_op op_add (pe_ix (ix_listK (K := K) rfl) (pv 0) pe_int (fun _ _ => rfl)) pe_int) (pg_sub (pv 0) pe_int set_list))
        (pss_one (ps_ret (pv 2)))))) pss_nil)
        (pss_cons (ps_asg (pe_op op_add (pe_ix (ix_listK (K := K) rfl) (pv 0) pe_int (fun _ _ => rfl)) pe_int) (pg_sub (pv 0) pe_int set_list))
        (C8.pss_cut (ps_if (pt_cmpR op_lt (pe_ix (ix_listK (K := K) rfl) (pv 0) pe_int (fun _ _ => rfl)) (pe_callB (call_len_seqK (K := K) rfl) rfl T.n_len (by decide +kernel) (pa_cons (pe_ix (ix_listK (K := K) rfl) (pv 0) pe_int (fun _ _ => rfl)) pa_nil)) (nomark _)) (pss_cons (ps_set (i := 3) sc_l_draw.nd rfl (Or.inl rfl) (pe_ix (ix_listK (K := K) rfl) (pe_ix (ix_listK (K := K) rfl) (pv 0) pe_int (fun _ _ => rfl)) (pe_ix (ix_listK (K := K) rfl) (pv 0) pe_int (fun _ _ => rfl)) (fun _ _ => rfl)))
        (pss_cons (ps_asg (pe_op op_add (pe_ix (ix_listK (K := K) rfl) (pv 0) pe_int (fun _ _ => rfl)) pe_int) (pg_sub (pv 0) pe_int set_list))
        (pss_cons (ps_asg (pe_op op_modN (pe_op op_add (pe_op op_mul (pe_ix (ix_listK (K := K) rfl) (pv 0) pe_int (fun _ _ => rfl)) pe_int) (pe_callTy call_int1 rfl T.n_int (by decide +kernel) (pa_cons (pv 3) pa_nil))) (pe_op op_pow pe_int pe_int)) (pg_sub (pv 0) pe_int set_list))
        (pss_one (ps_if (pt_cmpR op_ge (pv 3) (pe_op op_pow pe_int pe_int) (nomark _)) (pss_cons (ps_asg (pe_op op_fdivN (pv 3) (pv 1)) (pg_sub (pv 0) pe_int set_list))
        (pss_cons (ps_asg pe_int (pg_sub (pv 0) pe_int set_list))
        (pss_one (ps_ret (pe_op op_modN (pe_callTy call_int1 rfl T.n_int (by decide +kernel) (pa_cons (pv 3) pa_nil)) (pv 1)))))) pss_nil))))) pss_nil)
        (pss_cons (ps_set (i := 4) sc_l_draw.nd rfl (Or.inl rfl) (pe_op op_modN (pe_op op_mul (pe_op op_add (pe_op op_add (pe_op op_mul (pe_callTy call_int1 rfl T.n_int (by decide +kernel) (pa_cons (pe_ix (ix_listK (K := K) rfl) (pv 0) pe_int (fun _ _ => rfl)) pa_nil)) pe_int) (pe_op op_mul pe_int (pe_ix (ix_listK (K := K) rfl) (pv 0) pe_int (fun _ _ => rfl)))) pe_int) pe_int) pe_int))
        (pss_cons (ps_set (i := 4) sc_l_draw.nd rfl (Or.inl rfl) (pe_op op_modN (pe_op op_mul (pv 4) (pe_op op_add (pe_op op_fdivN (pv 4) pe_int) pe_int)) pe_int))
        (pss_cons (ps_set (i := 4) sc_l_draw.nd rfl (Or.inl rfl) (pe_op op_modN (pe_op op_mul (pv 4) (pe_op op_add (pe_op op_fdivN (pv 4) pe_int) pe_int)) pe_int))
        (pss_one (ps_ret (pe_op op_modN (pv 4) (pv 1)))))))))), ?_⟩
    obtain ⟨a, b, c, d, e, hl, hp, ha⟩ := hst
    have npl : p ≠ l := by
      intro q
      rw [q, hl] at hp
      injection hp with hp
      injection hp with hp
      cases ns with
      | nil => cases hp
      | cons x r => cases hp
    have nlp := npl.symm
    -- the Mid behind the first if: as at the start
    refine ⟨fun σ' H' => σ' = [some (.ref p), some (.int m), none, none, none] ∧ H' = H, ?_, ?_⟩
    · refine ⟨_, rfl, _, _, _, _, rfl, rfl, SqL.of hp, rfl, _, _, rfl, rfl, _, rfl, ?_⟩
      refine ite2 (fun c1 => ?_) (fun c1 => ?_)
      · refine ⟨_, rfl, _, _, _, _, rfl, rfl, SqL.of hp, rfl, _, _, rfl, rfl, _, rfl, ?_⟩
        refine ite2 (fun c2 => ?_) (fun c2 => ?_)
        · refine ⟨_, rfl, _, _, _, _, rfl, rfl, SqL.of hp, rfl, .inl ⟨_, rfl, _, rfl, _, _, rfl, rfl, by omega, ?_⟩⟩
          refine ⟨_, rfl, _, _, _, _, rfl, rfl, SqL.of hp, rfl, _, rfl, _, _, rfl, rfl, ⟨by omega, by omega⟩, _, rfl, p, _, _, _, rfl, rfl, hp, rfl, ?_⟩
          refine ⟨_, rfl, _, _, _, _, rfl, rfl, SqL.of upd_same, rfl, _, _, rfl, rfl, _, rfl, p, _, _, _, rfl, rfl, upd_same, rfl, ?_⟩
          refine ⟨_, rfl, k _ _ ((Ex.upd _).trans (Ex.upd _)) ⟨_, _, _, _, _, ?_, upd_same, ?_⟩ (fm_nonneg _ hm) (fm_lt _ hm)⟩
          · rw [upd_ne nlp, upd_ne nlp]; exact hl
          · exact ha
        · exact ⟨rfl, rfl⟩
      · exact iteF ⟨rfl, rfl⟩
    · rintro σ' H' ⟨rfl, rfl⟩
      refine ⟨_, rfl, _, _, _, _, rfl, rfl, SqL.of hp, rfl, _, _, rfl, rfl, _, rfl, p, _, _, _, rfl, rfl, hp, rfl, ?_⟩
      refine ⟨fun σ2 H2 => ∃ v a b c d e, σ2 = [some (.ref p), some (.int m), none, v, none] ∧ Ex p H' H2 ∧ H2 l = some (.lst (ns.map V.int)) ∧ H2 p = some (.lst (stv l a b c d e)) ∧ 0 ≤ a, ?_, ?_⟩
      · refine ⟨_, rfl, _, _, _, _, rfl, rfl, SqL.of upd_same, rfl, _, rfl, _, _, _, _, rfl, rfl, SqL.of upd_same, rfl, l, _, rfl, .inl (SqL.of (by rw [upd_ne nlp]; exact hl)), _, _, rfl, rfl, _, rfl, ?_⟩
        refine ite2 (fun c1 => ?_) (fun c1 => ?_)
        · rw [List.length_map] at c1
          obtain ⟨n, hn⟩ := atI_ints (ns := ns) ha (by simpa using c1)
          refine ⟨_, rfl, _, _, _, _, rfl, rfl, SqL.of upd_same, rfl, _, rfl, _, _, _, _, rfl, rfl, SqL.of upd_same, rfl, l, _, _, _, rfl, rfl, SqL.of (by rw [upd_ne nlp]; exact hl), hn, ?_⟩
          refine ⟨_, rfl, _, _, _, _, rfl, rfl, SqL.of upd_same, rfl, _, _, rfl, rfl, _, rfl, p, _, _, _, rfl, rfl, upd_same, rfl, ?_⟩
          refine ⟨_, rfl, _, _, _, _, rfl, rfl, SqL.of upd_same, rfl, _, _, rfl, rfl, .inr (by decide), _, rfl, .inl ⟨_, rfl, _, _, rfl, rfl, _, _, rfl, rfl, ⟨by decide, by decide, by decide⟩, _, _, rfl, rfl, (by decide : (10 : Int) ^ 18 ≠ 0), _, rfl, p, _, _, _, rfl, rfl, upd_same, rfl, ?_⟩⟩
          refine ⟨_, rfl, _, _, rfl, rfl, ⟨by decide, by decide, by decide⟩, _, _, rfl, rfl, _, rfl, ?_⟩
          have el : ∀ {o1 o2 o3 : HO}, upd (upd (upd H' p o1) p o2) p o3 l = some (.lst (ns.map V.int)) := fun {o1 o2 o3} => by rw [upd_ne nlp, upd_ne nlp, upd_ne nlp]; exact hl
          refine ite2 (fun c2 => ?_) (fun c2 => ?_)
          · refine ⟨_, rfl, _, rfl, _, _, rfl, rfl, ⟨by omega, by omega⟩, _, rfl, p, _, _, _, rfl, rfl, upd_same, rfl, ?_⟩
            refine ⟨_, rfl, p, _, _, _, rfl, rfl, upd_same, rfl, ?_⟩
            refine ⟨_, rfl, .inl ⟨_, rfl, _, rfl, _, _, rfl, rfl, by omega, ?_⟩⟩
            refine k _ _ (((((Ex.upd _).trans (Ex.upd _)).trans (Ex.upd _)).trans (Ex.upd _)).trans (Ex.upd _)) ⟨_, _, _, _, _, ?_, upd_same, ?_⟩ (fm_nonneg _ hm) (fm_lt _ hm)
            · rw [upd_ne nlp, upd_ne nlp]; exact el
            · omega
          · exact ⟨_, _, _, _, _, _, rfl, ((Ex.upd _).trans (Ex.upd _)).trans (Ex.upd _), el, upd_same, by omega⟩
        · exact ⟨_, _, _, _, _, _, rfl, Ex.upd _, by rw [upd_ne nlp]; exact hl, upd_same, ha⟩
      · rintro σ2 H2 ⟨v, a, b, c, d, e, rfl, x2, hl2, hp2, ha2⟩
        refine ⟨_, rfl, _, _, _, _, rfl, rfl, SqL.of hp2, rfl, .inl ⟨_, rfl, _, _, rfl, rfl, .inr (by decide), _, rfl, _, _, _, _, rfl, rfl, SqL.of hp2, rfl, _, _, rfl, rfl, .inl (by decide), _, _, rfl, rfl, _, _, rfl, rfl, _, _, rfl, rfl, .inr (by decide), _, _, rfl, rfl, (by decide : (2147483647 : Int) ≠ 0), ?_⟩⟩
        have hx0 := fm_nonneg ((e * 1000003 + 7919 * d + 1) * 48271) (b := 2147483647) (by decide)
        have hx1 := fm_lt ((e * 1000003 + 7919 * d + 1) * 48271) (b := 2147483647) (by decide)
        refine ⟨_, rfl, _, rfl, _, _, rfl, rfl, ⟨by decide, by decide⟩, _, _, rfl, rfl, _, _, rfl, rfl, .inl ⟨Int.lt_of_lt_of_le (by decide) hx0, Int.lt_trans hx1 (by decide)⟩, _, _, rfl, rfl, (by decide : (2147483647 : Int) ≠ 0), ?_⟩
        refine ⟨_, rfl, _, rfl, _, _, rfl, rfl, ⟨by decide, by decide⟩, _, _, rfl, rfl, _, _, rfl, rfl, .inl ⟨Int.lt_of_lt_of_le (by decide) (fm_nonneg _ (by decide)), Int.lt_trans (fm_lt _ (by decide)) (by decide)⟩, _, _, rfl, rfl, (by decide : (2147483399 : Int) ≠ 0), ?_⟩
        refine ⟨_, rfl, _, rfl, _, _, rfl, rfl, by omega, ?_⟩
        exact k _ _ x2 ⟨_, _, _, _, _, hl2, hp2, ha2⟩ (fm_nonneg _ hm) (fm_lt _ hm)
end
end J


set_option Elab.async false
set_option linter.all false
set_option maxRecDepth 100000
set_option maxHeartbeats 4000000
namespace J
open PySem L2

theorem joinL_nil : ∀ ys : List (List Nat), TL.joinL [] ys = ys.flatten
  | [] => rfl
  | [p] => by simp [TL.joinL]
  | p :: q :: r => by
    show p ++ ([] ++ TL.joinL [] (q :: r)) = _
    rw [joinL_nil (q :: r)]
    simp
theorem join_flat (ys : List (List Nat)) : Txt.join (SX.S []) (ys.map SX.S) = SX.S ys.flatten := by rw [SX.join_S, joinL_nil]
theorem emptyS : Str.ofString "" = SX.S [] := rfl
theorem sum_ones (us : List Nat) : ((us.map fun c => SX.S [c]).map (·.length)).sum = us.length := by
  induction us with
  | nil => rfl
  | cons a r ih => simp only [List.map_cons, List.sum_cons, ih, SX.S_len, List.length_cons, List.length_nil]; omega
theorem atI_mem {α : Type} {xs : List α} {i : Int} (h0 : 0 ≤ i) (h1 : i < xs.length) : ∃ v, v ∈ xs ∧ atI xs i = some v := by
  obtain ⟨j, rfl⟩ := Int.eq_ofNat_of_zero_le h0
  have hj : j < xs.length := by exact_mod_cast h1
  exact ⟨xs[j], List.getElem_mem hj, atI_nat (List.getElem?_eq_getElem hj)⟩
/-- signs that a loom may have -/
def Signs (sg : List Nat) : Prop := sg ∈ ([[97], [97, 98], [97, 98, 99], [120, 122], [98, 100, 107, 122], [113, 119]] : List (List Nat))
theorem Signs.len {sg : List Nat} (h : Signs sg) : 1 ≤ sg.length ∧ sg.length ≤ 4 := by
  revert sg; unfold Signs; decide
/-- a word over the signs -/
def Word (sg u : List Nat) : Prop := 1 ≤ u.length ∧ u.length ≤ 12 ∧ ∀ c ∈ u, c ∈ sg
def spWord (ns : List Int) : Sp := fun vs H Q _ => ∃ (p l : Addr) (sg : List Nat) (m : Int), vs = [.ref p, .str (SX.S sg), .int m] ∧ StAt ns l H p ∧ Signs sg ∧ 0 < m ∧ m ≤ 12 ∧
  ∀ H' u, Ex p H H' → StAt ns l H' p → Word sg u → Q (.str (SX.S u)) H'
theorem sizeLine16 : (16777216 : Nat) ≤ sizeLine := by decide
theorem le_size {n : Nat} (h : n ≤ 100000) : n ≤ sizeLine := Nat.le_trans h (by decide)
theorem lt_size {n : Nat} (h : n ≤ 100000) : n < sizeLine := Nat.lt_of_le_of_lt h (by decide)
section
variable {P : Program} {w : World} {K : PySem.W.Frag} {mg : Str → Option Value} {base : Heap}

theorem ok_l_word (T : Tx K mg) (ns : List Int) : FnOk P w K mg base CX0 2 T.f_l_word T.fd_l_word P_l_word (spWord ns) := by
  have G_l_draw : FnOk P w K mg base CX0 1 T.f_l_draw T.fd_l_draw P_l_draw (spDraw ns) := ok_l_draw T ns
  refine T.F_l_word.ok sc_l_word (fun vs H Q E h => ?_) (fun cdv A outer s H vs Q E hr h => ?_)
  · obtain ⟨p, l, sg, m, rfl, _⟩ := h
    rfl
  · obtain ⟨p, l, sg, m, rfl, hst, hsg, hm, hm2, k⟩ := h
    refine ⟨_, (pss_cons (ps_set (i := 3) sc_l_word.nd rfl (Or.inl rfl) (pe_op op_add pe_int (pe_call G_l_draw (hr.mono (by decide)) rfl T.m_l_draw T.F_l_draw.kp T.b_l_draw .nil pass0 (pa_cons (pv 0) (pa_cons (pv 2) pa_nil)))))
        (pss_one (ps_ret (pe_join pe_str (pe_lc (own := [("_law_k", 4)]) (g := (gName 4)) rfl sc_l_word.nd (pi_range1 rfl T.n_range (pa_cons (pv 3) pa_nil)) (blkOk_by (N := N_l_word) (sc := defScope s_l_word) (by decide +kernel)) (fun _ _ _ _ _ => (pg_name (i := 4) sc_l_word.nd rfl (Or.inl rfl))) (fun _ _ _ _ _ => pts_nil) (fun _ _ _ _ _ => (pe_ix ix_str (pv 1) (pe_call G_l_draw (hr.mono (by decide)) rfl T.m_l_draw T.F_l_draw.kp T.b_l_draw .nil pass0 (pa_cons (pv 0) (pa_cons (pe_callB call_len_str rfl T.n_len (by decide +kernel) (pa_cons (pv 1) pa_nil)) pa_nil))) (fun _ _ => rfl)))))))), ?_⟩
    have hlen := hsg.len
    refine ⟨_, rfl, _, rfl, p, l, m, rfl, hst, hm, by omega, fun H1 r x1 st1 r0 r1 => ⟨_, _, rfl, rfl, ?_⟩⟩
    refine ⟨⟨_, rfl⟩, _, rfl, _, rfl, by omega, by omega, fun D hD => lc_range (lo := 0) (n := (1 + r).toNat) (fun i H' => ∃ us : List Nat, us.length = i ∧ (∀ c ∈ us, c ∈ sg) ∧ H' D = some (.lst ((us.map fun c => SX.S [c]).map V.str)) ∧ Ex p H H' ∧ StAt ns l H' p) ?_ ?_ ?_⟩
    · exact ⟨[], rfl, fun _ h => (nomatch h), upd_same, x1.trans (Ex.new _ hD), st1.same (Same.new _ hD)⟩
    · rintro i H2 hi ⟨us, rfl, hu, hDs, x2, st2⟩
      refine ⟨rfl, ?_⟩
      refine ⟨_, rfl, _, rfl, _, rfl, _, rfl, le_size (by rw [SX.S_len]; omega), p, l, _, rfl, st2, by rw [SX.S_len]; omega, by rw [SX.S_len]; omega, fun H3 r3 x3 st3 r30 r31 => ?_⟩
      rw [SX.S_len] at r31
      obtain ⟨c, hc, hat⟩ := atI_mem (xs := sg) r30 r31
      have nD := st1.ne hD
      refine ⟨_, _, c, rfl, rfl, le_size (by rw [SX.S_len]; omega), hat, _, x3 _ _ nD.1 hDs, lt_size (by simp; omega), us ++ [c], by simp, ?_, ?_, (x2.trans x3).updNew (x1.free hD nD.1), st3.upd nD⟩
      · intro d hd
        rcases List.mem_append.mp hd with h | h
        · exact hu d h
        · rw [List.mem_singleton.mp h]; exact hc
      · rw [upd_same]; simp
    · rintro H2 ⟨us, hl, hu, hDs, x2, st2⟩
      have hf : ∀ l : List Nat, (l.map fun c => [c]).flatten = l := fun l => by induction l with
        | nil => rfl
        | cons a l ih => simpa using ih
      refine ⟨_, _, us.map fun c => SX.S [c], rfl, rfl, .inl (SqL.of hDs), ?_, ?_⟩
      · rw [sum_ones, emptyS, SX.S_len]
        simp
        omega
      · have e : us.map (fun c => SX.S [c]) = (us.map fun c => [c]).map SX.S := by rw [List.map_map]; rfl
        rw [e, emptyS, join_flat, hf]
        exact k _ us x2 st2 ⟨by omega, by omega, hu⟩
end
end J


set_option Elab.async false
set_option linter.all false
set_option maxRecDepth 100000
set_option maxHeartbeats 4000000
namespace J
open PySem L2

/-- an arc: its state, its word, where it leads -/
abbrev Arc := Nat × List Nat × Nat
def arcHO (a : Arc) : HO := .tup [.int (a.1 : Int), .str (SX.S a.2.1), .int (a.2.2 : Int)]
def Arcs (H : Hp) (vs : List V) (as : List Arc) : Prop := vs.length = as.length ∧ ∀ (i : Nat) (a : Arc), as[i]? = some a → ∃ t, vs[i]? = some (V.ref t) ∧ H t = some (arcHO a)
theorem Arcs.same {H H' : Hp} {vs : List V} {as : List Arc} (h : Arcs H vs as) (s : Same H H') : Arcs H' vs as :=
  ⟨h.1, fun i a e => by obtain ⟨t, h1, h2⟩ := h.2 i a e; exact ⟨t, h1, s _ _ h2⟩⟩
theorem Arcs.ex {H H' : Hp} {p : Addr} {xs : List V} {vs : List V} {as : List Arc} (h : Arcs H vs as) (x : Ex p H H') (hp : H p = some (.lst xs)) : Arcs H' vs as :=
  ⟨h.1, fun i a e => by
    obtain ⟨t, h1, h2⟩ := h.2 i a e
    exact ⟨t, h1, x _ _ (fun z => by rw [z, hp] at h2; cases h2) h2⟩⟩
theorem Arcs.snoc {H : Hp} {vs : List V} {as : List Arc} {t : Addr} {a : Arc} (h : Arcs H vs as) (ht : H t = some (arcHO a)) : Arcs H (vs ++ [V.ref t]) (as ++ [a]) := by
  refine ⟨by simp [h.1], fun i b e => ?_⟩
  by_cases hi : i < as.length
  · rw [List.getElem?_append_left hi] at e
    rw [List.getElem?_append_left (by rw [h.1]; exact hi)]
    exact h.2 i b e
  · rw [List.getElem?_append_right (by omega)] at e
    have e0 : i - as.length = 0 := by
      have q := (List.getElem?_eq_some_iff.mp e).1
      simp at q
      omega
    rw [e0] at e
    cases e
    refine ⟨t, ?_, ht⟩
    rw [List.getElem?_append_right (by rw [h.1]; omega), h.1, e0]
    rfl
theorem Arcs.updL {H : Hp} {vs xs : List V} {as : List Arc} {p : Addr} {o : HO} (h : Arcs H vs as) (hp : H p = some (.lst xs)) : Arcs (upd H p o) vs as := h.ex (Ex.upd o) hp
theorem Arcs.st {ns : List Int} {l p : Addr} {H H' : Hp} {vs : List V} {as : List Arc} (h : Arcs H vs as) (st : StAt ns l H p) (x : Ex p H H') : Arcs H' vs as := by
  obtain ⟨a, b, c, d, e, h1, h2, h3⟩ := st
  exact h.ex x h2
theorem Arcs.nil (H : Hp) : Arcs H [] [] := ⟨rfl, fun i a e => by simp at e⟩
theorem ex_upd_lst {p : Addr} {H : Hp} {o : HO} : Ex p H (upd H p o) := Ex.upd o
def OkArc (sg : List Nat) (a : Arc) : Prop := a.1 ≤ 63 ∧ Word sg a.2.1 ∧ a.2.2 ≤ 63
def OkArcs (sg : List Nat) (as : List Arc) : Prop := 1 ≤ as.length ∧ as.length ≤ 13 ∧ (∀ a ∈ as, OkArc sg a) ∧ (∃ a : Arc, as[0]? = some a ∧ a.1 = 0) ∧ ∀ a ∈ as, a.1 ≠ 62
/-- what a place's menu hands out: a list of states -/
def Pl (p l : Addr) (H : Hp) (v : V) : Prop := ∃ a, ∃ xs : List Nat, v = .ref a ∧ a ≠ p ∧ a ≠ l ∧ H a = some (.lst (xs.map fun n : Nat => V.int (n : Int))) ∧ 1 ≤ xs.length ∧ xs.length ≤ 4 ∧ ∀ x ∈ xs, x ≤ 63 ∧ x ≠ 62
theorem Pl.same {p l : Addr} {H H' : Hp} {v : V} (h : Pl p l H v) (s : Same H H') : Pl p l H' v := by
  obtain ⟨a, xs, h1, h2, h3, h4, h5⟩ := h
  exact ⟨a, xs, h1, h2, h3, s _ _ h4, h5⟩
theorem Pl.ex {p l : Addr} {H H' : Hp} {v : V} (h : Pl p l H v) (s : Ex p H H') : Pl p l H' v := by
  obtain ⟨a, xs, h1, h2, h3, h4, h5⟩ := h
  exact ⟨a, xs, h1, h2, h3, s _ _ h2 h4, h5⟩
theorem Pl.new {p l a : Addr} {H : Hp} (xs : List Nat) (n : a ≠ p ∧ a ≠ l) (h : 1 ≤ xs.length ∧ xs.length ≤ 4) (hx : ∀ x ∈ xs, x ≤ 63 ∧ x ≠ 62) {vs : List V} (e : vs = xs.map fun n : Nat => V.int (n : Int)) : Pl p l (upd H a (.lst vs)) (.ref a) :=
  ⟨a, xs, rfl, n.1, n.2, by rw [upd_same, e], h.1, h.2, hx⟩
theorem signs_menu {v : V} (h : v ∈ ([.str "a", .str "ab", .str "ab", .str "ab", .str "abc", .str "xz", .str "bdkz", .str "qw"] : List V)) : ∃ sg, v = .str (SX.S sg) ∧ Signs sg ∧ 121 ∉ sg := by
  simp only [List.mem_cons, List.not_mem_nil, or_false] at h
  rcases h with rfl | rfl | rfl | rfl | rfl | rfl | rfl | rfl
  · exact ⟨[97], rfl, by unfold Signs; decide, by decide⟩
  · exact ⟨[97, 98], rfl, by unfold Signs; decide, by decide⟩
  · exact ⟨[97, 98], rfl, by unfold Signs; decide, by decide⟩
  · exact ⟨[97, 98], rfl, by unfold Signs; decide, by decide⟩
  · exact ⟨[97, 98, 99], rfl, by unfold Signs; decide, by decide⟩
  · exact ⟨[120, 122], rfl, by unfold Signs; decide, by decide⟩
  · exact ⟨[98, 100, 107, 122], rfl, by unfold Signs; decide, by decide⟩
  · exact ⟨[113, 119], rfl, by unfold Signs; decide, by decide⟩
theorem most_menu {v : V} (h : v ∈ ([.int 1, .int 2, .int 2, .int 3, .int 3, .int 4] : List V)) : ∃ m : Int, v = .int m ∧ 0 < m ∧ m ≤ 12 := by
  simp only [List.mem_cons, List.not_mem_nil, or_false] at h
  rcases h with rfl | rfl | rfl | rfl | rfl | rfl <;> exact ⟨_, rfl, by decide, by decide⟩
def spLoom (ns : List Int) : Sp := fun vs H Q _ => ∃ (p l : Addr), vs = [.ref p] ∧ StAt ns l H p ∧
  ∀ (H' : Hp) (q r : Addr) (sg : List Nat) (us : List V) (as : List Arc), Ex p H H' → StAt ns l H' p → H q = none → H r = none → H' q = some (.tup [.str (SX.S sg), .ref r]) → H' r = some (.lst us) → Arcs H' us as → OkArcs sg as → Signs sg → 121 ∉ sg → Q (.ref q) H'
section
variable {P : Program} {w : World} {K : PySem.W.Frag} {mg : Str → Option Value} {base : Heap}

theorem ok_l_loom (T : Tx K mg) (ns : List Int) : FnOk P w K mg base CX0 3 T.f_l_loom T.fd_l_loom P_l_loom (spLoom ns) := by
  have G_l_draw : FnOk P w K mg base CX0 1 T.f_l_draw T.fd_l_draw P_l_draw (spDraw ns) := ok_l_draw T ns
  have G_l_word : FnOk P w K mg base CX0 2 T.f_l_word T.fd_l_word P_l_word (spWord ns) := ok_l_word T ns
  refine T.F_l_loom.ok sc_l_loom (fun vs H Q E h => ?_) (fun cdv A outer s H vs Q E hr h => ?_)
  · obtain ⟨p, l, rfl, _⟩ := h
    rfl
  · obtain ⟨p, l, rfl, hst, k⟩ := h
    refine ⟨_, (pss_cons (ps_set (i := 1) sc_l_loom.nd rfl (Or.inl rfl) (pe_ix (ix_listK (K := K) rfl) (pe_lst (pa_cons pe_str (pa_cons pe_str (pa_cons pe_str (pa_cons pe_str (pa_cons pe_str (pa_cons pe_str (pa_cons pe_str (pa_cons pe_str pa_nil))))))))) (pe_call G_l_draw (hr.mono (by decide)) rfl T.m_l_draw T.F_l_draw.kp T.b_l_draw .nil pass0 (pa_cons (pv 0) (pa_cons pe_int pa_nil))) (fun _ _ => rfl)))
        (pss_cons (ps_set (i := 2) sc_l_loom.nd rfl (Or.inl rfl) (pe_ix (ix_listK (K := K) rfl) (pe_lst (pa_cons (pe_lst (pa_cons pe_int pa_nil)) (pa_cons (pe_lst (pa_cons pe_int pa_nil)) (pa_cons (pe_lst (pa_cons pe_int (pa_cons pe_int pa_nil))) (pa_cons (pe_lst (pa_cons pe_int (pa_cons pe_int pa_nil))) (pa_cons (pe_lst (pa_cons pe_int (pa_cons pe_int (pa_cons pe_int pa_nil)))) (pa_cons (pe_lst (pa_cons pe_int (pa_cons pe_int pa_nil))) (pa_cons (pe_lst (pa_cons pe_int (pa_cons pe_int (pa_cons pe_int pa_nil)))) (pa_cons (pe_lst (pa_cons pe_int (pa_cons pe_int (pa_cons pe_int (pa_cons pe_int pa_nil))))) pa_nil))))))))) (pe_call G_l_draw (hr.mono (by decide)) rfl T.m_l_draw T.F_l_draw.kp T.b_l_draw .nil pass0 (pa_cons (pv 0) (pa_cons pe_int pa_nil))) (fun _ _ => rfl)))
        (pss_cons (ps_set (i := 3) sc_l_loom.nd rfl (Or.inl rfl) (pe_op op_add pe_int (pe_call G_l_draw (hr.mono (by decide)) rfl T.m_l_draw T.F_l_draw.kp T.b_l_draw .nil pass0 (pa_cons (pv 0) (pa_cons pe_int pa_nil)))))
        (C8.pss_cut (ps_if (pt_cmpR op_eq (pe_call G_l_draw (hr.mono (by decide)) rfl T.m_l_draw T.F_l_draw.kp T.b_l_draw .nil pass0 (pa_cons (pv 0) (pa_cons pe_int pa_nil))) pe_int (nomark _)) (pss_one (ps_set (i := 3) sc_l_loom.nd rfl (Or.inl rfl) (pe_op op_add pe_int (pe_call G_l_draw (hr.mono (by decide)) rfl T.m_l_draw T.F_l_draw.kp T.b_l_draw .nil pass0 (pa_cons (pv 0) (pa_cons pe_int pa_nil)))))) pss_nil)
        (pss_cons (ps_set (i := 4) sc_l_loom.nd rfl (Or.inl rfl) (pe_ix (ix_listK (K := K) rfl) (pe_lst (pa_cons pe_int (pa_cons pe_int (pa_cons pe_int (pa_cons pe_int (pa_cons pe_int (pa_cons pe_int pa_nil))))))) (pe_call G_l_draw (hr.mono (by decide)) rfl T.m_l_draw T.F_l_draw.kp T.b_l_draw .nil pass0 (pa_cons (pv 0) (pa_cons pe_int pa_nil))) (fun _ _ => rfl)))
        (C8.pss_cut (ps_if (pt_cmpR op_eq (pe_call G_l_draw (hr.mono (by decide)) rfl T.m_l_draw T.F_l_draw.kp T.b_l_draw .nil pass0 (pa_cons (pv 0) (pa_cons pe_int pa_nil))) pe_int (nomark _)) (pss_one (ps_set (i := 4) sc_l_loom.nd rfl (Or.inl rfl) pe_int)) pss_nil)
        (pss_cons (ps_set (i := 5) sc_l_loom.nd rfl (Or.inl rfl) (pe_lst pa_nil))
        (pss_cons (ps_for PassesOwn.never rfl (pi_range1 rfl T.n_range (pa_cons (pv 3) pa_nil)) (pg_name (i := 6) sc_l_loom.nd rfl (Or.inl rfl)) (pss_cons (ps_set (i := 7) sc_l_loom.nd rfl (Or.inl rfl) (pe_ix (ix_listK (K := K) rfl) (pv 2) (pe_call G_l_draw (hr.mono (by decide)) rfl T.m_l_draw T.F_l_draw.kp T.b_l_draw .nil pass0 (pa_cons (pv 0) (pa_cons (pe_callB (call_len_seqK (K := K) rfl) rfl T.n_len (by decide +kernel) (pa_cons (pv 2) pa_nil)) pa_nil))) (fun _ _ => rfl)))
        (C8.pss_cut (ps_if (pt_cmpR op_eq (pv 6) pe_int (nomark _)) (pss_one (ps_set (i := 7) sc_l_loom.nd rfl (Or.inl rfl) pe_int)) pss_nil)
        (pss_one (ps_expr (pe_bm PySem.F.plainAttrs_list PySem.F.slot_list_append PySem.F.type_list_append mt_append (pv 5) (pa_cons (pe_tup (pa_cons (pv 7) (pa_cons (pe_call G_l_word (hr.mono (by decide)) rfl T.m_l_word T.F_l_word.kp T.b_l_word .nil pass0 (pa_cons (pv 0) (pa_cons (pv 1) (pa_cons (pv 4) pa_nil)))) (pa_cons (pe_ix (ix_listK (K := K) rfl) (pv 2) (pe_call G_l_draw (hr.mono (by decide)) rfl T.m_l_draw T.F_l_draw.kp T.b_l_draw .nil pass0 (pa_cons (pv 0) (pa_cons (pe_callB (call_len_seqK (K := K) rfl) rfl T.n_len (by decide +kernel) (pa_cons (pv 2) pa_nil)) pa_nil))) (fun _ _ => rfl)) pa_nil)))) pa_nil)))))))
        (C8.pss_cut (ps_if (pt_cmpR op_eq (pe_call G_l_draw (hr.mono (by decide)) rfl T.m_l_draw T.F_l_draw.kp T.b_l_draw .nil pass0 (pa_cons (pv 0) (pa_cons pe_int pa_nil))) pe_int (nomark _)) (pss_one (ps_expr (pe_bm PySem.F.plainAttrs_list PySem.F.slot_list_append PySem.F.type_list_append mt_append (pv 5) (pa_cons (pe_ix (ix_listK (K := K) rfl) (pv 5) (pe_call G_l_draw (hr.mono (by decide)) rfl T.m_l_draw T.F_l_draw.kp T.b_l_draw .nil pass0 (pa_cons (pv 0) (pa_cons (pe_callB (call_len_seqK (K := K) rfl) rfl T.n_len (by decide +kernel) (pa_cons (pv 5) pa_nil)) pa_nil))) (fun _ _ => rfl)) pa_nil)))) pss_nil)
        (pss_one (ps_ret (pe_tup (pa_cons (pv 1) (pa_cons (pv 5) pa_nil)))))))))))))), ?_⟩
    -- the signs
    refine ⟨le_size (by decide), fun D hD => ?_⟩
    have stD := hst.same (Same.new (.lst [.str "a", .str "ab", .str "ab", .str "ab", .str "abc", .str "xz", .str "bdkz", .str "qw"]) hD)
    have nD := hst.ne hD
    refine ⟨_, rfl, p, l, 8, rfl, stD, by decide, by decide, fun H1 r x1 st1 r0 r1 => ?_⟩
    obtain ⟨v, hv, hat⟩ := atI_mem (xs := ([.str "a", .str "ab", .str "ab", .str "ab", .str "abc", .str "xz", .str "bdkz", .str "qw"] : List V)) r0 (by simpa using r1)
    refine ⟨_, _, _, v, rfl, rfl, SqL.of (x1 _ _ nD.1 upd_same), hat, ?_⟩
    obtain ⟨sg, rfl, hsg, hny⟩ := signs_menu hv
    have X1 : Ex p H H1 := (Ex.new _ hD).trans x1
    -- the places
    refine ⟨le_size (by decide), fun l1 h1 => ⟨le_size (by decide), fun l2 h2 => ⟨le_size (by decide), fun l3 h3 => ⟨le_size (by decide), fun l4 h4 => ⟨le_size (by decide), fun l5 h5 => ⟨le_size (by decide), fun l6 h6 => ⟨le_size (by decide), fun l7 h7 => ⟨le_size (by decide), fun l8 h8 => ⟨le_size (show 8 ≤ 100000 by decide), fun l9 h9 => ?_⟩⟩⟩⟩⟩⟩⟩⟩⟩
    have s1 := Same.new (.lst [V.int 0]) h1
    have s2 := Same.new (.lst [V.int 0]) h2
    have s3 := Same.new (.lst [V.int 0, V.int 1]) h3
    have s4 := Same.new (.lst [V.int 0, V.int 1]) h4
    have s5 := Same.new (.lst [V.int 0, V.int 1, V.int 2]) h5
    have s6 := Same.new (.lst [V.int 0, V.int 63]) h6
    have s7 := Same.new (.lst [V.int 0, V.int 7, V.int 12]) h7
    have s8 := Same.new (.lst [V.int 0, V.int 2, V.int 3, V.int 1]) h8
    have s9 := Same.new (.lst [V.ref l1, V.ref l2, V.ref l3, V.ref l4, V.ref l5, V.ref l6, V.ref l7, V.ref l8]) h9
    have t1 := st1.same s1
    have t2 := t1.same s2
    have t3 := t2.same s3
    have t4 := t3.same s4
    have t5 := t4.same s5
    have t6 := t5.same s6
    have t7 := t6.same s7
    have t8 := t7.same s8
    have t9 := t8.same s9
    have hPl : ∀ v ∈ ([V.ref l1, V.ref l2, V.ref l3, V.ref l4, V.ref l5, V.ref l6, V.ref l7, V.ref l8] : List V), Pl p l _ v := fun v hv => by
      simp only [List.mem_cons, List.not_mem_nil, or_false] at hv
      rcases hv with rfl | rfl | rfl | rfl | rfl | rfl | rfl | rfl
      · exact (Pl.new [0] (st1.ne h1) (by decide) (by decide) rfl).same (s2.trans (s3.trans (s4.trans (s5.trans (s6.trans (s7.trans (s8.trans s9)))))))
      · exact (Pl.new [0] (t1.ne h2) (by decide) (by decide) rfl).same (s3.trans (s4.trans (s5.trans (s6.trans (s7.trans (s8.trans s9))))))
      · exact (Pl.new [0, 1] (t2.ne h3) (by decide) (by decide) rfl).same (s4.trans (s5.trans (s6.trans (s7.trans (s8.trans s9)))))
      · exact (Pl.new [0, 1] (t3.ne h4) (by decide) (by decide) rfl).same (s5.trans (s6.trans (s7.trans (s8.trans s9))))
      · exact (Pl.new [0, 1, 2] (t4.ne h5) (by decide) (by decide) rfl).same (s6.trans (s7.trans (s8.trans s9)))
      · exact (Pl.new [0, 63] (t5.ne h6) (by decide) (by decide) rfl).same (s7.trans (s8.trans s9))
      · exact (Pl.new [0, 7, 12] (t6.ne h7) (by decide) (by decide) rfl).same (s8.trans s9)
      · exact (Pl.new [0, 2, 3, 1] (t7.ne h8) (by decide) (by decide) rfl).same s9
    have n9 := t8.ne h9
    refine ⟨_, rfl, p, l, 8, rfl, t9, by decide, by decide, fun H2 r2 x2 st2 r20 r21 => ?_⟩
    obtain ⟨v, hv, hat⟩ := atI_mem (xs := ([V.ref l1, V.ref l2, V.ref l3, V.ref l4, V.ref l5, V.ref l6, V.ref l7, V.ref l8] : List V)) r20 (by simpa using r21)
    refine ⟨_, _, _, v, rfl, rfl, SqL.of (x2 _ _ n9.1 upd_same), hat, ?_⟩
    have pl2 := (hPl v hv).ex x2
    have X2 : Ex p H H2 := X1.trans ((Same.ex (s1.trans (s2.trans (s3.trans (s4.trans (s5.trans (s6.trans (s7.trans (s8.trans s9))))))))).trans x2)
    clear hPl t1 t2 t3 t4 t5 t6 t7 t8 t9 s1 s2 s3 s4 s5 s6 s7 s8 s9
    -- how many
    refine ⟨_, rfl, p, l, 6, rfl, st2, by decide, by decide, fun H3 r3 x3 st3 r30 r31 => ⟨_, _, rfl, rfl, ?_⟩⟩
    refine ⟨fun σ' H' => ∃ m : Int, σ' = [some (.ref p), some (.str (SX.S sg)), some v, some (.int m), none, none, none, none] ∧ 1 ≤ m ∧ m ≤ 12 ∧ Ex p H H' ∧ StAt ns l H' p ∧ Pl p l H' v, ?_, ?_⟩
    · refine ⟨_, rfl, p, l, 12, rfl, st3, by decide, by decide, fun H4 r4 x4 st4 r40 r41 => ⟨rfl, _, rfl, ?_⟩⟩
      refine ite2 (fun c => ?_) (fun c => ?_)
      · refine ⟨_, rfl, p, l, 5, rfl, st4, by decide, by decide, fun H5 r5 x5 st5 r50 r51 => ⟨_, _, rfl, rfl, ?_⟩⟩
        exact ⟨8 + r5, rfl, by omega, by omega, X2.trans (x3.trans (x4.trans x5)), st5, ((pl2.ex x3).ex x4).ex x5⟩
      · exact ⟨1 + r3, rfl, by omega, by omega, X2.trans (x3.trans x4), st4, (pl2.ex x3).ex x4⟩
    · rintro σ3 H3' ⟨many, rfl, m1, m2, X3, st3', pl3⟩
      -- the greatest length
      refine ⟨le_size (by decide), fun D3 hD3 => ?_⟩
      have nD3 := st3'.ne hD3
      have sD3 := Same.new (.lst [V.int 1, V.int 2, V.int 2, V.int 3, V.int 3, V.int 4]) hD3
      refine ⟨_, rfl, p, l, 6, rfl, st3'.same sD3, by decide, by decide, fun H4 r4 x4 st4 r40 r41 => ?_⟩
      obtain ⟨vm, hvm, hat4⟩ := atI_mem (xs := ([V.int 1, V.int 2, V.int 2, V.int 3, V.int 3, V.int 4] : List V)) r40 (by simpa using r41)
      refine ⟨_, _, _, vm, rfl, rfl, SqL.of (x4 _ _ nD3.1 upd_same), hat4, ?_⟩
      obtain ⟨mo, rfl, mo1, mo2⟩ := most_menu hvm
      have X4 : Ex p H H4 := X3.trans ((Same.ex sD3).trans x4)
      have pl4 := (pl3.same sD3).ex x4
      refine ⟨fun σ' H' => ∃ mo : Int, σ' = [some (.ref p), some (.str (SX.S sg)), some v, some (.int many), some (.int mo), none, none, none] ∧ 0 < mo ∧ mo ≤ 12 ∧ Ex p H H' ∧ StAt ns l H' p ∧ Pl p l H' v, ?_, ?_⟩
      · refine ⟨_, rfl, p, l, 16, rfl, st4, by decide, by decide, fun H5 r5 x5 st5 r50 r51 => ⟨rfl, _, rfl, ?_⟩⟩
        refine ite2 (fun c => ?_) (fun c => ?_)
        · exact ⟨12, rfl, by decide, by decide, X4.trans x5, st5, pl4.ex x5⟩
        · exact ⟨mo, rfl, mo1, mo2, X4.trans x5, st5, pl4.ex x5⟩
      · rintro σ5 H5 ⟨mo, rfl, mo1, mo2, X5, st5, pl5⟩
        -- the arcs
        refine ⟨Nat.zero_le _, fun Ar hA => ?_⟩
        have nA := st5.ne hA
        have hA0 := X5.free hA nA.1
        have sA := Same.new (.lst []) hA
        refine ⟨_, rfl, _, rfl, by omega, by omega, for_range (lo := 0) (n := many.toNat) (fun i σ H' => ∃ (us : List V) (as : List Arc) (v6 v7 : Option V), σ = [some (.ref p), some (.str (SX.S sg)), some v, some (.int many), some (.int mo), some (.ref Ar), v6, v7] ∧
          as.length = i ∧ (∀ a ∈ as, OkArc sg a ∧ a.1 ≠ 62) ∧ (0 < i → ∃ a : Arc, as[0]? = some a ∧ a.1 = 0) ∧ H' Ar = some (.lst us) ∧ Arcs H' us as ∧ Ex p H H' ∧ StAt ns l H' p ∧ Pl p l H' v) ?_ ?_ ?_⟩
        · exact ⟨[], [], none, none, rfl, rfl, fun _ h => (nomatch h), fun h => absurd h (Nat.lt_irrefl _), upd_same, Arcs.nil _, X5.updNew hA0, st5.upd nA, pl5.same sA⟩
        · rintro i σ H6 hi ⟨us, as, v6, v7, rfl, rfl, hok, hz, hAr, harc, X6, st6, pl6⟩
          obtain ⟨pa, xs, rfl, np, nl, hpa, xl1, xl2, xb⟩ := pl6
          have nApa : Ar ≠ pa := by
            obtain ⟨a', xs', e', _, _, h', _⟩ := pl5
            cases e'
            exact hp_ne h' hA
          -- the start
          refine ⟨_, rfl, _, rfl, _, rfl, pa, _, rfl, .inl (SqL.of hpa), p, l, _, rfl, st6, by rw [List.length_map]; omega, by rw [List.length_map]; omega, fun H7 r7 x7 st7 r70 r71 => ?_⟩
          obtain ⟨vs7, hvs7, hat7⟩ := atI_mem r70 r71
          obtain ⟨s7, hs7, rfl⟩ := List.mem_map.mp hvs7
          refine ⟨_, _, _, _, rfl, rfl, SqL.of (x7 _ _ np hpa), hat7, ?_⟩
          refine ⟨fun σ' H' => ∃ s8 : Nat, σ' = [some (.ref p), some (.str (SX.S sg)), some (.ref pa), some (.int many), some (.int mo), some (.ref Ar), some (.int (0 + (as.length : Int))), some (.int (s8 : Int))] ∧ (s8 ≤ 63 ∧ s8 ≠ 62) ∧ (as.length = 0 → s8 = 0) ∧ H' = H7, ?_, ?_⟩
          · refine ⟨_, rfl, rfl, _, rfl, ?_⟩
            refine ite2 (fun c => ?_) (fun c => ?_)
            · exact ⟨0, rfl, by omega, fun _ => rfl, rfl⟩
            · refine ⟨s7, rfl, xb _ hs7, fun z => absurd ?_ c, rfl⟩
              rw [z]
              decide
          · rintro σ8 H8 ⟨s8, rfl, hs8, hz8, rfl⟩
            have hln : as.length ≤ 100000 := by clear hz; omega
            have hA7 := x7 _ _ nA.1 hAr
            have arc7 := harc.st st6 x7
            refine ⟨_, rfl, .inl ⟨rfl, _, SqL.of hA7⟩, _, rfl, _, rfl, _, rfl, _, rfl, p, l, sg, mo, rfl, st7, hsg, mo1, mo2, fun H9 u9 x9 st9 hw9 => ?_⟩
            have hpa9 := x9 _ _ np (x7 _ _ np hpa)
            refine ⟨_, rfl, _, rfl, _, rfl, pa, _, rfl, .inl (SqL.of hpa9), p, l, _, rfl, st9, by rw [List.length_map]; omega, by rw [List.length_map]; omega, fun H10 r10 x10 st10 r100 r101 => ?_⟩
            obtain ⟨vs10, hvs10, hat10⟩ := atI_mem r100 r101
            obtain ⟨s10, hs10, rfl⟩ := List.mem_map.mp hvs10
            refine ⟨_, _, _, _, rfl, rfl, SqL.of (x10 _ _ np hpa9), hat10, le_size (show 3 ≤ 100000 by decide), fun t ht => ?_⟩
            have nt := st10.ne ht
            have hA10 := x10 _ _ nA.1 (x9 _ _ nA.1 hA7)
            have nAt : t ≠ Ar := hp_ne hA10 ht
            have st := Same.new (arcHO (s8, u9, s10)) ht
            have X11 : Ex p H (upd H10 t (arcHO (s8, u9, s10))) := X6.trans (x7.trans (x9.trans (x10.trans (Same.ex st))))
            refine ⟨Ar, us, _, rfl, rfl, st _ _ hA10, lt_size (by rw [harc.1]; exact hln), ?_⟩
            have arc10 := ((arc7.st st7 x9).st st9 x10).same st
            have nn := (arc10.snoc (t := t) (a := (s8, u9, s10)) upd_same)
            refine ⟨us ++ [.ref t], as ++ [(s8, u9, s10)], _, _, rfl, by simp, ?_, fun _ => ?_, upd_same, ?_, X11.updNew hA0, (st10.same st).upd nA, ?_⟩
            · intro a ha
              rcases List.mem_append.mp ha with h | h
              · exact hok a h
              · rw [List.mem_singleton.mp h]
                exact ⟨⟨hs8.1, hw9, (xb _ hs10).1⟩, hs8.2⟩
            · by_cases h0 : as.length = 0
              · have e : as = [] := List.eq_nil_of_length_eq_zero h0
                subst e
                exact ⟨_, rfl, hz8 rfl⟩
              · obtain ⟨a, ha, ha0⟩ := hz (by omega)
                exact ⟨a, by rw [List.getElem?_append_left (by omega)]; exact ha, ha0⟩
            · exact nn.updL (st _ _ hA10)
            · exact ⟨pa, xs, rfl, np, nl, by rw [upd_ne nApa.symm]; exact st _ _ (x10 _ _ np hpa9), xl1, xl2, xb⟩
        · rintro σ H6 ⟨us, as, v6, v7, rfl, hl, hok, hz, hAr, harc, X6, st6, pl6⟩
          have hl1 : 1 ≤ as.length ∧ as.length ≤ 12 := by clear hz; omega
          obtain ⟨a0, ha0, hz0⟩ := hz (by omega)
          refine ⟨fun σ' H' => ∃ (us : List V) (as : List Arc), σ' = [some (.ref p), some (.str (SX.S sg)), some v, some (.int many), some (.int mo), some (.ref Ar), v6, v7] ∧ OkArcs sg as ∧ H' Ar = some (.lst us) ∧ Arcs H' us as ∧ Ex p H H' ∧ StAt ns l H' p, ?_, ?_⟩
          · refine ⟨_, rfl, p, l, 4, rfl, st6, by decide, by decide, fun H7 r7 x7 st7 r70 r71 => ⟨rfl, _, rfl, ?_⟩⟩
            have hA7 := x7 _ _ nA.1 hAr
            have arc7 := harc.st st6 x7
            refine ite2 (fun c => ?_) (fun c => ?_)
            · refine ⟨_, rfl, .inl ⟨rfl, _, SqL.of hA7⟩, _, rfl, _, rfl, _, rfl, Ar, us, rfl, .inl (SqL.of hA7), p, l, _, rfl, st7, by rw [harc.1]; omega, by rw [harc.1]; omega, fun H8 r8 x8 st8 r80 r81 => ?_⟩
              have hA8 := x8 _ _ nA.1 hA7
              have arc8 := arc7.st st7 x8
              obtain ⟨j, rfl⟩ := Int.eq_ofNat_of_zero_le r80
              have hj : j < as.length := by rw [harc.1] at r81; exact_mod_cast r81
              obtain ⟨t, ht1, ht2⟩ := arc8.2 j as[j] (List.getElem?_eq_getElem hj)
              refine ⟨_, _, _, _, rfl, rfl, SqL.of hA8, atI_nat ht1, Ar, us, _, rfl, rfl, hA8, lt_size (by rw [harc.1]; omega), ?_⟩
              have hk : ∀ a ∈ as ++ [as[j]], OkArc sg a ∧ a.1 ≠ 62 := fun a ha => by
                rcases List.mem_append.mp ha with h | h
                · exact hok a h
                · rw [List.mem_singleton.mp h]
                  exact hok _ (List.getElem_mem hj)
              exact ⟨us ++ [.ref t], as ++ [as[j]], rfl, ⟨by simp, by simp; omega, fun a h => (hk a h).1, ⟨a0, by rw [List.getElem?_append_left (by omega)]; exact ha0, hz0⟩, fun a h => (hk a h).2⟩, upd_same, (arc8.snoc ht2).updL hA8, (X6.trans (x7.trans x8)).updNew hA0, st8.upd nA⟩
            · exact ⟨us, as, rfl, ⟨hl1.1, by omega, fun a h => (hok a h).1, ⟨a0, ha0, hz0⟩, fun a h => (hok a h).2⟩, hA7, arc7, X6.trans x7, st7⟩
          · rintro σ9 H9 ⟨us, as, rfl, hok, hA9, arc9, X9, st9⟩
            refine ⟨_, rfl, _, rfl, le_size (show 2 ≤ 100000 by decide), fun q hq => ?_⟩
            have sq := Same.new (.tup [.str (SX.S sg), .ref Ar]) hq
            refine k _ q Ar sg us as (X9.trans (Same.ex sq)) (st9.same sq) (X9.free hq (st9.ne hq).1) hA0 upd_same (sq _ _ hA9) (arc9.same sq) hok hsg hny
end
end J


set_option Elab.async false
set_option linter.all false
set_option maxRecDepth 100000
set_option maxHeartbeats 4000000
namespace J
open PySem L2

def spNumber : Sp := fun vs H Q _ => ∃ i lo hi : Int, vs = [.int i, .int lo, .int hi] ∧ ∀ b : Bool, (b = true ↔ lo ≤ i ∧ i ≤ hi) → Q (.bl b) H
def spSequence (K : PySem.W.Frag) : Sp := fun vs H Q _ => ∃ (a : Addr) (xs : List V) (lo hi : Int), vs = [.ref a, .int lo, .int hi] ∧ H a = some (.lst xs) ∧ ∀ (H' : Hp) (b : Bool), Same H H' → (b = true ↔ lo ≤ xs.length ∧ xs.length ≤ hi) → Q (.bl b) H'
def spOver : Sp := fun vs H Q _ => ∃ (sg u : List Nat) (lo hi : Int), vs = [.str (SX.S sg), .str (SX.S u), .int lo, .int hi] ∧ lo ≤ u.length ∧ u.length ≤ hi ∧ hi ≤ 100000 ∧ (∀ c ∈ u, c ∈ sg) ∧ ∀ H' : Hp, Same H H' → Q (.bl true) H'
def spIsWord : Sp := fun vs H Q _ => ∃ (sg u : List Nat), vs = [.str (SX.S sg), .str (SX.S u)] ∧ Word sg u ∧ ∀ H' : Hp, Same H H' → Q (.bl true) H'
def spSigns : Sp := fun vs H Q _ => ∃ sg : List Nat, vs = [.str (SX.S sg)] ∧ Signs sg ∧ ∀ H' : Hp, Same H H' → Q (.bl true) H'
def spArc : Sp := fun vs H Q _ => ∃ (sg : List Nat) (t : Addr) (a : Arc), vs = [.str (SX.S sg), .ref t] ∧ H t = some (arcHO a) ∧ OkArc sg a ∧ ∀ H' : Hp, Same H H' → Q (.bl true) H'
def spState1 : Sp := fun vs H Q _ => ∃ i : Int, vs = [.int i] ∧ 0 ≤ i ∧ i ≤ 63 ∧ Q .non H
def spText1 : Sp := fun vs H Q _ => ∃ (sg u : List Nat), vs = [.str (SX.S sg), .str (SX.S u)] ∧ u.length ≤ 2000 ∧ (∀ c ∈ u, c ∈ sg) ∧ ∀ H' : Hp, Same H H' → Q .non H'
theorem rep_snoc (n : Nat) : (HO.lst ((List.replicate n true).map V.bl ++ [V.bl true])) = HO.lst ((List.replicate (n + 1) true).map V.bl) := by
  congr 1
  rw [List.replicate_succ']
  simp
theorem _root_.L2.Same.updNew {q : Addr} {H H' : Hp} {o : HO} (x : Same H H') (hq : H q = none) : Same H (L2.upd H' q o) := fun b u e => by
  rw [upd_ne (ne_of_none e hq)]; exact x b u e
theorem all_true {n : Nat} : (List.replicate n true).all id = true := by simp
section
variable {P : Program} {w : World} {K : PySem.W.Frag} {mg : Str → Option Value} {base : Heap}

theorem ok_is_number (T : Tx K mg) : FnOk P w K mg base CX0 1 T.f_is_number T.fd_is_number P_is_number spNumber := by
  refine T.F_is_number.ok sc_is_number (fun vs H Q E h => ?_) (fun cdv A outer s H vs Q E hr h => ?_)
  · obtain ⟨i, lo, hi, rfl, _⟩ := h
    rfl
  · obtain ⟨i, lo, hi, rfl, k⟩ := h
    refine ⟨_, (pss_one (ps_ret (pe_and (pe_callB (call_isiK' (K := K) rfl) rfl T.n_isinstance (by decide +kernel) (pa_cons (pv 0) (pa_cons (pe_bltn (v := V.ty "int") (u := .type "int") rfl T.n_int (by decide +kernel) rfl) pa_nil))) (pe_and (pe_not (pe_callB (call_isiK' (K := K) rfl) rfl T.n_isinstance (by decide +kernel) (pa_cons (pv 0) (pa_cons (pe_bltn (v := V.ty "bool") (u := .type "bool") rfl T.n_bool (by decide +kernel) rfl) pa_nil)))) (pe_one (pe_chain op_le op_le (pv 1) (pv 0) (pv 2))))))), ?_⟩
    refine ⟨_, rfl, _, _, _, _, true, rfl, .ty "int", .base (.int i), kit_ty (by decide +kernel), true, rfl, ?_⟩
    refine ⟨_, rfl, _, _, _, _, false, rfl, .ty "bool", .base (.int i), kit_ty (by decide +kernel), false, rfl, true, rfl, ?_⟩
    refine ⟨_, rfl, _, rfl, _, _, rfl, rfl, _, rfl, ?_⟩
    refine ite2 (fun c => ?_) (fun c => ?_)
    · refine ⟨_, rfl, _, _, rfl, rfl, k _ ?_⟩
      have c1 := of_decide_eq_true c
      constructor
      · intro h; exact ⟨c1, of_decide_eq_true h⟩
      · intro h; exact decide_eq_true h.2
    · refine k _ ?_
      constructor
      · intro h; cases h
      · intro h; exact absurd (decide_eq_true h.1) c

theorem ok_is_sequence (T : Tx K mg) : FnOk P w K mg base CX0 1 T.f_is_sequence T.fd_is_sequence P_is_sequence (spSequence K) := by
  refine T.F_is_sequence.ok sc_is_sequence (fun vs H Q E h => ?_) (fun cdv A outer s H vs Q E hr h => ?_)
  · obtain ⟨a, xs, lo, hi, rfl, _⟩ := h
    rfl
  · obtain ⟨a, xs, lo, hi, rfl, ha, k⟩ := h
    refine ⟨_, (pss_one (ps_ret (pe_and (pe_callB (call_isiTK (K := K) rfl) rfl T.n_isinstance (by decide +kernel) (pa_cons (pv 0) (pa_cons (pe_tup (pa_cons (pe_bltn (v := V.ty "list") (u := .type "list") rfl T.n_list (by decide +kernel) rfl) (pa_cons (pe_bltn (v := V.ty "tuple") (u := .type "tuple") rfl T.n_tuple (by decide +kernel) rfl) pa_nil))) pa_nil))) (pe_one (pe_chain op_le op_le (pv 1) (pe_callB (call_len_seqK (K := K) rfl) rfl T.n_len (by decide +kernel) (pa_cons (pv 0) pa_nil)) (pv 2)))))), ?_⟩
    refine ⟨_, rfl, le_size (by decide), fun t ht => ?_⟩
    have st := Same.new (.tup [V.ty "list", V.ty "tuple"]) ht
    refine ⟨_, _, _, _, [.type "list", .type "tuple"], true, rfl, upd_same, .cons (.ty _) (.cons (.ty _) .nil), .base (.lst (st _ _ ha)), kitAny_cons (b := true) (kit_ty (by decide +kernel)) (fun q => nomatch q) (fun _ => rfl), true, rfl, ?_⟩
    refine ⟨_, rfl, _, rfl, a, xs, rfl, .inl (SqL.of (st _ _ ha)), _, _, rfl, rfl, _, rfl, ?_⟩
    refine ite2 (fun c => ?_) (fun c => ?_)
    · refine ⟨_, rfl, _, _, rfl, rfl, k _ _ st ?_⟩
      have c1 := of_decide_eq_true c
      constructor
      · intro h; exact ⟨c1, of_decide_eq_true h⟩
      · intro h; exact decide_eq_true h.2
    · refine k _ _ st ?_
      constructor
      · intro h; cases h
      · intro h; exact absurd (decide_eq_true h.1) c

theorem ok_is_string_over (T : Tx K mg) : FnOk P w K mg base CX0 1 T.f_is_string_over T.fd_is_string_over P_is_string_over spOver := by
  refine T.F_is_string_over.ok sc_is_string_over (fun vs H Q E h => ?_) (fun cdv A outer s H vs Q E hr h => ?_)
  · obtain ⟨sg, u, lo, hi, rfl, _⟩ := h
    rfl
  · obtain ⟨sg, u, lo, hi, rfl, h1, h2, h3, hu, k⟩ := h
    refine ⟨_, (pss_cons (ps_if (PW.pt (pw_or (pt_not (pt_val (pe_callB (call_isiK' (K := K) rfl) rfl T.n_isinstance (by decide +kernel) (pa_cons (pv 1) (pa_cons (pe_bltn (v := V.ty "str") (u := .type "str") rfl T.n_str (by decide +kernel) rfl) pa_nil))))) (pw_or1 (pt_not (pt_chain op_le op_le (pv 2) (pe_callB call_len_str rfl T.n_len (by decide +kernel) (pa_cons (pv 1) pa_nil)) (pv 3)))))) (pss_one (ps_ret pe_bl)) pss_nil)
        (pss_one (ps_ret (pe_callB (cr_allK (K := K) rfl rfl) rfl T.n_all (by decide +kernel) (pa_cons (pe_lc (own := [("sign", 4)]) (g := (gName 4)) rfl sc_is_string_over.nd (pi_str (pv 1)) (blkOk_by (N := N_is_string_over) (sc := defScope s_is_string_over) (by decide +kernel)) (fun _ _ _ _ _ => (pg_name (i := 4) sc_is_string_over.nd rfl (Or.inl rfl))) (fun _ _ _ _ _ => pts_nil) (fun _ _ _ _ _ => (pe_cmpR op_in_sign (pv 4) (pv 0) rfl))) pa_nil))))), ?_⟩
    have hl : (SX.S u).length ≤ sizeLine := le_size (by rw [SX.S_len]; omega)
    refine ⟨_, rfl, _, _, _, _, true, rfl, .ty "str", .base (.str _), kit_ty (by decide +kernel), true, rfl, ?_⟩
    have e : ((SX.S u).length : Int) = u.length := by rw [SX.S_len]
    refine ⟨_, rfl, _, rfl, _, rfl, hl, _, _, rfl, rfl, true, congrArg V.bl (decide_eq_true (by rw [e]; exact h1)), ?_⟩
    refine ⟨_, rfl, _, _, rfl, rfl, true, congrArg V.bl (decide_eq_true (by rw [e]; exact h2)), ?_⟩
    refine ⟨_, rfl, _, rfl, fun D hD => lc_it (walk_str (z := SX.S u)) (fun i H' => H' D = some (.lst ((List.replicate i true).map V.bl)) ∧ Same H H') ⟨upd_same, Same.new _ hD⟩ (fun _ _ _ _ => trivial) ?_ ?_⟩
    · rintro i x H1 H2 hi ⟨hDl, sm⟩ ⟨rfl, c, hc, rfl⟩
      have hcu : c ∈ u := by
        have q : u[i]? = some c := by simpa using hc
        exact List.mem_of_getElem? q
      have hi2 : i ≤ 100000 := by
        have q : i < (SX.S u).length := hi
        rw [SX.S_len] at q
        omega
      refine ⟨rfl, _, rfl, _, rfl, c, _, rfl, rfl, _, hDl, lt_size (by simp; exact hi2), ?_, sm.updNew hD⟩
      rw [upd_same, decide_eq_true (by simpa using hu c hcu), rep_snoc]
    · rintro H1 ⟨hDl, sm⟩
      refine ⟨D, _, rfl, SqL.of hDl, ?_⟩
      rw [all_true]
      exact k _ sm

theorem ok_is_word (T : Tx K mg) : FnOk P w K mg base CX0 2 T.f_is_word T.fd_is_word P_is_word spIsWord := by
  have G_is_string_over : FnOk P w K mg base CX0 1 T.f_is_string_over T.fd_is_string_over P_is_string_over spOver := ok_is_string_over T
  refine T.F_is_word.ok sc_is_word (fun vs H Q E h => ?_) (fun cdv A outer s H vs Q E hr h => ?_)
  · obtain ⟨sg, u, rfl, _⟩ := h
    rfl
  · obtain ⟨sg, u, rfl, ⟨h1, h2, h3⟩, k⟩ := h
    refine ⟨_, (pss_one (ps_ret (pe_call G_is_string_over (hr.mono (by decide)) rfl T.m_is_string_over T.F_is_string_over.kp T.b_is_string_over .nil pass0 (pa_cons (pv 0) (pa_cons (pv 1) (pa_cons pe_int (pa_cons (pe_glob (v := V.int 12) rfl T.g_LONGEST_WORD ⟨_, rfl⟩) pa_nil))))))), ?_⟩
    exact ⟨_, rfl, _, rfl, sg, u, 1, 12, rfl, by omega, by omega, by omega, h3, k⟩
theorem ok_is_arc (T : Tx K mg) : FnOk P w K mg base CX0 3 T.f_is_arc T.fd_is_arc P_is_arc spArc := by
  have G_is_number : FnOk P w K mg base CX0 1 T.f_is_number T.fd_is_number P_is_number spNumber := ok_is_number T
  have G_is_word : FnOk P w K mg base CX0 2 T.f_is_word T.fd_is_word P_is_word spIsWord := ok_is_word T
  refine T.F_is_arc.ok sc_is_arc (fun vs H Q E h => ?_) (fun cdv A outer s H vs Q E hr h => ?_)
  · obtain ⟨sg, t, a, rfl, _⟩ := h
    rfl
  · obtain ⟨sg, t, ⟨s1, u, g1⟩, rfl, ht, ⟨hs, hw, hg⟩, k⟩ := h
    refine ⟨_, (pss_cons (ps_if (PW.pt (pw_or (pt_not (pt_val (pe_callB (call_isiK' (K := K) rfl) rfl T.n_isinstance (by decide +kernel) (pa_cons (pv 1) (pa_cons (pe_bltn (v := V.ty "tuple") (u := .type "tuple") rfl T.n_tuple (by decide +kernel) rfl) pa_nil))))) (pw_or1 (pt_cmpR op_ne (pe_callB (call_len_seqK (K := K) rfl) rfl T.n_len (by decide +kernel) (pa_cons (pv 1) pa_nil)) pe_int (nomark _))))) (pss_one (ps_ret pe_bl)) pss_nil)
        (pss_cons (ps_asg (pv 1) (pg_tup rfl (pgs_cons (pg_name (i := 2) sc_is_arc.nd rfl (Or.inl rfl)) (pgs_cons (pg_name (i := 3) sc_is_arc.nd rfl (Or.inl rfl)) (pgs_cons (pg_name (i := 4) sc_is_arc.nd rfl (Or.inl rfl)) pgs_nil)))))
        (pss_one (ps_ret (pe_and (pe_call G_is_number (hr.mono (by decide)) rfl T.m_is_number T.F_is_number.kp T.b_is_number .nil pass0 (pa_cons (pv 2) (pa_cons pe_int (pa_cons (pe_glob (v := V.int 63) rfl T.g_LAST_STATE ⟨_, rfl⟩) pa_nil)))) (pe_and (pe_call G_is_word (hr.mono (by decide)) rfl T.m_is_word T.F_is_word.kp T.b_is_word .nil pass0 (pa_cons (pv 0) (pa_cons (pv 3) pa_nil))) (pe_one (pe_call G_is_number (hr.mono (by decide)) rfl T.m_is_number T.F_is_number.kp T.b_is_number .nil pass0 (pa_cons (pv 4) (pa_cons pe_int (pa_cons (pe_glob (v := V.int 63) rfl T.g_LAST_STATE ⟨_, rfl⟩) pa_nil))))))))))), ?_⟩
    refine ⟨_, rfl, _, _, _, _, true, rfl, .ty "tuple", .base (.tup ht), kit_ty (by decide +kernel), true, rfl, ?_⟩
    refine ⟨_, rfl, t, _, rfl, .inr (SqT.of ht), rfl, false, rfl, ?_⟩
    refine ⟨_, rfl, t, _, rfl, SqT.of ht, rfl, ?_⟩
    have e1 : (0 : Int) ≤ ((s1 : Nat) : Int) ∧ ((s1 : Nat) : Int) ≤ 63 := by omega
    have e2 : (0 : Int) ≤ ((g1 : Nat) : Int) ∧ ((g1 : Nat) : Int) ≤ 63 := by have hg' : g1 ≤ 63 := hg; omega
    refine ⟨_, _, rfl, _, _, rfl, _, _, rfl, rfl, ?_⟩
    refine ⟨_, rfl, _, 0, 63, rfl, fun b hb => ⟨b, rfl, ?_⟩⟩
    rw [hb.mpr e1]
    refine ⟨_, rfl, _, rfl, sg, u, rfl, hw, fun H' sm => ⟨true, rfl, ?_⟩⟩
    refine ⟨_, rfl, _, 0, 63, rfl, fun b hb => ?_⟩
    rw [hb.mpr e2]
    exact k H' sm
end
end J


set_option Elab.async false
set_option linter.all false
set_option maxRecDepth 100000
set_option maxHeartbeats 4000000
namespace J
open PySem L2

theorem walk_zipS {x y : Str} : Walk (ItzS x y) (min x.cps.size y.cps.size) (fun _ => True) (fun i H v H' => ∃ T c d, v = .ref T ∧ H T = none ∧ H' = upd H T (.tup [.str ⟨#[c]⟩, .str ⟨#[d]⟩]) ∧ x.cps[i]? = some c ∧ y.cps[i]? = some d) :=
  ⟨fun _ _ h _ => h, fun _ _ => rfl, fun _ _ _ _ _ _ h => h⟩
theorem signs_le {sg : List Nat} (h : Signs sg) : ∀ c ∈ sg, (!decide ([c] < ([97] : List Nat))) = true ∧ (!decide (([122] : List Nat) < [c])) = true := by
  revert sg; unfold Signs; decide
theorem signs_up {sg : List Nat} (h : Signs sg) : ∀ p ∈ sg.zip (sg.drop 1), decide ([p.1] < [p.2]) = true := by
  revert sg; unfold Signs; decide
theorem signs_pair {sg : List Nat} (h : Signs sg) {i c d : Nat} (h1 : sg[i]? = some c) (h2 : (sg.drop 1)[i]? = some d) : decide ([c] < [d]) = true :=
  signs_up h (c, d) (List.mem_of_getElem? (i := i) (by rw [List.getElem?_zip_eq_some]; exact ⟨h1, h2⟩))
section
variable {P : Program} {w : World} {K : PySem.W.Frag} {mg : Str → Option Value} {base : Heap}

theorem ok_is_signs (T : Tx K mg) : FnOk P w K mg base CX0 1 T.f_is_signs T.fd_is_signs P_is_signs spSigns := by
  refine T.F_is_signs.ok sc_is_signs (fun vs H Q E h => ?_) (fun cdv A outer s H vs Q E hr h => ?_)
  · obtain ⟨sg, rfl, _⟩ := h
    rfl
  · obtain ⟨sg, rfl, hsg, k⟩ := h
    refine ⟨_, (pss_cons (ps_if (PW.pt (pw_or (pt_not (pt_val (pe_callB (call_isiK' (K := K) rfl) rfl T.n_isinstance (by decide +kernel) (pa_cons (pv 0) (pa_cons (pe_bltn (v := V.ty "str") (u := .type "str") rfl T.n_str (by decide +kernel) rfl) pa_nil))))) (pw_or1 (pt_not (pt_chain op_le op_le pe_int (pe_callB call_len_str rfl T.n_len (by decide +kernel) (pa_cons (pv 0) pa_nil)) (pe_glob (v := V.int 4) rfl T.g_MOST_SIGNS ⟨_, rfl⟩)))))) (pss_one (ps_ret pe_bl)) pss_nil)
        (pss_cons (ps_set (i := 1) sc_is_signs.nd rfl (Or.inl rfl) (pe_callB (cr_allK (K := K) rfl rfl) rfl T.n_all (by decide +kernel) (pa_cons (pe_lc (own := [("sign", 2)]) (g := (gName 2)) rfl sc_is_signs.nd (pi_str (pv 0)) (blkOk_by (N := N_is_signs) (sc := defScope s_is_signs) (by decide +kernel)) (fun _ _ _ _ _ => (pg_name (i := 2) sc_is_signs.nd rfl (Or.inl rfl))) (fun _ _ _ _ _ => pts_nil) (fun _ _ _ _ _ => (pe_chain op_le_str op_le_str pe_str (pv 2) pe_str))) pa_nil)))
        (pss_one (ps_ret (pe_and (pv 1) (pe_one (pe_callB (cr_allK (K := K) rfl rfl) rfl T.n_all (by decide +kernel) (pa_cons (pe_lc (own := [("one", 3), ("other", 4)]) (g := (gTup K 2 (gCons (gName 3) (gCons (gName 4) gNil)))) rfl sc_is_signs.nd (pi_zipS rfl T.n_zip (pa_cons (pv 0) (pa_cons (pe_slice sl_str (pv 0) (po_some pe_int) po_none) pa_nil))) (blkOk_by (N := N_is_signs) (sc := defScope s_is_signs) (by decide +kernel)) (fun _ _ _ _ _ => (pg_tup rfl (pgs_cons (pg_name (i := 3) sc_is_signs.nd rfl (Or.inl rfl)) (pgs_cons (pg_name (i := 4) sc_is_signs.nd rfl (Or.inl rfl)) pgs_nil)))) (fun _ _ _ _ _ => pts_nil) (fun _ _ _ _ _ => (pe_cmpR op_lt_str (pv 3) (pv 4) (nomark _)))) pa_nil)))))))), ?_⟩
    have hlen := hsg.len
    have hl : (SX.S sg).length ≤ sizeLine := le_size (by rw [SX.S_len]; omega)
    have e : ((SX.S sg).length : Int) = sg.length := by rw [SX.S_len]
    refine ⟨_, rfl, _, _, _, _, true, rfl, .ty "str", .base (.str _), kit_ty (by decide +kernel), true, rfl, ?_⟩
    refine ⟨_, rfl, _, rfl, hl, _, _, rfl, rfl, true, congrArg V.bl (decide_eq_true (by rw [e]; omega)), ?_⟩
    refine ⟨_, _, rfl, rfl, true, congrArg V.bl (decide_eq_true (by rw [e]; omega)), ?_⟩
    refine ⟨_, rfl, _, rfl, fun D hD => lc_it (walk_str (z := SX.S sg)) (fun i H' => H' D = some (.lst ((List.replicate i true).map V.bl)) ∧ Same H H') ⟨upd_same, Same.new _ hD⟩ (fun _ _ _ _ => trivial) ?_ ?_⟩
    · rintro i x H1 H2 hi ⟨hDl, sm⟩ ⟨rfl, c, hc, rfl⟩
      have hcu : c ∈ sg := by
        have q : sg[i]? = some c := by simpa using hc
        exact List.mem_of_getElem? q
      have hi2 : i ≤ 100000 := by
        have q : i < (SX.S sg).length := hi
        rw [SX.S_len] at q
        omega
      obtain ⟨l1, l2⟩ := signs_le hsg c hcu
      refine ⟨rfl, _, rfl, _, _, rfl, rfl, true, congrArg V.bl l1, _, _, rfl, rfl, _, hDl, lt_size (by simp; exact hi2), ?_, sm.updNew hD⟩
      rw [upd_same]
      show some (HO.lst (_ ++ [V.bl (!decide (([122] : List Nat) < [c]))])) = _
      rw [l2, rep_snoc]
    · rintro H1 ⟨hDl, sm⟩
      refine ⟨D, _, rfl, SqL.of hDl, ?_⟩
      rw [all_true]
      refine ⟨_, rfl, true, rfl, ?_⟩
      refine ⟨_, rfl, _, rfl, _, rfl, _, rfl, hl, ?_⟩
      rw [C8.cutS_slice, SX.slice_from (by decide)]
      refine ⟨_, _, rfl, fun D2 hD2 => lc_it (walk_zipS (x := SX.S sg) (y := SX.S (sg.drop 1))) (fun i H' => H' D2 = some (.lst ((List.replicate i true).map V.bl)) ∧ Same H H') ⟨upd_same, sm.trans (Same.new _ hD2)⟩ (fun _ _ _ _ => trivial) ?_ ?_⟩
      · rintro i x H2 H3 hi ⟨hDl2, sm2⟩ ⟨t, c, d, rfl, ht, rfl, hc, hd⟩
        have hcu : sg[i]? = some c := by simpa using hc
        have hdu : (sg.drop 1)[i]? = some d := by simpa using hd
        have hi2 : i ≤ 100000 := by
          have q := (List.getElem?_eq_some_iff.mp hcu).1
          omega
        have nt : D2 ≠ t := fun z => hp_ne hDl2 ht z.symm
        refine ⟨t, _, rfl, SqT.of upd_same, rfl, _, _, rfl, _, _, rfl, rfl, rfl, _, rfl, _, rfl, _, _, rfl, rfl, _, by rw [upd_ne nt]; exact hDl2, lt_size (by simp; exact hi2), ?_, (sm2.trans (Same.new _ ht)).updNew (sm.free hD2)⟩
        rw [upd_same]
        show some (HO.lst (_ ++ [V.bl (decide ([c] < [d]))])) = _
        rw [signs_pair hsg hcu hdu, rep_snoc]
      · rintro H2 ⟨hDl2, sm2⟩
        refine ⟨D2, _, rfl, SqL.of hDl2, ?_⟩
        rw [all_true]
        exact k _ sm2
end
end J


set_option Elab.async false
set_option linter.all false
set_option maxRecDepth 100000
set_option maxHeartbeats 4000000
namespace J
open PySem L2
/-- arcs that a loom may have -/
def OkW (sg : List Nat) (as : List Arc) : Prop := 1 ≤ as.length ∧ as.length ≤ 200 ∧ ∀ a ∈ as, OkArc sg a
theorem OkArcs.w {sg : List Nat} {as : List Arc} (h : OkArcs sg as) : OkW sg as := ⟨h.1, by have := h.2.1; omega, h.2.2.1⟩
/-- a loom's fields -/
def lf (sg : List Nat) (T : Addr) : List (Str × V) := putF "arcs" (.ref T) (putF "signs" (.str (SX.S sg)) [])
theorem ne_sa : ¬ (("signs" : Str) = "arcs") := by decide +kernel
theorem lf_signs (sg : List Nat) (T : Addr) : (lf sg T).lookup ("signs" : Str) = some (.str (SX.S sg)) := by
  unfold lf
  rw [lookup_putF, if_neg ne_sa, lookup_putF, if_pos rfl]
theorem lf_arcs (sg : List Nat) (T : Addr) : (lf sg T).lookup ("arcs" : Str) = some (.ref T) := by
  unfold lf
  rw [lookup_putF, if_pos rfl]
/-- a loom stands at p -/
def LoomAt (C : Addr) (H : Hp) (p : Addr) (sg : List Nat) (us : List V) (as : List Arc) : Prop := ∃ dx T, H p = some (.ins C dx (lf sg T)) ∧ H T = some (.tup us) ∧ Arcs H us as ∧ OkW sg as ∧ Signs sg
def spInit (C : Addr) : Sp := fun vs H Q _ => ∃ (p dx a : Addr) (sg : List Nat) (us : List V) (as : List Arc), vs = [.ref p, .str (SX.S sg), .ref a] ∧ H p = some (.ins C dx []) ∧ H a = some (.lst us) ∧ Arcs H us as ∧ OkW sg as ∧ Signs sg ∧
  ∀ (H' : Hp) (T : Addr), Ex p H H' → H T = none → H' T = some (.tup us) → H' p = some (.ins C dx (lf sg T)) → Q .non H'
theorem take_snoc {α : Type} {l : List α} {i : Nat} {x : α} (h : l[i]? = some x) : l.take i ++ [x] = l.take (i + 1) := by
  rw [List.take_add_one, h]
  rfl
def spChkSigns : Sp := fun vs H Q _ => ∃ sg : List Nat, vs = [.str (SX.S sg)] ∧ Signs sg ∧ ∀ H', Same H H' → Q .non H'
section
variable {P : Program} {w : World} {K : PySem.W.Frag} {mg : Str → Option Value} {base : Heap}
theorem ok_check_signs (T : Tx K mg) : FnOk P w K mg base CX0 2 T.f_check_signs T.fd_check_signs P_check_signs spChkSigns := by
  have G_is_signs : FnOk P w K mg base CX0 1 T.f_is_signs T.fd_is_signs P_is_signs spSigns := ok_is_signs T
  refine T.F_check_signs.ok sc_check_signs (fun vs H Q E h => ?_) (fun cdv A outer s H vs Q E hr h => ?_)
  · obtain ⟨sg, rfl, _⟩ := h
    rfl
  · obtain ⟨sg, rfl, hsg, k⟩ := h
    refine ⟨_, (pss_one (ps_if (pt_not (pt_val (pe_call G_is_signs (hr.mono (by decide)) rfl T.m_is_signs T.F_is_signs.kp T.b_is_signs .nil pass0 (pa_cons (pv 0) pa_nil)))) (pss_one ps_never) pss_nil)), ?_⟩
    refine ⟨_, rfl, sg, rfl, hsg, fun H1 s1 => ⟨true, rfl, ?_⟩⟩
    exact k _ s1
theorem ok_Loom_init (T : Tx K mg) : FnOk P w K mg base CX0 4 T.f_Loom_init T.fd_Loom_init P_Loom_init (spInit T.C_Loom) := by
  have G_check_signs : FnOk P w K mg base CX0 2 T.f_check_signs T.fd_check_signs P_check_signs spChkSigns := ok_check_signs T
  have G_is_sequence : FnOk P w K mg base CX0 1 T.f_is_sequence T.fd_is_sequence P_is_sequence (spSequence K) := ok_is_sequence T
  have G_is_arc : FnOk P w K mg base CX0 3 T.f_is_arc T.fd_is_arc P_is_arc spArc := ok_is_arc T
  refine T.F_Loom_init.ok sc_Loom_init (fun vs H Q E h => ?_) (fun cdv A outer s H vs Q E hr h => ?_)
  · obtain ⟨p, dx, a, sg, us, as, rfl, _⟩ := h
    rfl
  · obtain ⟨p, dx, a, sg, us, as, rfl, hp, ha, harc, hok, hsg, k⟩ := h
    refine ⟨_, (pss_cons (ps_expr (pe_call G_check_signs (hr.mono (by decide)) rfl T.m_check_signs T.F_check_signs.kp T.b_check_signs .nil pass0 (pa_cons (pv 1) pa_nil)))
        (pss_cons (ps_if (pt_not (pt_val (pe_call G_is_sequence (hr.mono (by decide)) rfl T.m_is_sequence T.F_is_sequence.kp T.b_is_sequence .nil pass0 (pa_cons (pv 2) (pa_cons pe_int (pa_cons (pe_glob (v := V.int 200) rfl T.g_MOST_ARCS ⟨_, rfl⟩) pa_nil)))))) (pss_one ps_never) pss_nil)
        (pss_cons (ps_for PassesOwn.never rfl (pi_enum rfl T.n_enumerate (pa_cons (pv 2) pa_nil)) (pg_tup rfl (pgs_cons (pg_name (i := 3) sc_Loom_init.nd rfl (Or.inl rfl)) (pgs_cons (pg_name (i := 4) sc_Loom_init.nd rfl (Or.inl rfl)) pgs_nil))) (pss_one (ps_if (pt_not (pt_val (pe_call G_is_arc (hr.mono (by decide)) rfl T.m_is_arc T.F_is_arc.kp T.b_is_arc .nil pass0 (pa_cons (pv 1) (pa_cons (pv 4) pa_nil))))) (pss_one ps_never) pss_nil)))
        (pss_cons (ps_fld (pv 0) (pv 1) rfl)
        (pss_one (ps_fld (pv 0) (pe_callTy (call_tuple_ofK (K := K) rfl) rfl T.n_tuple (by decide +kernel) (pa_cons (pe_lc (own := [("arc", 4)]) (g := (gName 4)) rfl sc_Loom_init.nd (pi_list (pv 2)) (blkOk_by (N := N_Loom_init) (sc := defScope s_Loom_init) (by decide +kernel)) (fun _ _ _ _ _ => (pg_name (i := 4) sc_Loom_init.nd rfl (Or.inl rfl))) (fun _ _ _ _ _ => pts_nil) (fun _ _ _ _ _ => (pe_callTy (call_tuple_ofK (K := K) rfl) rfl T.n_tuple (by decide +kernel) (pa_cons (pv 4) pa_nil)))) pa_nil)) rfl)))))), ?_⟩
    refine ⟨_, rfl, sg, rfl, hsg, fun H1 s1 => ?_⟩
    refine ⟨_, rfl, a, us, 1, 200, rfl, s1 _ _ ha, fun H2 b s2 hb => ⟨b, rfl, ?_⟩⟩
    have hl := hok.2.1
    have hl0 := hok.1
    have hl2 := harc.1
    rw [hb.mpr ⟨by omega, by omega⟩]
    have s12 := s1.trans s2
    refine ⟨_, rfl, a, us, rfl, SqL.of (s12 _ _ ha), for_it walk_enum (fun i σ H' => ∃ v3 v4, σ = [some (.ref p), some (.str (SX.S sg)), some (.ref a), v3, v4] ∧ Same H H') ⟨_, _, rfl, s12⟩ (fun i σ H' _ ⟨_, _, _, sm⟩ => SqL.of (sm _ _ ha)) ?_ ?_⟩
    · rintro i x σ H3 H4 hi ⟨v3, v4, rfl, s3⟩ ⟨tp, x1, y1, rfl, ht, rfl, hx1, hy1⟩
      cases hx1
      have hia : i < as.length := by omega
      obtain ⟨t, hut, htt⟩ := harc.2 i as[i] (List.getElem?_eq_getElem hia)
      replace hy1 : us[i]? = some y1 := hy1
      rw [hut] at hy1
      cases hy1
      have sn := Same.new (.tup [V.int (i : Int), .ref t]) ht
      refine ⟨tp, _, rfl, SqT.of upd_same, rfl, _, _, rfl, _, _, rfl, rfl, ?_⟩
      refine ⟨_, rfl, _, rfl, sg, t, as[i], rfl, sn _ _ (s3 _ _ htt), hok.2.2 _ (List.getElem_mem hia), fun H5 s5 => ⟨true, rfl, ?_⟩⟩
      exact ⟨_, _, rfl, s3.trans (sn.trans s5)⟩
    · rintro σ H3 ⟨v3, v4, rfl, s3⟩
      have hp3 := s3 _ _ hp
      refine ⟨_, rfl, _, rfl, p, _, dx, _, rfl, hp3, T.cl_Loom, T.na_Loom_signs, (by show 0 < 1000; decide), ?_⟩
      have x3 : Ex p H (upd H3 p (.ins T.C_Loom dx (putF "signs" (.str (SX.S sg)) []))) := (Same.ex s3).trans (Ex.upd _)
      have nap : a ≠ p := fun z => by rw [z, hp] at ha; cases ha
      refine ⟨_, rfl, a, rfl, ⟨_, SqL.of (x3 _ _ nap ha)⟩, fun D hD => lc_list (K := K) (a := a) (xs := us) (fun i H' => H' D = some (.lst (us.take i)) ∧ Ex p H H' ∧ H' p = some (.ins T.C_Loom dx (putF "signs" (.str (SX.S sg)) []))) ?_ ?_ ?_ ?_⟩
      · have nDp : D ≠ p := hp_ne upd_same hD
        exact ⟨upd_same, x3.trans (Ex.new _ hD), by rw [upd_ne nDp.symm]; exact upd_same⟩
      · rintro i H4 hi ⟨_, x4, _⟩
        exact SqL.of (x4 _ _ nap ha)
      · rintro i y H4 hy ⟨hDl, x4, hp4⟩
        have hia : i < us.length := (List.getElem?_eq_some_iff.mp hy).1
        obtain ⟨t, hut, htt⟩ := harc.2 i as[i] (List.getElem?_eq_getElem (by omega))
        rw [hut] at hy
        cases hy
        have ntp : t ≠ p := fun z => by rw [z, hp] at htt; cases htt
        have nDp : D ≠ p := hp_ne upd_same hD
        refine ⟨rfl, _, rfl, t, _, rfl, .inr ⟨SqT.of (x4 _ _ ntp htt), _, hDl, lt_size (by simp; omega), ?_, x4.updNew (x3.free hD nDp), by rw [upd_ne nDp.symm]; exact hp4⟩⟩
        rw [upd_same, take_snoc hut]
      · rintro H4 ⟨hDl, x4, hp4⟩
        rw [List.take_length] at hDl
        refine ⟨D, us, rfl, .inl ⟨SqL.of hDl, fun T1 hT1 => ?_⟩⟩
        have nT : T1 ≠ p := hp_ne hp4 hT1
        refine ⟨_, rfl, p, _, dx, _, rfl, by rw [upd_ne nT.symm]; exact hp4, T.cl_Loom, T.na_Loom_arcs, (by show 1 < 1000; decide), ?_⟩
        exact k _ T1 ((x4.trans (Ex.new _ hT1)).trans (Ex.upd _)) (x4.free hT1 nT) (by rw [upd_ne nT]; exact upd_same) upd_same
end
end J


set_option Elab.async false
set_option linter.all false
set_option maxRecDepth 100000
set_option maxHeartbeats 4000000
namespace J
open PySem L2
abbrev nats (l : List Nat) : List V := l.map fun n : Nat => V.int (n : Int)
def leavTo (as : List Arc) (g : Nat) (i : Nat) : List Nat := (List.range i).filter fun j => decide (as[j]?.map (·.1) = some g)
/-- the numbers of the arcs that leave g -/
def leav (as : List Arc) (g : Nat) : List Nat := leavTo as g as.length
theorem leavTo_snoc {as : List Arc} {g i : Nat} {a : Arc} (h : as[i]? = some a) : leavTo as g (i + 1) = leavTo as g i ++ if a.1 = g then [i] else [] := by
  unfold leavTo
  rw [List.range_succ, List.filter_append]
  congr 1
  by_cases c : a.1 = g
  · simp [h, c]
  · simp [h, c]
theorem leavTo_len (as : List Arc) (g : Nat) : ∀ i, (leavTo as g i).length ≤ i := fun i => by
  unfold leavTo
  exact Nat.le_trans (List.length_filter_le _ _) (by simp)
theorem leav_mem {as : List Arc} {g i : Nat} (h : i ∈ leav as g) : ∃ a, as[i]? = some a ∧ a.1 = g := by
  unfold leav leavTo at h
  have q := (List.mem_filter.mp h).2
  rw [decide_eq_true_eq] at q
  cases e : as[i]? with
  | none => rw [e] at q; cases q
  | some a => rw [e] at q; exact ⟨a, rfl, Option.some.inj q⟩
theorem leav_lt {as : List Arc} {g i : Nat} (h : i ∈ leav as g) : i < as.length := by
  obtain ⟨a, ha, _⟩ := leav_mem h
  exact (List.getElem?_eq_some_iff.mp ha).1
/-- a list of arcs stands at a -/
def ArcL (H : Hp) (a : Addr) (as : List Arc) : Prop := ∃ us, H a = some (.lst us) ∧ Arcs H us as
theorem ArcL.same {H H' : Hp} {a : Addr} {as : List Arc} (h : ArcL H a as) (s : Same H H') : ArcL H' a as := by
  obtain ⟨us, h1, h2⟩ := h
  exact ⟨us, s _ _ h1, h2.same s⟩
theorem ArcL.ex {ns : List Int} {l p : Addr} {H H' : Hp} {a : Addr} {as : List Arc} (h : ArcL H a as) (st : StAt ns l H p) (s : Ex p H H') (n : a ≠ p) : ArcL H' a as := by
  obtain ⟨us, h1, h2⟩ := h
  exact ⟨us, s _ _ n h1, h2.st st s⟩
def spLeaving : Sp := fun vs H Q _ => ∃ (a : Addr) (as : List Arc) (g : Nat), vs = [.ref a, .int (g : Int)] ∧ ArcL H a as ∧ as.length ≤ 100000 ∧
  ∀ (H' : Hp) (p : Addr), Same H H' → H p = none → H' p = some (.lst (nats (leav as g))) → Q (.ref p) H'
def spMade (C : Addr) : Sp := fun vs H Q _ => ∃ (q a : Addr) (sg : List Nat) (us : List V) (as : List Arc), vs = [.ref q] ∧ H q = some (.tup [.str (SX.S sg), .ref a]) ∧ H a = some (.lst us) ∧ Arcs H us as ∧ OkW sg as ∧ Signs sg ∧
  ∀ (H' : Hp) (p : Addr), Same H H' → H p = none → LoomAt C H' p sg us as → Q (.ref p) H'
def spInteger : Sp := fun vs H Q _ => ∃ i : Int, vs = [.int i] ∧ Q (.bl true) H
section
variable {P : Program} {w : World} {K : PySem.W.Frag} {mg : Str → Option Value} {base : Heap}
theorem ok_l_made (T : Tx K mg) : FnOk P w K mg base CX0 6 T.f_l_made T.fd_l_made P_l_made (spMade T.C_Loom) := by
  have G_Loom_init : FnOk P w K mg base CX0 4 T.f_Loom_init T.fd_Loom_init P_Loom_init (spInit T.C_Loom) := ok_Loom_init T
  refine T.F_l_made.ok sc_l_made (fun vs H Q E h => ?_) (fun cdv A outer s H vs Q E hr h => ?_)
  · obtain ⟨q, a, sg, us, as, rfl, _⟩ := h
    rfl
  · obtain ⟨q, a, sg, us, as, rfl, hq, ha, harc, hok, hsg, k⟩ := h
    refine ⟨_, (pss_one (ps_ret (pe_make T.M_Loom G_Loom_init (hr.mono (by decide)) rfl T.g_Loom T.b_Loom_init .nil pass0 (pa_cons (pe_ix (ix_tupK (K := K) rfl) (pv 0) pe_int (fun _ _ => rfl)) (pa_cons (pe_callTy (call_list_ofK (K := K) rfl) rfl T.n_list (by decide +kernel) (pa_cons (pe_ix (ix_tupK (K := K) rfl) (pv 0) pe_int (fun _ _ => rfl)) pa_nil)) pa_nil))))), ?_⟩
    refine ⟨_, rfl, q, _, _, _, rfl, rfl, SqT.of hq, rfl, _, rfl, q, _, _, _, rfl, rfl, SqT.of hq, rfl, a, us, rfl, .inl (SqL.of ha), fun l hl => ?_⟩
    have s1 := Same.new (.lst us) hl
    intro x dx hx hdx hne
    have s2 : Same H (upd (upd (upd H l (.lst us)) dx (.own x)) x (.ins T.C_Loom dx [])) := (s1.trans (Same.new _ hdx)).trans (Same.new _ (by rw [upd_ne hne.symm]; exact hx))
    have hx0 : H x = none := s1.free hx
    have nlx : l ≠ x := (hp_ne upd_same hx).symm
    have nld : l ≠ dx := (hp_ne upd_same hdx).symm
    refine ⟨x, dx, l, sg, us, as, rfl, upd_same, by rw [upd_ne nlx, upd_ne nld]; exact upd_same, harc.same s2, hok, hsg, fun H' Tp x3 hTp hTus hx3 => ⟨rfl, ?_⟩⟩
    have s3 : Same H H' := fun b o e => x3 _ _ (ne_of_none e hx0) (s2 _ _ e)
    exact k _ x s3 hx0 ⟨dx, Tp, hx3, hTus, harc.same s3, hok, hsg⟩
end
end J


set_option Elab.async false
set_option linter.all false
set_option maxRecDepth 100000
set_option maxHeartbeats 4000000
namespace J
open PySem L2
/-- a row of numbers of arcs, of whatever kind -/
def RowIn (as : List Arc) (row : List Nat) : Prop := ∀ i ∈ row, i < as.length
def wordAt (as : List Arc) (i : Nat) : List Nat := match as[i]? with | some a => a.2.1 | none => []
def goalAt (as : List Arc) (i : Nat) : Nat := match as[i]? with | some a => a.2.2 | none => 0
/-- a row's text -/
def rowText (as : List Arc) (row : List Nat) : List Nat := (row.map (wordAt as)).flatten
/-- where a row ends -/
def rowEnd (as : List Arc) (g : Nat) (row : List Nat) : Nat := match row.getLast? with | some i => goalAt as i | none => g
theorem wordAt_eq {as : List Arc} {i : Nat} {a : Arc} (h : as[i]? = some a) : wordAt as i = a.2.1 := by unfold wordAt; rw [h]
theorem goalAt_eq {as : List Arc} {i : Nat} {a : Arc} (h : as[i]? = some a) : goalAt as i = a.2.2 := by unfold goalAt; rw [h]
def OkAll (as : List Arc) : Prop := as.length ≤ 100000 ∧ ∀ a ∈ as, a.1 ≤ 63 ∧ 1 ≤ a.2.1.length ∧ a.2.1.length ≤ 12 ∧ a.2.2 ≤ 63
theorem OkArcs.all {sg : List Nat} {as : List Arc} (h : OkArcs sg as) : OkAll as := ⟨by have := h.2.1; omega, fun a ha => by
  obtain ⟨h1, ⟨h2, h3, _⟩, h4⟩ := h.2.2.1 a ha
  exact ⟨h1, h2, h3, h4⟩⟩
theorem goalAt_le {as : List Arc} (h : OkAll as) (i : Nat) : goalAt as i ≤ 63 := by
  unfold goalAt
  cases e : as[i]? with
  | none => simp
  | some a => exact (h.2 a (List.mem_of_getElem? e)).2.2.2
theorem wordAt_len {as : List Arc} (h : OkAll as) (i : Nat) : (wordAt as i).length ≤ 12 := by
  unfold wordAt
  cases e : as[i]? with
  | none => simp
  | some a => exact (h.2 a (List.mem_of_getElem? e)).2.2.1
theorem rowText_len {as : List Arc} (h : OkAll as) (row : List Nat) : (rowText as row).length ≤ 12 * row.length := by
  unfold rowText
  induction row with
  | nil => simp
  | cons i r ih =>
    have := wordAt_len h i
    simp only [List.map_cons, List.flatten_cons, List.length_append, List.length_cons] at *
    omega
theorem OkW.all {sg : List Nat} {as : List Arc} (h : OkW sg as) : OkAll as := ⟨by have := h.2.1; omega, fun a ha => by
  obtain ⟨h1, ⟨h2, h3, _⟩, h4⟩ := h.2.2 a ha
  exact ⟨h1, h2, h3, h4⟩⟩
theorem eqv_nil (ns : List Int) : (!PyData.eqv (.list (ns.map PyData.int)) (.list [])) = decide (ns ≠ []) := by
  cases ns with
  | nil => rfl
  | cons a r => rfl
theorem dp_ints {K : PySem.W.Frag} {H : Hp} : ∀ ns : List Int, DpAll K H (ns.map V.int) (ns.map PyData.int)
  | [] => .nil
  | n :: r => .cons (.int n) (dp_ints r)
theorem nats_map (l : List Nat) : nats l = (l.map fun n : Nat => (n : Int)).map V.int := by simp [nats, List.map_map, Function.comp_def]
end J


set_option Elab.async false
set_option linter.all false
set_option maxRecDepth 100000
set_option maxHeartbeats 4000000
namespace J
open PySem L2
theorem nodup_le : ∀ (n : Nat) (l : List Nat), l.Nodup → (∀ x ∈ l, x < n) → l.length ≤ n
  | 0, l, _, h => by
    cases l with
    | nil => simp
    | cons a r => exact absurd (h a (by simp)) (Nat.not_lt_zero _)
  | n + 1, l, hn, h => by
    have h1 : (l.erase n).length ≤ n := nodup_le n (l.erase n) (hn.erase n) fun x hx => by
      have q := h x (List.mem_of_mem_erase hx)
      have : x ≠ n := fun z => by
        subst z
        exact (List.Nodup.not_mem_erase hn) hx
      omega
    have h2 : l.length ≤ (l.erase n).length + 1 := by
      by_cases c : n ∈ l
      · rw [List.length_erase_of_mem c]; omega
      · rw [List.erase_of_not_mem c]; omega
    omega
end J


set_option Elab.async false
set_option linter.all false
set_option maxRecDepth 100000
set_option maxHeartbeats 4000000
namespace J
open PySem L2
theorem LoomAt.same {C : Addr} {H H' : Hp} {p : Addr} {sg : List Nat} {us : List V} {as : List Arc} (h : LoomAt C H p sg us as) (s : Same H H') : LoomAt C H' p sg us as := by
  obtain ⟨dx, T, h1, h2, h3, h4, h5⟩ := h
  exact ⟨dx, T, s _ _ h1, s _ _ h2, h3.same s, h4, h5⟩
theorem S_inj {u v : List Nat} (h : SX.S u = SX.S v) : u = v := by
  unfold SX.S at h
  injection h with h
  simpa using h
end J


set_option Elab.async false
set_option linter.all false
set_option maxRecDepth 100000
set_option maxHeartbeats 4000000
namespace J
open PySem L2
def pre (x w : List Nat) : Bool := x.take w.length == w
theorem starts0_S (x w : List Nat) : Txt.startswith (SX.S x) (SX.S w) = pre x w := by
  unfold Txt.startswith pre
  rw [PySem.StrLaws.subAt_eq, SX.S_len, SX.S_len]
  show (decide (0 + w.length ≤ x.length) && ((x.drop 0).take w.length == w)) = _
  rw [List.drop_zero]
  cases c : (x.take w.length == w) with
  | false => simp
  | true =>
    have e := congrArg List.length (eq_of_beq c)
    rw [List.length_take] at e
    simp
    omega
theorem cutS_from (x : List Nat) (k : Nat) : cutS (SX.S x) (some (k : Int)) none = SX.S (x.drop k) := by
  unfold cutS
  rw [HT.sIx_nat, HT.sIx_none, SX.S_len]
  show SX.S ((x.drop (min k x.length)).take (x.length - min k x.length)) = _
  congr 1
  by_cases c : k ≤ x.length
  · rw [Nat.min_eq_left c, List.take_of_length_le (by rw [List.length_drop]; exact Nat.le_refl _)]
  · rw [Nat.min_eq_right (by omega), List.drop_eq_nil_of_le (Nat.le_refl _), List.drop_eq_nil_of_le (by omega), List.take_nil]
end J


set_option Elab.async false
set_option linter.all false
set_option maxRecDepth 100000
set_option maxHeartbeats 4000000
namespace J
open PySem L2
def matchAt (x w : List Nat) (i : Nat) : Bool := (x.drop i).take w.length == w
theorem matchAt_le {x w : List Nat} {i : Nat} (h : matchAt x w i = true) (hi : i ≤ x.length) : i + w.length ≤ x.length := by
  unfold matchAt at h
  have e := congrArg List.length (eq_of_beq h)
  rw [List.length_take, List.length_drop] at e
  omega
theorem starts_S {x w : List Nat} {i : Nat} (hi : i ≤ x.length) (hw : 1 ≤ w.length) : Txt.startswith3 (SX.S x) (SX.S w) (i : Int) = matchAt x w i := by
  have ef : fromIndex (SX.S x).length (i : Int) = i := by
    unfold fromIndex
    rw [if_neg (by omega)]
    omega
  unfold Txt.startswith3
  rw [ef, PySem.StrLaws.subAt_eq, SX.S_len, SX.S_len]
  show (decide (i + w.length ≤ x.length) && ((x.drop i).take w.length == w)) = matchAt x w i
  unfold matchAt
  cases c : ((x.drop i).take w.length == w) with
  | false => simp
  | true =>
    have := matchAt_le (x := x) (w := w) (i := i) c hi
    simp [this]
end J


set_option Elab.async false
set_option linter.all false
set_option maxRecDepth 100000
set_option maxHeartbeats 4000000
namespace J
open PySem L2
/-! ### rows that read or cover a text -/
/-- whether a text can be read from a state on; b: a row may end behind it -/
inductive Gd (as : List Arc) (b : Bool) : Nat → List Nat → Prop
  | nil {g : Nat} : Gd as b g []
  | go {g i : Nat} {a : Arc} {u : List Nat} (h : as[i]? = some a) (e : a.1 = g) (l : a.2.1.length < u.length) (p : a.2.1 <+: u) (r : Gd as b a.2.2 (u.drop a.2.1.length)) : Gd as b g u
  | fin {g i : Nat} {a : Arc} {u : List Nat} (h : as[i]? = some a) (e : a.1 = g) (l : u.length ≤ a.2.1.length) (n : u ≠ []) (p : u <+: a.2.1) (r : b = true ∨ a.2.1.length = u.length) : Gd as b g u
def Tk (as : List Arc) (b : Bool) (u : List Nat) (a : Arc) : Prop := (a.2.1.length < u.length ∧ a.2.1 <+: u ∧ Gd as b a.2.2 (u.drop a.2.1.length)) ∨ (u.length ≤ a.2.1.length ∧ u <+: a.2.1 ∧ (b = true ∨ a.2.1.length = u.length))
/-- an arc that leaves the state and leads to the text's end -/
def Lvv (as : List Arc) (b : Bool) (u : List Nat) (g i : Nat) : Prop := ∃ a, as[i]? = some a ∧ a.1 = g ∧ Tk as b u a
open Classical in
noncomputable def livI (as : List Arc) (b : Bool) (u : List Nat) (g n : Nat) : List Nat := (List.range n).filter fun i => decide (Lvv as b u g i)
noncomputable def liv (as : List Arc) (b : Bool) (u : List Nat) (g : Nat) : List Nat := livI as b u g as.length
theorem mem_livI {as : List Arc} {b : Bool} {u : List Nat} {g n i : Nat} : i ∈ livI as b u g n ↔ i < n ∧ Lvv as b u g i := by
  classical
  unfold livI
  rw [List.mem_filter, List.mem_range, decide_eq_true_iff]
theorem mem_liv {as : List Arc} {b : Bool} {u : List Nat} {g i : Nat} : i ∈ liv as b u g ↔ Lvv as b u g i := by
  unfold liv
  rw [mem_livI]
  exact ⟨fun h => h.2, fun h => ⟨by obtain ⟨a, e, _⟩ := h; exact (List.getElem?_eq_some_iff.mp e).1, h⟩⟩
theorem livI_succ {as : List Arc} {b : Bool} {u : List Nat} {g n : Nat} : (Lvv as b u g n → livI as b u g (n + 1) = livI as b u g n ++ [n]) ∧ (¬ Lvv as b u g n → livI as b u g (n + 1) = livI as b u g n) := by
  classical
  unfold livI
  rw [List.range_succ, List.filter_append]
  constructor
  · intro h
    rw [List.filter_cons_of_pos (by simpa using h)]
    rfl
  · intro h
    rw [List.filter_cons_of_neg (by simpa using h)]
    simp
theorem livI_len (as : List Arc) (b : Bool) (u : List Nat) (g n : Nat) : (livI as b u g n).length ≤ n := by
  unfold livI
  exact Nat.le_trans (List.length_filter_le _ _) (by simp)
theorem gd_tk {as : List Arc} {b : Bool} {u : List Nat} {g : Nat} (hu : u ≠ []) : Gd as b g u ↔ ∃ i, Lvv as b u g i := by
  constructor
  · intro h
    cases h with
    | nil => exact absurd rfl hu
    | @go _ i a _ h e l p r => exact ⟨i, a, h, e, .inl ⟨l, p, r⟩⟩
    | @fin _ i a _ h e l n p r => exact ⟨i, a, h, e, .inr ⟨l, p, r⟩⟩
  · rintro ⟨i, a, h, e, ⟨l, p, r⟩ | ⟨l, p, r⟩⟩
    · exact .go h e l p r
    · exact .fin h e l hu p r
theorem gd_liv {as : List Arc} {b : Bool} {u : List Nat} {g : Nat} (hu : u ≠ []) : Gd as b g u ↔ liv as b u g ≠ [] := by
  rw [gd_tk hu]
  constructor
  · rintro ⟨i, h⟩ z
    have := mem_liv.mpr h
    rw [z] at this
    cases this
  · intro h
    obtain ⟨i, hi⟩ := List.exists_mem_of_ne_nil _ h
    exact ⟨i, mem_liv.mp hi⟩
/-! ### the table: a dict for each place -/
def LivAt (H : Hp) (d : Addr) (as : List Arc) (b : Bool) (u : List Nat) (n : Nat) : Prop := ∃ (kvs : List (Key × V)) (at_ : Nat → Addr), H d = some (.dK kvs) ∧ kvs.length ≤ n ∧
  (∀ g, livI as b u g n = [] → valV kvs (.inl (g : Int)) = none) ∧
  (∀ g, livI as b u g n ≠ [] → valV kvs (.inl (g : Int)) = some (.ref (at_ g)) ∧ H (at_ g) = some (.lst ((livI as b u g n).map fun i : Nat => V.int (i : Int)))) ∧
  (∀ g g', livI as b u g n ≠ [] → livI as b u g' n ≠ [] → at_ g = at_ g' → g = g')
def LivsAt (H : Hp) (ds : List Addr) (as : List Arc) (b : Bool) (t : List Nat) (m : Nat) : Prop := ∀ k, m ≤ k → k < t.length → ∃ d, ds[k]? = some d ∧ LivAt H d as b (t.drop k) as.length
theorem LivAt.exd {H H' : Hp} {d e : Addr} {as : List Arc} {b : Bool} {u : List Nat} {n : Nat} {kv : List (Key × V)} (h : LivAt H d as b u n) (he : H e = some (.dK kv)) (ne : d ≠ e) (x : ∀ c o, c ≠ e → H c = some o → H' c = some o) : LivAt H' d as b u n := by
  obtain ⟨kvs, at_, h1, h2, h3, h4, h5⟩ := h
  refine ⟨kvs, at_, x _ _ ne h1, h2, h3, fun g hg => ?_, h5⟩
  obtain ⟨q1, q2⟩ := h4 g hg
  exact ⟨q1, x _ _ (fun z => by rw [z, he] at q2; cases q2) q2⟩
theorem LivAt.same {H H' : Hp} {d : Addr} {as : List Arc} {b : Bool} {u : List Nat} {n : Nat} (h : LivAt H d as b u n) (s : Same H H') : LivAt H' d as b u n := by
  obtain ⟨kvs, at_, h1, h2, h3, h4, h5⟩ := h
  exact ⟨kvs, at_, s _ _ h1, h2, h3, fun g hg => ⟨(h4 g hg).1, s _ _ (h4 g hg).2⟩, h5⟩
theorem pre_iff' {x w : List Nat} : pre x w = true ↔ w <+: x := by
  unfold pre
  rw [beq_iff_eq]
  exact ⟨fun h => List.prefix_iff_eq_take.mpr h.symm, fun h => (List.prefix_iff_eq_take.mp h).symm⟩
theorem matchAt_iff {x w : List Nat} {i : Nat} : matchAt x w i = true ↔ w <+: x.drop i := by
  unfold matchAt
  rw [beq_iff_eq]
  exact ⟨fun h => List.prefix_iff_eq_take.mpr h.symm, fun h => (List.prefix_iff_eq_take.mp h).symm⟩
def spGoes : Sp := fun vs H Q _ => ∃ (t : List Nat) (at_ : Nat) (ar lv : Addr) (b : Bool) (a : Arc) (ds : List Addr) (as : List Arc), vs = [.str (SX.S t), .int (at_ : Int), .ref ar, .ref lv, .bl b] ∧ at_ < t.length ∧ t.length ≤ 2000 ∧ H ar = some (arcHO a) ∧
  H lv = some (.lst (ds.map V.ref)) ∧ LivsAt H ds as b t (at_ + 1) ∧ 1 ≤ a.2.1.length ∧ a.2.1.length ≤ 12 ∧ ∀ r : Bool, (r = true ↔ Tk as b (t.drop at_) a) → Q (.bl r) H
section
variable {P : Program} {w : World} {K : PySem.W.Frag} {mg : Str → Option Value} {base : Heap}
theorem ok_goes_on (T : Tx K mg) : FnOk P w K mg base CX0 1 T.f_goes_on T.fd_goes_on P_goes_on spGoes := by
  refine T.F_goes_on.ok sc_goes_on (fun vs H Q E h => ?_) (fun cdv A outer s H vs Q E hr h => ?_)
  · obtain ⟨t, at_, ar, lv, b, a, ds, as, rfl, _⟩ := h
    rfl
  · obtain ⟨t, at_, ar, lv, b, a, ds, as, rfl, hat, ht, har, hlv, hls, w1, w12, k⟩ := h
    refine ⟨_, (pss_cons (ps_asg (pv 2) (pg_tup rfl (pgs_cons (pg_name (i := 5) sc_goes_on.nd rfl (Or.inl rfl)) (pgs_cons (pg_name (i := 6) sc_goes_on.nd rfl (Or.inl rfl)) (pgs_cons (pg_name (i := 7) sc_goes_on.nd rfl (Or.inl rfl)) pgs_nil)))))
        (pss_cons (ps_set (i := 8) sc_goes_on.nd rfl (Or.inl rfl) (pe_op op_add (pv 1) (pe_callB call_len_str rfl T.n_len (by decide +kernel) (pa_cons (pv 6) pa_nil))))
        (pss_cons (ps_if (pt_cmpR op_lt (pv 8) (pe_callB call_len_str rfl T.n_len (by decide +kernel) (pa_cons (pv 0) pa_nil)) (nomark _)) (pss_one (ps_ret (pe_and (pe_bm PySem.F.plainAttrs_str PySem.F.slot_str_startswith PySem.F.type_str_startswith mt_startswith3 (pv 0) (pa_cons (pv 6) (pa_cons (pv 1) pa_nil))) (pe_one (pe_cmp (pc_din (hu_of hr) (pv 7) (pe_ix (ix_listK (K := K) rfl) (pv 3) (pv 8) (fun _ _ => rfl))) rfl))))) pss_nil)
        (pss_one (ps_ret (pe_and (pe_or (pv 4) (pe_one (pe_cmpR op_eq (pv 8) (pe_callB call_len_str rfl T.n_len (by decide +kernel) (pa_cons (pv 0) pa_nil)) (nomark _)))) (pe_one (pe_bm PySem.F.plainAttrs_str PySem.F.slot_str_startswith PySem.F.type_str_startswith mt_startswith (pv 6) (pa_cons (pe_slice sl_str (pv 0) (po_some (pv 1)) po_none) pa_nil))))))))), ?_⟩
    have hwl : (SX.S a.2.1).length ≤ sizeLine := le_size (by rw [SX.S_len]; omega)
    have htl : (SX.S t).length ≤ sizeLine := le_size (by rw [SX.S_len]; omega)
    refine ⟨_, rfl, ar, _, rfl, SqT.of har, rfl, _, _, rfl, _, _, rfl, _, _, rfl, rfl, ?_⟩
    refine ⟨_, rfl, _, rfl, _, rfl, hwl, _, _, rfl, rfl, ?_⟩
    have e1 : ((at_ : Int) + ((SX.S a.2.1).length : Nat)) = ((at_ + a.2.1.length : Nat) : Int) := by rw [SX.S_len]; omega
    have dl : (t.drop at_).length = t.length - at_ := List.length_drop
    refine ⟨_, rfl, _, rfl, _, rfl, htl, _, _, rfl, rfl, _, rfl, ?_⟩
    refine ite2 (fun c => ?_) (fun c => ?_)
    · have hc : at_ + a.2.1.length < t.length := by have := of_decide_eq_true c; simp only [SX.S_len] at this; omega
      refine ⟨_, rfl, rfl, _, rfl, _, rfl, _, _, _, rfl, rfl, _, rfl, ?_⟩
      rw [starts_S (by omega) w1]
      refine ite2 (fun c2 => ?_) (fun c2 => ?_)
      · have hp := matchAt_iff.mp c2
        obtain ⟨d, hd, kvs, ad, hdd, hkl, hn, hs, hi⟩ := hls (at_ + a.2.1.length) (by omega) hc
        have hne : t.drop (at_ + a.2.1.length) ≠ [] := fun z => by
          have := congrArg List.length z
          rw [List.length_drop] at this
          simp at this
          omega
        have hg := gd_liv (as := as) (b := b) (g := a.2.2) hne
        refine ⟨_, rfl, _, rfl, _, rfl, lv, _, _, _, rfl, rfl, SqL.of hlv, by rw [e1]; exact atI_nat (by rw [List.getElem?_map, hd]; rfl), d, _, rfl, .inl ⟨kvs, Sum.inl (a.2.2 : Int), .inl hdd, rfl, rfl⟩, ?_⟩
        refine k _ ?_
        have hdr : (t.drop at_).drop a.2.1.length = t.drop (at_ + a.2.1.length) := by rw [List.drop_drop]
        have hgd : (valV kvs (Sum.inl (a.2.2 : Int))).isSome = true ↔ Gd as b a.2.2 (t.drop (at_ + a.2.1.length)) := by
          rw [hg]
          by_cases z : livI as b (t.drop (at_ + a.2.1.length)) a.2.2 as.length = []
          · rw [hn _ z]
            exact ⟨fun q => Bool.noConfusion q, fun q => absurd z q⟩
          · rw [(hs _ z).1]
            exact ⟨fun _ => z, fun _ => rfl⟩
        rw [hgd, ← hdr]
        constructor
        · intro h
          exact .inl ⟨by omega, hp, h⟩
        · rintro (⟨_, _, h⟩ | ⟨l, _, _⟩)
          · exact h
          · omega
      · refine k false ⟨fun z => Bool.noConfusion z, fun z => ?_⟩
        rcases z with ⟨l, p, _⟩ | ⟨l, p, _⟩
        · exact absurd (matchAt_iff.mpr p) c2
        · omega
    · have hc : ¬ at_ + a.2.1.length < t.length := fun z => c (decide_eq_true (by simp only [SX.S_len]; omega))
      have fin : ∀ r : Bool, (r = true ↔ b = true ∨ a.2.1.length = (t.drop at_).length) → Txt.startswith (SX.S a.2.1) (cutS (SX.S t) (some (at_ : Int)) none) = true → r = true → Q (.bl true) H := fun r hr h1 h2 => by
        rw [cutS_from, starts0_S] at h1
        exact k true ⟨fun _ => .inr ⟨by omega, pre_iff'.mp h1, hr.mp h2⟩, fun _ => rfl⟩
      have fin2 : ∀ r : Bool, (r = true ↔ b = true ∨ a.2.1.length = (t.drop at_).length) → r = true → Q (.bl (Txt.startswith (SX.S a.2.1) (cutS (SX.S t) (some (at_ : Int)) none))) H := fun r hr h2 => by
        cases e : Txt.startswith (SX.S a.2.1) (cutS (SX.S t) (some (at_ : Int)) none) with
        | true => exact fin r hr e h2
        | false =>
          rw [cutS_from, starts0_S] at e
          refine k false ⟨fun z => Bool.noConfusion z, fun z => ?_⟩
          rcases z with ⟨l, _⟩ | ⟨l, p, _⟩
          · omega
          · rw [pre_iff'.mpr p] at e
            cases e
      have non : ∀ r : Bool, (r = true ↔ b = true ∨ a.2.1.length = (t.drop at_).length) → r = false → Q (.bl false) H := fun r hr h2 => by
        refine k false ⟨fun z => Bool.noConfusion z, fun z => ?_⟩
        rcases z with ⟨l, _⟩ | ⟨l, p, q⟩
        · omega
        · rw [hr.mpr q] at h2
          cases h2
      refine ⟨_, rfl, b, rfl, ?_⟩
      cases b with
      | true =>
        refine iteT ⟨true, rfl, iteT ?_⟩
        exact ⟨_, rfl, rfl, _, rfl, _, rfl, _, rfl, _, rfl, htl, _, _, rfl, rfl, fin2 true (by simp) rfl⟩
      | false =>
        refine iteF ⟨_, rfl, _, rfl, _, rfl, htl, rfl, _, rfl, ?_⟩
        have ev : (V.int ((at_ : Int) + ((SX.S a.2.1).length : Nat)) = V.int ((SX.S t).length : Nat)) ↔ a.2.1.length = (t.drop at_).length := by
          rw [e1, SX.S_len, dl]
          constructor
          · intro z
            injection z with z
            omega
          · intro z
            congr 1
            omega
        refine ite2 (fun c3 => ?_) (fun c3 => ?_)
        · have q := ev.mp (of_decide_eq_true c3)
          exact ⟨_, rfl, rfl, _, rfl, _, rfl, _, rfl, _, rfl, htl, _, _, rfl, rfl, fin2 true (by simp [q]) rfl⟩
        · have q : ¬ a.2.1.length = (t.drop at_).length := fun z => c3 (decide_eq_true (ev.mpr z))
          exact non false (by simp only [Bool.false_eq_true, false_iff, false_or]; exact q) rfl
end
end J


set_option Elab.async false
set_option linter.all false
set_option maxRecDepth 100000
set_option maxHeartbeats 4000000
namespace J
open PySem L2
/-- a place's dict, while it is filled: its lists are new since Hs -/
def LivN (Hs H : Hp) (d : Addr) (as : List Arc) (b : Bool) (u : List Nat) (n : Nat) : Prop := ∃ (kvs : List (Key × V)) (at_ : Nat → Addr), H d = some (.dK kvs) ∧ kvs.length ≤ n ∧
  (∀ g, livI as b u g n = [] → valV kvs (.inl (g : Int)) = none) ∧
  (∀ g, livI as b u g n ≠ [] → valV kvs (.inl (g : Int)) = some (.ref (at_ g)) ∧ Hs (at_ g) = none ∧ H (at_ g) = some (.lst ((livI as b u g n).map fun i : Nat => V.int (i : Int)))) ∧
  (∀ g g', livI as b u g n ≠ [] → livI as b u g' n ≠ [] → at_ g = at_ g' → g = g')
theorem LivN.at {Hs H : Hp} {d : Addr} {as : List Arc} {b : Bool} {u : List Nat} {n : Nat} (h : LivN Hs H d as b u n) : LivAt H d as b u n := by
  obtain ⟨kvs, at_, h1, h2, h3, h4, h5⟩ := h
  exact ⟨kvs, at_, h1, h2, h3, fun g hg => ⟨(h4 g hg).1, (h4 g hg).2.2⟩, h5⟩
theorem LivN.same {Hs H H' : Hp} {d : Addr} {as : List Arc} {b : Bool} {u : List Nat} {n : Nat} (h : LivN Hs H d as b u n) (s : Same H H') : LivN Hs H' d as b u n := by
  obtain ⟨kvs, at_, h1, h2, h3, h4, h5⟩ := h
  exact ⟨kvs, at_, s _ _ h1, h2, h3, fun g hg => ⟨(h4 g hg).1, (h4 g hg).2.1, s _ _ (h4 g hg).2.2⟩, h5⟩
/-- all but one object stays -/
def ExDl (d : Addr) (H H' : Hp) : Prop := ∀ c o, c ≠ d → H c = some o → H' c = some o
theorem ExDl.trans {d : Addr} {H H1 H2 : Hp} (a : ExDl d H H1) (b : Same H1 H2) : ExDl d H H2 := fun c o n h => b c o (a c o n h)
theorem ExDl.free {d q : Addr} {H H' : Hp} (x : ExDl d H H') (hq : H' q = none) (n : q ≠ d) : H q = none := by
  cases e : H q with
  | none => rfl
  | some o => rw [x _ _ n e] at hq; cases hq
theorem ExDl.updNew {d q : Addr} {H H' : Hp} {o : HO} (x : ExDl d H H') (hq : H q = none) : ExDl d H (L2.upd H' q o) := fun b u n e => by
  rw [upd_ne (ne_of_none e hq)]; exact x b u n e
theorem ExDl.updD {d : Addr} {H H' : Hp} {o : HO} (x : ExDl d H H') : ExDl d H (L2.upd H' d o) := fun b u n e => by
  rw [upd_ne n]; exact x b u n e
def spLive (C : Addr) : Sp := fun vs H Q _ => ∃ (q : Addr) (sg : List Nat) (us : List V) (as : List Arc) (t : List Nat) (b : Bool), vs = [.ref q, .str (SX.S t), .bl b] ∧ LoomAt C H q sg us as ∧ t.length ≤ 2000 ∧
  ∀ (H' : Hp) (lv : Addr) (ds : List Addr), Same H H' → H lv = none → H' lv = some (.lst (ds.map V.ref)) → ds.length = t.length → LivsAt H' ds as b t 0 → Q (.ref lv) H'
section
variable {P : Program} {w : World} {K : PySem.W.Frag} {mg : Str → Option Value} {base : Heap}
theorem ok_live_arcs (T : Tx K mg) : FnOk P w K mg base CX0 2 T.f_live_arcs T.fd_live_arcs P_live_arcs (spLive T.C_Loom) := by
  have G_goes_on : FnOk P w K mg base CX0 1 T.f_goes_on T.fd_goes_on P_goes_on spGoes := ok_goes_on T
  refine T.F_live_arcs.ok sc_live_arcs (fun vs H Q E h => ?_) (fun cdv A outer s H vs Q E hr h => ?_)
  · obtain ⟨q, sg, us, as, t, b, rfl, _⟩ := h
    rfl
  · obtain ⟨q, sg, us, as, t, b, rfl, ⟨dx, TT, hq, hT, harc, hok, hsg⟩, ht, k⟩ := h
    refine ⟨_, (pss_cons (ps_setLc (i := 3) (own := [("_", 7)]) (g := (gName 7)) rfl sc_live_arcs.nd rfl rfl (sw_true rfl rfl rfl (by decide +kernel)) (pi_str (pv 1)) (blkOk_by (N := N_live_arcs) (sc := defScope s_live_arcs) (by decide +kernel)) (fun _ _ _ _ _ => (pg_name (i := 7) sc_live_arcs.nd rfl (Or.inl rfl))) (fun _ _ _ _ _ => pts_nil) (fun _ _ _ _ _ => pe_dnewK))
        (pss_cons (ps_for PassesOwn.never rfl (pi_revR rfl T.n_reversed (prg_1 rfl T.n_range (pe_callB call_len_str rfl T.n_len (by decide +kernel) (pa_cons (pv 1) pa_nil)))) (pg_name (i := 4) sc_live_arcs.nd rfl (Or.inl rfl)) (pss_one (ps_for PassesOwn.never rfl (pi_enumT rfl T.n_enumerate (pa_cons (pe_fld (pv 0) rfl) pa_nil)) (pg_tup rfl (pgs_cons (pg_name (i := 5) sc_live_arcs.nd rfl (Or.inl rfl)) (pgs_cons (pg_name (i := 6) sc_live_arcs.nd rfl (Or.inl rfl)) pgs_nil))) (pss_one (ps_if (pt_val (pe_call G_goes_on (hr.mono (by decide)) rfl T.m_goes_on T.F_goes_on.kp T.b_goes_on .nil pass0 (pa_cons (pv 1) (pa_cons (pv 4) (pa_cons (pv 6) (pa_cons (pv 3) (pa_cons (pv 2) pa_nil))))))) (pss_one (ps_expr (pe_bm PySem.F.plainAttrs_list PySem.F.slot_list_append PySem.F.type_list_append mt_append (pe_dsetd (pe_ix (ix_listK (K := K) rfl) (pv 3) (pv 4) (fun _ _ => rfl)) (pe_ix (ix_tupK (K := K) rfl) (pv 6) pe_int (fun _ _ => rfl)) (pe_lst pa_nil) ⟨rfl, rfl, rfl, rfl⟩) (pa_cons (pv 5) pa_nil)))) pss_nil)))))
        (pss_one (ps_ret (pv 3))))), ?_⟩
    have oka := hok.all
    have hl200 := hok.2.1
    have htl : (SX.S t).length ≤ sizeLine := le_size (by rw [SX.S_len]; omega)
    refine ⟨_, rfl, _, rfl, fun D hD => lc_it (walk_str (z := SX.S t)) (fun i H' => ∃ ds : List Addr, ds.length = i ∧ ds.Nodup ∧ H' D = some (.lst (ds.map V.ref)) ∧ (∀ d ∈ ds, H' d = some (.dK []) ∧ H d = none ∧ d ≠ D) ∧ Same H H') ?_ (fun _ _ _ _ => trivial) ?_ ?_⟩
    · exact ⟨[], rfl, by simp, upd_same, fun d hd => absurd hd List.not_mem_nil, Same.new _ hD⟩
    · rintro i x H2 H3 hi ⟨ds, rfl, nd, hDl, hds, s2⟩ ⟨rfl, _⟩
      rw [show (SX.S t).cps.size = t.length from SX.S_len t] at hi
      refine ⟨rfl, fun d hd => ?_⟩
      have nDd : D ≠ d := (hp_ne hDl hd).symm
      have hd0 : H d = none := s2.free hd
      refine ⟨_, by rw [upd_ne nDd]; exact hDl, lt_size (by simp; omega), ds ++ [d], by simp, ?_, by rw [upd_same]; simp, fun c hc => ?_, (s2.trans (Same.new _ hd)).updNew hD⟩
      · rw [List.nodup_append]
        exact ⟨nd, by simp, fun a ha b hb => by
          rw [List.mem_singleton.mp hb]
          exact fun z => hp_ne (hds a ha).1 hd z.symm⟩
      · rcases List.mem_append.mp hc with z | z
        · obtain ⟨q1, q2, q3⟩ := hds c z
          exact ⟨by rw [upd_ne q3, upd_ne (hp_ne q1 hd).symm]; exact q1, q2, q3⟩
        · rw [List.mem_singleton.mp z]
          exact ⟨by rw [upd_ne nDd.symm]; exact upd_same, hd0, nDd.symm⟩
    rintro H1 ⟨ds, hdl, nd, hDl, hds, s1⟩
    rw [show (SX.S t).cps.size = t.length from SX.S_len t] at hdl
    refine ⟨_, rfl, _, rfl, htl, _, rfl, by decide, by decide, by rw [SX.S_len]; omega, by rw [SX.S_len]; omega, ?_⟩
    have hn : ((0 : Int) + (((((SX.S t).length : Nat) : Int) - 0).toNat : Nat) - 1) = (t.length : Int) - 1 := by rw [SX.S_len]; omega
    have hn2 : ((((SX.S t).length : Nat) : Int) - 0).toNat = t.length := by rw [SX.S_len]; omega
    rw [hn, hn2]
    refine for_it (walk_rangeC (lo := (t.length : Int) - 1) (c := -1) (n := t.length)) (fun i σ H' => ∃ v4 v5 v6 : Option V, σ = [some (.ref q), some (.str (SX.S t)), some (.bl b), some (.ref D), v4, v5, v6, none] ∧ H' D = some (.lst (ds.map V.ref)) ∧ Same H H' ∧
      LivsAt H' ds as b t (t.length - i) ∧ ∀ k d, k < t.length - i → ds[k]? = some d → H' d = some (.dK [])) ?_ (fun _ _ _ _ _ => trivial) ?_ ?_
    · exact ⟨_, _, _, rfl, hDl, s1, fun k h1 h2 => absurd h2 (by omega), fun k d _ hd => (hds d (List.mem_of_getElem? hd)).1⟩
    · rintro i x σ H9 H2 hi ⟨v4, v5, v6, rfl, hD2, s2, hls, hfr⟩ ⟨rfl, ex⟩
      replace ex : x = V.int ((t.length - 1 - i : Nat) : Int) := by
        rw [ex]
        show V.int ((t.length : Int) - 1 + (i : Int) * -1) = _
        congr 1
        omega
      subst ex
      have hat : t.length - 1 - i < t.length := by omega
      have hat1 : t.length - i = t.length - 1 - i + 1 := by omega
      rw [hat1] at hls hfr
      have hat2 : t.length - (i + 1) = t.length - 1 - i := by omega
      rw [hat2]
      generalize t.length - 1 - i = at_ at *
      clear hat1 hat2
      obtain ⟨d, hd⟩ : ∃ d, ds[at_]? = some d := ⟨ds[at_]'(by omega), List.getElem?_eq_getElem (by omega)⟩
      have hd2 : H2 d = some (.dK []) := hfr at_ d (Nat.lt_succ_self _) hd
      have hd0 : H d = none := (hds d (List.mem_of_getElem? hd)).2.1
      have ndD : d ≠ D := (hds d (List.mem_of_getElem? hd)).2.2
      have dne : ∀ k c, ds[k]? = some c → k ≠ at_ → c ≠ d := fun k c hc hk z => by
        subst z
        have e1 := List.getElem?_eq_some_iff.mp hc
        have e2 := List.getElem?_eq_some_iff.mp hd
        exact hk ((List.getElem_inj nd).mp (e1.2.trans e2.2.symm))
      have hune : t.drop at_ ≠ [] := fun z => by
        have := congrArg List.length z
        rw [List.length_drop] at this
        simp at this
        omega
      refine ⟨_, rfl, q, _, dx, _, _, rfl, s2 _ _ hq, T.cl_Loom, T.na_Loom_arcs, lf_arcs _ _, TT, us, rfl, SqT.of (s2 _ _ hT), for_it (walk_enumT (K := K) (a := TT) (xs := us)) (fun j σ H' => ∃ v5 v6 : Option V, σ = [some (.ref q), some (.str (SX.S t)), some (.bl b), some (.ref D), some (.int (at_ : Int)), v5, v6, none] ∧ ExDl d H2 H' ∧ LivN H2 H' d as b (t.drop at_) j) ?_ ?_ ?_ ?_⟩
      · refine ⟨_, _, rfl, fun _ _ _ h => h, [], fun _ => 0, hd2, Nat.zero_le _, fun g _ => rfl, fun g h => absurd rfl h, fun g g' h => absurd rfl h⟩
      · rintro j σ H' _ ⟨_, _, _, x, _⟩
        exact SqT.of (x _ _ (fun z => by rw [z] at hT; rw [hT] at hd0; cases hd0) (s2 _ _ hT))
      · rintro j x σ H3 H4 hj ⟨v5, v6, rfl, x3, hN⟩ ⟨tp, x1, y1, rfl, htp, rfl, hx1, hy1⟩
        cases hx1
        have hja : j < as.length := by rw [← harc.1]; exact hj
        have hai : as[j]? = some as[j] := List.getElem?_eq_getElem hja
        obtain ⟨ta, hut, htt⟩ := harc.2 j as[j] hai
        replace hy1 : us[j]? = some y1 := hy1
        rw [hut] at hy1
        cases hy1
        have sn := Same.new (.tup [V.int (j : Int), .ref ta]) htp
        have nd3 : ∀ o c, H c = some o → c ≠ d := fun o c h z => by rw [z, hd0] at h; cases h
        have nd2 : ∀ c o, H2 c = some o → (∀ kv, o ≠ .dK kv) → c ≠ d := fun c o h hk z => by rw [z, hd2] at h; exact hk _ (Option.some.inj h).symm
        have hta4 : upd H3 tp (.tup [V.int (j : Int), .ref ta]) ta = some (arcHO as[j]) := sn _ _ (x3 _ _ (nd3 _ _ htt) (s2 _ _ htt))
        have hD4 : upd H3 tp (.tup [V.int (j : Int), .ref ta]) D = some (.lst (ds.map V.ref)) := sn _ _ (x3 _ _ ndD.symm hD2)
        have hN4 := hN.same sn
        have x4 := x3.trans sn
        have hls4 : LivsAt (upd H3 tp (.tup [V.int (j : Int), .ref ta])) ds as b t (at_ + 1) := fun k h1 h2 => by
          obtain ⟨c, e1, e2⟩ := hls k h1 h2
          exact ⟨c, e1, e2.exd hd2 (dne k c e1 (by omega)) x4⟩
        obtain ⟨o1, o2, o3, o4⟩ := oka.2 as[j] (List.getElem_mem hja)
        refine ⟨tp, _, rfl, SqT.of upd_same, rfl, _, _, rfl, _, _, rfl, rfl, ?_⟩
        generalize upd H3 tp (.tup [V.int (j : Int), .ref ta]) = H4 at *
        refine ⟨_, rfl, _, rfl, _, rfl, _, rfl, _, rfl, t, at_, ta, D, b, as[j], ds, as, rfl, hat, ht, hta4, hD4, hls4, o2, o3, fun r hr => ⟨r, rfl, ?_⟩⟩
        obtain ⟨kvs, ad, hd4, hkl, hnone, hsome, hinj⟩ := hN4
        have hkey : ∀ g, as[j].1 ≠ g → livI as b (t.drop at_) g (j + 1) = livI as b (t.drop at_) g j := fun g c => livI_succ.2 fun ⟨a, e1, e2, _⟩ => by
          rw [hai] at e1
          cases e1
          exact c e2
        cases r with
        | false =>
          have hno : ∀ g, livI as b (t.drop at_) g (j + 1) = livI as b (t.drop at_) g j := fun g => livI_succ.2 fun ⟨a, e1, _, e3⟩ => by
            rw [hai] at e1
            cases e1
            exact Bool.noConfusion (hr.mpr e3)
          refine iteF ⟨_, _, rfl, x4, kvs, ad, hd4, by omega, fun g hg => hnone g (by rw [← hno]; exact hg), fun g hg => ?_, fun g g' h1 h2 => hinj g g' (by rw [← hno]; exact h1) (by rw [← hno]; exact h2)⟩
          rw [hno] at hg ⊢
          exact hsome g hg
        | true =>
          have htk := hr.mp rfl
          have own : livI as b (t.drop at_) as[j].1 (j + 1) = livI as b (t.drop at_) as[j].1 j ++ [j] := livI_succ.1 ⟨as[j], hai, rfl, htk⟩
          refine iteT ⟨_, rfl, _, rfl, D, _, _, _, rfl, rfl, SqL.of hD4, atI_nat (by rw [List.getElem?_map, hd]; rfl), d, rfl, .inl ⟨kvs, .inl hd4⟩, _, rfl, ta, _, _, _, rfl, rfl, SqT.of hta4, rfl, le_size (by simp), fun l' hl' => ?_⟩
          have s5 : Same H4 (upd H4 l' (.lst [])) := Same.new _ hl'
          have gl' : upd H4 l' (.lst []) l' = some (.lst []) := upd_same
          have hd5 := s5 _ _ hd4
          have nl'd : l' ≠ d := hp_ne hd4 hl'
          refine ⟨kvs, .inl (as[j].1 : Int), hd5, rfl, lt_size (by omega), fun v hv => ?_, fun hn => ?_⟩
          · have hne : livI as b (t.drop at_) as[j].1 j ≠ [] := fun z => by rw [hnone _ z] at hv; cases hv
            obtain ⟨e1, e2, e3⟩ := hsome _ hne
            rw [e1] at hv
            cases hv
            have hnd : ad as[j].1 ≠ d := fun z => by rw [z, hd4] at e3; cases e3
            have ll := livI_len as b (t.drop at_) as[j].1 j
            refine ⟨.inl ⟨rfl, _, SqL.of (s5 _ _ e3)⟩, _, rfl, ad as[j].1, _, _, rfl, rfl, s5 _ _ e3, lt_size (by rw [List.length_map]; omega), ?_⟩
            have e3' := s5 _ _ e3
            refine ⟨_, _, rfl, (x4.trans s5).updNew e2, kvs, ad, by rw [upd_ne hnd.symm]; exact hd5, by omega, fun g hg => ?_, fun g hg => ?_, fun g g' hg hg' => ?_⟩
            · by_cases c : as[j].1 = g
              · subst c; rw [own] at hg; simp at hg
              · exact hnone g (by rw [← hkey g c]; exact hg)
            · by_cases c : as[j].1 = g
              · subst c
                rw [own]
                exact ⟨e1, e2, by rw [upd_same, List.map_append]; rfl⟩
              · rw [hkey g c] at hg ⊢
                obtain ⟨f1, f2, f3⟩ := hsome g hg
                exact ⟨f1, f2, by rw [upd_ne (fun z => c (hinj _ _ hg hne z).symm)]; exact s5 _ _ f3⟩
            · have back : ∀ g, livI as b (t.drop at_) g (j + 1) ≠ [] → livI as b (t.drop at_) g j ≠ [] := fun g hg => by
                by_cases c : as[j].1 = g
                · subst c; exact hne
                · rw [← hkey g c]; exact hg
              exact hinj g g' (back g hg) (back g' hg')
          · have hemp : livI as b (t.drop at_) as[j].1 j = [] := by
              by_cases z : livI as b (t.drop at_) as[j].1 j = []
              · exact z
              · rw [(hsome _ z).1] at hn
                cases hn
            have hHl' : H2 l' = none := x4.free hl' nl'd
            have gd6 : upd (upd H4 l' (.lst [])) d (.dK (putK kvs (.inl (as[j].1 : Int)) (.ref l'))) d = some (.dK (putK kvs (.inl (as[j].1 : Int)) (.ref l'))) := upd_same
            have gl6 : upd (upd H4 l' (.lst [])) d (.dK (putK kvs (.inl (as[j].1 : Int)) (.ref l'))) l' = some (.lst []) := by rw [upd_ne nl'd]; exact gl'
            have x6 : ExDl d H2 (upd (upd H4 l' (.lst [])) d (.dK (putK kvs (.inl (as[j].1 : Int)) (.ref l')))) := (x4.trans s5).updD
            have k6 : ∀ c o, c ≠ d → H4 c = some o → upd (upd H4 l' (.lst [])) d (.dK (putK kvs (.inl (as[j].1 : Int)) (.ref l'))) c = some o := fun c o n h => by rw [upd_ne n]; exact s5 _ _ h
            generalize upd (upd H4 l' (.lst [])) d (.dK (putK kvs (.inl (as[j].1 : Int)) (.ref l'))) = H6 at *
            refine ⟨.inl ⟨rfl, _, SqL.of gl6⟩, _, rfl, l', [], _, rfl, rfl, gl6, by decide, ?_⟩
            have k8 : ∀ c o, c ≠ d → c ≠ l' → H4 c = some o → upd H6 l' (.lst ([] ++ [V.int (j : Int)])) c = some o := fun c o n1 n2 h => by rw [upd_ne n2]; exact k6 c o n1 h
            have kne : ∀ g, as[j].1 ≠ g → ¬ ((Sum.inl (g : Int) : Key) = Sum.inl (as[j].1 : Int)) := fun g c z => by
              injection z with z
              exact c (by omega)
            obtain ⟨f, fown, fne⟩ : ∃ f : Nat → Addr, f as[j].1 = l' ∧ ∀ g, as[j].1 ≠ g → f g = ad g := ⟨fun g => if g = as[j].1 then l' else ad g, if_pos rfl, fun g c => if_neg fun z => c z.symm⟩
            refine ⟨_, _, rfl, x6.updNew hHl', putK kvs (.inl (as[j].1 : Int)) (.ref l'), f, by rw [upd_ne nl'd.symm]; exact gd6, ?_, fun g hg => ?_, fun g hg => ?_, fun g g' hg hg' e => ?_⟩
            · have := length_putK kvs (.inl (as[j].1 : Int)) (.ref l')
              omega
            · by_cases c : as[j].1 = g
              · subst c; rw [own] at hg; simp at hg
              · rw [valV_put, if_neg (kne g c)]
                rw [hkey g c] at hg
                exact hnone g hg
            · by_cases c : as[j].1 = g
              · subst c
                rw [own, valV_put, if_pos rfl, fown, hemp]
                exact ⟨rfl, hHl', upd_same⟩
              · rw [hkey g c] at hg ⊢
                rw [valV_put, if_neg (kne g c), fne g c]
                obtain ⟨f1, f2, f3⟩ := hsome g hg
                exact ⟨f1, f2, k8 _ _ (fun z => by rw [z, hd4] at f3; cases f3) (fun z => by rw [z, hl'] at f3; cases f3) f3⟩
            · have far : ∀ g, as[j].1 ≠ g → livI as b (t.drop at_) g (j + 1) ≠ [] → ad g ≠ l' := fun g c h z => by
                rw [hkey g c] at h
                obtain ⟨_, _, f3⟩ := hsome g h
                rw [z, hl'] at f3
                cases f3
              by_cases c : as[j].1 = g
              · by_cases c' : as[j].1 = g'
                · exact c.symm.trans c'
                · subst c
                  have e' : l' = ad g' := by rw [← fown, ← fne g' c']; exact e
                  exact absurd e'.symm (far g' c' hg')
              · by_cases c' : as[j].1 = g'
                · subst c'
                  have e' : ad g = l' := by rw [← fown, ← fne g c]; exact e
                  exact absurd e' (far g c hg)
                · have e' : ad g = ad g' := by rw [← fne g c, ← fne g' c']; exact e
                  exact hinj g g' (by rw [← hkey g c]; exact hg) (by rw [← hkey g' c']; exact hg') e'
      · rintro σ H3 ⟨v5, v6, rfl, x3, hN⟩
        rw [harc.1] at hN
        refine ⟨_, _, _, rfl, x3 _ _ ndD.symm hD2, fun c o h => x3 c o (fun z => by rw [z, hd0] at h; cases h) (s2 _ _ h), fun k h1 h2 => ?_, fun k c h1 hc => ?_⟩
        · by_cases e : k = at_
          · subst e
            exact ⟨d, hd, hN.at⟩
          · obtain ⟨c, e1, e2⟩ := hls k (by omega) h2
            exact ⟨c, e1, e2.exd hd2 (dne k c e1 e) x3⟩
        · exact x3 _ _ (dne k c hc (by omega)) (hfr k c (by omega) hc)
    · rintro σ H2 ⟨v4, v5, v6, rfl, hD2, s2, hls, _⟩
      rw [Nat.sub_self] at hls
      exact ⟨_, rfl, k H2 D ds s2 hD hD2 hdl hls⟩
end
end J


set_option Elab.async false
set_option linter.all false
set_option maxRecDepth 100000
set_option maxHeartbeats 4000000
namespace J
open PySem L2
/-! ### all rows that read a text -/
open Classical in
noncomputable def rdgF (as : List Arc) : Nat → Nat → List Nat → List (List Nat)
  | 0, _, u => if u = [] then [[]] else []
  | n + 1, g, u => if u = [] then [[]] else (liv as false u g).flatMap fun i => match as[i]? with
    | some a => (rdgF as n a.2.2 (u.drop a.2.1.length)).map fun r => i :: r
    | none => []
noncomputable def rdg (as : List Arc) (g : Nat) (u : List Nat) : List (List Nat) := rdgF as u.length g u
def Wd (as : List Arc) : Prop := ∀ a ∈ as, 1 ≤ a.2.1.length
theorem rdgF_nil (as : List Arc) (n g : Nat) : rdgF as n g [] = [[]] := by cases n <;> simp [rdgF]
theorem rdgF_step (as : List Arc) (n g : Nat) {u : List Nat} (h : u ≠ []) : rdgF as (n + 1) g u = (liv as false u g).flatMap fun i => match as[i]? with
    | some a => (rdgF as n a.2.2 (u.drop a.2.1.length)).map fun r => i :: r
    | none => [] := by
  conv => lhs; unfold rdgF
  rw [if_neg h]
theorem flat_congr {α β : Type} {f g : α → List β} : ∀ {l : List α}, (∀ x ∈ l, f x = g x) → l.flatMap f = l.flatMap g
  | [], _ => rfl
  | a :: l, h => by
    rw [List.flatMap_cons, List.flatMap_cons, h a List.mem_cons_self, flat_congr fun x hx => h x (List.mem_cons_of_mem _ hx)]
theorem rdgF_ge {as : List Arc} (hw : Wd as) : ∀ (n m g : Nat) (u : List Nat), u.length ≤ n → u.length ≤ m → rdgF as n g u = rdgF as m g u
  | 0, m, g, u, h1, _ => by
    have : u = [] := List.length_eq_zero_iff.mp (by omega)
    subst this
    rw [rdgF_nil, rdgF_nil]
  | n + 1, 0, g, u, _, h2 => by
    have : u = [] := List.length_eq_zero_iff.mp (by omega)
    subst this
    rw [rdgF_nil, rdgF_nil]
  | n + 1, m + 1, g, u, h1, h2 => by
    by_cases c : u = []
    · subst c
      rw [rdgF_nil, rdgF_nil]
    · rw [rdgF_step as n g c, rdgF_step as m g c]
      refine flat_congr fun i hi => ?_
      obtain ⟨a, ha, _⟩ := mem_liv.mp hi
      rw [ha]
      have := hw a (List.mem_of_getElem? ha)
      dsimp only
      rw [rdgF_ge hw n m a.2.2 (u.drop a.2.1.length) (by rw [List.length_drop]; omega) (by rw [List.length_drop]; omega)]
theorem rdg_nil (as : List Arc) (g : Nat) : rdg as g [] = [[]] := rdgF_nil as _ g
theorem rdg_step {as : List Arc} (hw : Wd as) (g : Nat) {u : List Nat} (h : u ≠ []) : rdg as g u = (liv as false u g).flatMap fun i => match as[i]? with
    | some a => (rdg as a.2.2 (u.drop a.2.1.length)).map fun r => i :: r
    | none => [] := by
  unfold rdg
  have hl : 1 ≤ u.length := List.length_pos_iff.mpr h
  obtain ⟨n, hn⟩ : ∃ n, u.length = n + 1 := ⟨u.length - 1, by omega⟩
  rw [hn, rdgF_step as n g h]
  refine flat_congr fun i hi => ?_
  obtain ⟨a, ha, _⟩ := mem_liv.mp hi
  rw [ha]
  have := hw a (List.mem_of_getElem? ha)
  dsimp only
  rw [rdgF_ge hw n _ a.2.2 (u.drop a.2.1.length) (by rw [List.length_drop]; omega) (Nat.le_refl _)]
/-- a row that reads a text from a state on -/
inductive Rd (as : List Arc) : Nat → List Nat → List Nat → Prop
  | nil {g : Nat} : Rd as g [] []
  | cons {g i : Nat} {a : Arc} {u r : List Nat} (h : as[i]? = some a) (e : a.1 = g) (p : a.2.1 <+: u) (t : Rd as a.2.2 (u.drop a.2.1.length) r) : Rd as g u (i :: r)
theorem rd_gd {as : List Arc} (hw : Wd as) {g : Nat} {u r : List Nat} (h : Rd as g u r) : Gd as false g u := by
  induction h with
  | nil => exact .nil
  | @cons g i a u r h e p t ih =>
    have w1 := hw a (List.mem_of_getElem? h)
    have hl := p.length_le
    by_cases c : a.2.1.length < u.length
    · exact .go h e c p ih
    · have e2 : a.2.1 = u := p.eq_of_length (by omega)
      exact .fin h e (by omega) (fun z => by rw [z, List.length_nil] at hl; omega) (by rw [e2]; exact List.prefix_refl _) (.inr (by rw [e2]))
theorem gd_rd {as : List Arc} {g : Nat} {u : List Nat} (h : Gd as false g u) : ∃ r, Rd as g u r := by
  induction h with
  | nil => exact ⟨[], .nil⟩
  | @go g i a u h e l p r ih =>
    obtain ⟨r, hr⟩ := ih
    exact ⟨i :: r, .cons h e p hr⟩
  | @fin g i a u h e l n p r =>
    have hl : a.2.1.length = u.length := r.elim (fun z => Bool.noConfusion z) id
    have e2 : u = a.2.1 := p.eq_of_length hl.symm
    refine ⟨[i], .cons h e (by rw [e2]; exact List.prefix_refl _) ?_⟩
    rw [List.drop_of_length_le (by omega)]
    exact .nil
theorem tk_false {as : List Arc} {u : List Nat} {a : Arc} : Tk as false u a ↔ a.2.1 <+: u ∧ (Gd as false a.2.2 (u.drop a.2.1.length)) := by
  constructor
  · rintro (⟨l, p, h⟩ | ⟨l, p, h⟩)
    · exact ⟨p, h⟩
    · have hl : a.2.1.length = u.length := h.elim (fun z => Bool.noConfusion z) id
      have e2 : u = a.2.1 := p.eq_of_length hl.symm
      refine ⟨by rw [e2]; exact List.prefix_refl _, ?_⟩
      rw [List.drop_of_length_le (by omega)]
      exact .nil
  · rintro ⟨p, h⟩
    by_cases c : a.2.1.length < u.length
    · exact .inl ⟨c, p, h⟩
    · have e2 : a.2.1 = u := p.eq_of_length (by have := p.length_le; omega)
      exact .inr ⟨by omega, by rw [e2]; exact List.prefix_refl _, .inr (by rw [e2])⟩
theorem mem_rdg {as : List Arc} (hw : Wd as) : ∀ (n g : Nat) (u r : List Nat), u.length ≤ n → (r ∈ rdg as g u ↔ Rd as g u r)
  | 0, g, u, r, h => by
    have : u = [] := List.length_eq_zero_iff.mp (by omega)
    subst this
    rw [rdg_nil, List.mem_singleton]
    constructor
    · rintro rfl; exact .nil
    · intro h
      cases h with
      | nil => rfl
      | cons h e p t =>
        have w1 := hw _ (List.mem_of_getElem? h)
        have := p.length_le
        rw [List.length_nil] at this
        omega
  | n + 1, g, u, r, h => by
    by_cases c : u = []
    · subst c
      exact mem_rdg hw 0 g [] r (Nat.le_refl _)
    · rw [rdg_step hw g c, List.mem_flatMap]
      constructor
      · rintro ⟨i, hi, hr⟩
        obtain ⟨a, ha, e, tk⟩ := mem_liv.mp hi
        rw [ha] at hr
        obtain ⟨r', hr', rfl⟩ := List.mem_map.mp hr
        have w1 := hw a (List.mem_of_getElem? ha)
        exact .cons ha e (tk_false.mp tk).1 ((mem_rdg hw n _ _ _ (by rw [List.length_drop]; omega)).mp hr')
      · intro h
        cases h with
        | nil => exact absurd rfl c
        | @cons _ i a _ r ha e p t =>
          have w1 := hw a (List.mem_of_getElem? ha)
          refine ⟨i, mem_liv.mpr ⟨a, ha, e, tk_false.mpr ⟨p, rd_gd hw t⟩⟩, ?_⟩
          rw [ha]
          exact List.mem_map.mpr ⟨r, (mem_rdg hw n _ _ _ (by rw [List.length_drop]; omega)).mpr t, rfl⟩
theorem rdg_ne {as : List Arc} (hw : Wd as) {g : Nat} {u : List Nat} : rdg as g u ≠ [] ↔ Gd as false g u := by
  constructor
  · intro h
    obtain ⟨r, hr⟩ := List.exists_mem_of_ne_nil _ h
    exact rd_gd hw ((mem_rdg hw u.length g u r (Nat.le_refl _)).mp hr)
  · intro h z
    obtain ⟨r, hr⟩ := gd_rd h
    have := (mem_rdg hw u.length g u r (Nat.le_refl _)).mpr hr
    rw [z] at this
    cases this
/-! ### what waits -/
abbrev Ent := Nat × Nat × Nat
/-- a row that reads the text up to a place, and the state where it ends -/
inductive Wk (as : List Arc) (t : List Nat) : Nat → Nat → List Nat → Nat → Nat → Prop
  | nil {g k : Nat} : Wk as t g k [] g k
  | snoc {g k : Nat} {r : List Nat} {h m i : Nat} {a : Arc} (w : Wk as t g k r h m) (e : as[i]? = some a) (s : a.1 = h) (p : a.2.1 <+: t.drop m) : Wk as t g k (r ++ [i]) a.2.2 (m + a.2.1.length)
/-- the rows that an entry stands for -/
noncomputable def expE (as : List Arc) (t : List Nat) (R : List Nat) (e : Ent) : List (List Nat) := match as[e.2.2]? with
  | some a => (rdg as a.2.2 (t.drop (e.2.1 + a.2.1.length))).map fun r => R.take e.1 ++ e.2.2 :: r
  | none => []
/-- an entry that fits: it goes on behind a beginning of the row -/
def EntOk (as : List Arc) (t : List Nat) (R : List Nat) (e : Ent) : Prop := e.1 ≤ R.length ∧ e.1 ≤ e.2.1 ∧ e.2.1 < t.length ∧ ∃ g, e.2.2 ∈ liv as false (t.drop e.2.1) g
structure RdI (as : List Arc) (t : List Nat) (all : List (List Nat)) (R : List Nat) (W : List Ent) (F : List (List Nat)) : Prop where
  ok : ∀ e ∈ W, EntOk as t R e
  asc : W.Pairwise fun a b => a.1 ≤ b.1
  sum : F ++ W.reverse.flatMap (expE as t R) = all
theorem exp_ne {as : List Arc} (hw : Wd as) {t R : List Nat} {e : Ent} (h : EntOk as t R e) : expE as t R e ≠ [] := by
  obtain ⟨_, _, h2, g, hg⟩ := h
  obtain ⟨a, ha, _, tk⟩ := mem_liv.mp hg
  unfold expE
  rw [ha]
  have := rdg_ne hw |>.mpr (tk_false.mp tk).2
  rw [List.drop_drop] at this
  exact fun z => this (List.map_eq_nil_iff.mp z)
theorem flat_ge {α β : Type} {f : α → List β} : ∀ {l : List α}, (∀ x ∈ l, f x ≠ []) → l.length ≤ (l.flatMap f).length
  | [], _ => Nat.le_refl _
  | a :: l, h => by
    have h1 := flat_ge (f := f) (l := l) fun x hx => h x (List.mem_cons_of_mem _ hx)
    have h2 := List.length_pos_iff.mpr (h a List.mem_cons_self)
    rw [List.flatMap_cons, List.length_append, List.length_cons]
    omega
theorem RdI.few {as : List Arc} (hw : Wd as) {t : List Nat} {all : List (List Nat)} {R : List Nat} {W : List Ent} {F : List (List Nat)} (h : RdI as t all R W F) : F.length + W.length ≤ all.length := by
  have h1 := flat_ge (f := expE as t R) (l := W.reverse) fun e he => exp_ne hw (h.ok e (List.mem_reverse.mp he))
  rw [List.length_reverse] at h1
  rw [← h.sum, List.length_append]
  omega
theorem exp_take {as : List Arc} {t R R' : List Nat} {e : Ent} (h : R.take e.1 = R'.take e.1) : expE as t R e = expE as t R' e := by
  unfold expE
  rw [h]
theorem RdI.init {as : List Arc} (hw : Wd as) {t : List Nat} {g : Nat} (ht : t ≠ []) : RdI as t (rdg as g t) [] ((liv as false t g).reverse.map fun c => (0, 0, c)) [] := by
  have hl : 0 < t.length := List.length_pos_iff.mpr ht
  refine ⟨fun e he => ?_, List.pairwise_map.mpr (List.pairwise_iff_getElem.mpr fun _ _ _ _ _ => Nat.le_refl _), ?_⟩
  · obtain ⟨c, hc, rfl⟩ := List.mem_map.mp he
    exact ⟨Nat.zero_le _, Nat.zero_le _, hl, g, List.mem_reverse.mp hc⟩
  · rw [List.nil_append, ← List.map_reverse, List.reverse_reverse, rdg_step hw g ht, List.flatMap_map]
    refine flat_congr fun c hc => ?_
    unfold expE
    dsimp only
    cases as[c]? with
    | none => rfl
    | some a =>
      dsimp only
      rw [Nat.zero_add]
      rfl
/-- an entry is taken from the end -/
theorem RdI.pop {as : List Arc} (hw : Wd as) {t : List Nat} {all : List (List Nat)} {R : List Nat} {W : List Ent} {e : Ent} {F : List (List Nat)} (h : RdI as t all R (W ++ [e]) F) {a : Arc} (ha : as[e.2.2]? = some a) :
    (e.2.1 + a.2.1.length = t.length → RdI as t all (R.take e.1 ++ [e.2.2]) W (F ++ [R.take e.1 ++ [e.2.2]])) ∧
    (e.2.1 + a.2.1.length ≠ t.length → e.2.1 + a.2.1.length < t.length ∧ RdI as t all (R.take e.1 ++ [e.2.2]) (W ++ (liv as false (t.drop (e.2.1 + a.2.1.length)) a.2.2).reverse.map fun c => (e.1 + 1, e.2.1 + a.2.1.length, c)) F) := by
  obtain ⟨k, at_, i⟩ := e
  dsimp only at *
  have hok := h.ok (k, at_, i) (by simp)
  obtain ⟨h1, hka, h2, g, hg⟩ := hok
  dsimp only at h1 hka h2 hg
  have hw1 := hw a (List.mem_of_getElem? ha)
  obtain ⟨a', ha', _, tk⟩ := mem_liv.mp hg
  rw [ha] at ha'
  cases ha'
  have hp := (tk_false.mp tk).1
  have hle := hp.length_le
  rw [List.length_drop] at hle
  have hasc := List.pairwise_append.mp h.asc
  have low : ∀ e ∈ W, e.1 ≤ k := fun e he => hasc.2.2 e he _ (List.mem_singleton.mpr rfl)
  have tkk : ∀ m, m ≤ k → (R.take k ++ [i]).take m = R.take m := fun m hm => by
    rw [List.take_append_of_le_length (by rw [List.length_take]; omega), List.take_take, Nat.min_eq_left hm]
  have hRl : (R.take k ++ [i]).length = k + 1 := by rw [List.length_append, List.length_take, List.length_singleton]; omega
  have okW : ∀ e ∈ W, EntOk as t (R.take k ++ [i]) e := fun e he => by
    obtain ⟨q1, q2, q3, q4⟩ := h.ok e (List.mem_append_left _ he)
    exact ⟨by rw [hRl]; have := low e he; omega, q2, q3, q4⟩
  have expW : W.reverse.flatMap (expE as t R) = W.reverse.flatMap (expE as t (R.take k ++ [i])) := flat_congr fun e he => exp_take (tkk _ (low e (List.mem_reverse.mp he))).symm
  have hsum := h.sum
  rw [List.reverse_append, List.reverse_singleton, List.flatMap_append, List.flatMap_singleton] at hsum
  have he0 : expE as t R (k, at_, i) = (rdg as a.2.2 (t.drop (at_ + a.2.1.length))).map fun r => R.take k ++ i :: r := by
    unfold expE
    dsimp only
    rw [ha]
  rw [he0, expW] at hsum
  constructor
  · intro hend
    refine ⟨okW, hasc.1, ?_⟩
    rw [← hsum, hend, List.drop_of_length_le (Nat.le_refl _), rdg_nil]
    simp
  · intro hend
    have hlt : at_ + a.2.1.length < t.length := by omega
    refine ⟨hlt, fun e he => ?_, ?_, ?_⟩
    · rcases List.mem_append.mp he with z | z
      · exact okW e z
      · obtain ⟨c, hc, rfl⟩ := List.mem_map.mp z
        exact ⟨by rw [hRl]; exact Nat.le_refl _, (show k + 1 ≤ at_ + a.2.1.length by omega), hlt, a.2.2, List.mem_reverse.mp hc⟩
    · refine List.pairwise_append.mpr ⟨hasc.1, List.pairwise_map.mpr (List.pairwise_iff_getElem.mpr fun _ _ _ _ _ => Nat.le_refl _), fun x hx y hy => ?_⟩
      obtain ⟨c, hc, rfl⟩ := List.mem_map.mp hy
      have := low x hx
      show x.1 ≤ k + 1
      omega
    · rw [← hsum, List.reverse_append, List.flatMap_append]
      congr 2
      rw [← List.map_reverse, List.reverse_reverse, rdg_step hw _ (by
        intro z
        have := congrArg List.length z
        rw [List.length_drop] at this
        simp at this
        omega), List.flatMap_map, List.map_flatMap]
      refine flat_congr fun c hc => ?_
      unfold expE
      dsimp only
      cases hcc : as[c]? with
      | none => rfl
      | some a2 =>
        dsimp only
        rw [List.map_map, List.drop_drop]
        refine List.map_congr_left fun r _ => ?_
        rw [← hRl, List.take_length]
        simp
end J


set_option Elab.async false
set_option linter.all false
set_option maxRecDepth 100000
set_option maxHeartbeats 4000000
namespace PySem
namespace ExX
section
variable {prog : Program} {w : World} {A : Around} {E : Value → Shared → Prop} {R : Result → Shared → Prop} {s : Shared} {K : W.Frag} {mg : Str → Option Value} {C fI : Addr}
open PySem.W PySem.Calls PyProof.Rows PySem.HandSPX
theorem init_LimitExceeded (T : ExcT K mg C fI "LimitExceeded" ["limit"] "LimitExceeded.__init__" J.s_LimitExceeded_init) {x t0 : Addr} {v0 : Value} (X : K.In s.heap) (hlim : s.heap.NoLimit) (hx : s.heap.get? x = some (excO C t0)) (hnx : K.lookup x = none) (hroom : A.depth < recursionLimit)
    (hq : ∀ h' tk dx, (∀ b o, b ≠ x → s.heap.get? b = some o → h'.get? b = some o) → h'.get? x = some { cls := .ref C, dict := some dx, data := .fields #[.ref t0, .none, .none, .none, .bool false, .none] } → s.heap.objs.size ≤ dx → dx ≠ x →
      h'.Ns1 dx (fun y => if y = "limit" then some v0 else none) → R (.ok (.ret .none)) { s with heap := h', toks := tk }) :
    codeAny (model prog w) A (.call (.ref fI) ⟨[.ref x, v0], []⟩) R s := by
  obtain ⟨oc, od, kV, doc, pm, an, cdv, ct, osl, ho, hcd⟩ := T.fn
  obtain ⟨nm, q, N, bs, bm, sn, sub, ab, col, dd, k0, k1, k2, k3, k5, hC, hbm⟩ := T.cls
  have hcl : clsIn K C = some { name := nm, bases := bs, mro := .ref C :: bm, ns := N, qualname := q, hasDict := true, slotNames := sn, subclasses := sub, abstract := ab, collection := col, hasDel := false } := by unfold clsIn; rw [hC] <;> rfl
  refine Att.call_fn (binds := [("self", .ref x), ("limit", v0)]) X hlim ho hcd hroom (BindsTo.of_eq (by first | rfl | with_unfolding_all rfl)) (by first | rfl | decide | with_unfolding_all rfl) (fun s₁ IC => ?_) rfl rfl rfl
  obtain ⟨h₁, tk₁, rfl⟩ := IC.toInCall.same
  have k : ∀ b o, s.heap.get? b = some o → h₁.get? b = some o := IC.toInCall.keep
  have hn := IC.toInCall.ns
  have hxL : s.heap.objs.size ≠ x := Nat.ne_of_gt (Heap.lt_size hx)
  have X₁ : K.In h₁ := X.keeps k
  have hx₁ := k _ _ hx
  have z : s.heap.objs.size < h₁.objs.size := hn.lt
  show wpAny _ _ (execs _ _) _ _ _
  refine wpAny_execs_cons (plainObj_wpAny_Assign_Attribute ?_)
  refine ldC (v := v0) hn (by first | rfl | with_unfolding_all rfl | kernel_rfl) (ldC (v := .ref x) hn (by first | rfl | with_unfolding_all rfl | kernel_rfl) ?_)
  refine set_plain X₁ (ox := excO C t0) (od := none) ⟨hx₁, rfl, rfl, trivial⟩ T.sa ?_
  refine osa_new X₁ hx₁ hcl (show refsEX (.ref C :: bm) = true from hbm) rfl (T.no "limit" (by simp)) (fun h₃ tk₃ dx k₃ dn dne hx₃ hn₃ => ?_)
  show wpAny _ _ (execs _ _) _ _ _
  exact wpAny_execs_nil (hq h₃ tk₃ dx (fun b o hb e => k₃ b o hb (k b o e)) hx₃ (Nat.le_of_lt (Nat.lt_of_lt_of_le z dn)) dne hn₃)
theorem made_LimitExceeded (T : ExcT K mg C fI "LimitExceeded" ["limit"] "LimitExceeded.__init__" J.s_LimitExceeded_init) {v0 : Value} (X : K.In s.heap) (hlim : s.heap.NoLimit) (hroom : A.depth + 1 < recursionLimit)
    (hq : ∀ h' tk e d, OwnMade s.heap h' e C d (fun y => if y = "limit" then some v0 else none) → R (.ok (.ret (.ref e))) { s with heap := h', toks := tk }) :
    codeAny (model prog w) A (.call (.ref C) ⟨[v0], []⟩) R s := by
  obtain ⟨nm, q, N, bs, bm, sn, sub, ab, col, dd, k0, k1, k2, k3, k5, hC, hbm⟩ := T.cls
  obtain ⟨hp, g, dr, tk, os⟩ := s
  have k : ∀ b o, hp.get? b = some o → ((hp.push (kdv_tup [v0])).push (excO C hp.objs.size)).get? b = some o := fun b o e => Heap.get?_push_of_some _ (Heap.get?_push_of_some _ e)
  have hget : ((hp.push (kdv_tup [v0])).push (excO C hp.objs.size)).get? (hp.objs.size + 1) = some (excO C hp.objs.size) := by heap_get
  have hnx : K.lookup (hp.objs.size + 1) = none := by
    cases e : K.lookup (hp.objs.size + 1) with
    | none => rfl
    | some o =>
      have z : hp.get? (hp.objs.size + 1) = some o := X _ _ e
      exact absurd (Nat.lt_of_succ_lt (Heap.lt_size z)) (Nat.lt_irrefl _)
  refine call_own F.excBase_Exception (fun X => refsEX_contains X bm hbm) (X _ _ hC) (looks_findIn X T.iC) (fun self => bind_fn X self T.tC) (by show 1 ≤ sizeLine; rw [sizeLine_eq]; decide) ?_
  refine init_LimitExceeded (s := ⟨(hp.push (kdv_tup [v0])).push (excO C hp.objs.size), g, dr, tk, os⟩) T (X.keeps k) (hlim.keeps k) hget hnx ?_ fun h' tk' dx k' hx dn dne hns => ?_
  · show A.depth + 1 < recursionLimit
    exact hroom
  · have old : ∀ b o, hp.get? b = some o → h'.get? b = some o := fun b o e => k' b o (Nat.ne_of_lt (Nat.lt_succ_of_lt (Heap.lt_size e))) (k b o e)
    have z : hp.objs.size + 1 + 1 ≤ dx := by
      first
        | (simpa only [Heap.size_push] using dn)
        | exact dn
        | (have q := dn; rw [Heap.size_push, Heap.size_push] at q; exact q)
    exact ⟨rfl, hq h' tk' (hp.objs.size + 1) dx ⟨old, Nat.le_succ _, ⟨_, _, hx, rfl, rfl, rfl, rfl⟩, Nat.le_trans (Nat.le_trans (Nat.le_succ _) (Nat.le_succ _)) z, dne, hns⟩⟩
end
end ExX
end PySem
namespace L2
open PySem PySem.Spec PyProof.Rows PySem.ExX
def fs_LimitExceeded (x0 : V) : List (Str × V) := [(("limit" : Str), x0)]
theorem rel_LimitExceeded {x0 : V} {v0 : Value} (r0 : RelV x0 v0) (f : Str) : RelO (List.lookup f (fs_LimitExceeded x0)) ((fun y : Str => if y = "limit" then some v0 else none) f) := by
  unfold fs_LimitExceeded
  exact (fun g => relO_put (f := "limit") (fs := []) (mA := fun _ => none) r0 (fun _ => trivial) g) f
section
variable {X : Cx} {C fI : Addr} {es : List Expr} {e : Expr} {ta : TA} {p pos : Pos} {k : Nat}
def tV_LimitExceeded (C : Addr) (ta : TA) : TE := fun σ H Q => ta σ H fun vs H1 => ∃ x0, vs = [x0] ∧ ∀ e d, H1 e = none → H1 d = none → d ≠ e → Q (.ref e) (upd (upd H1 d (.xd (fs_LimitExceeded x0))) e (ExD C d e))
/-- LimitExceeded(..) as a value -/
theorem pe_LimitExceeded (T : ExcT X.K X.mg C fI "LimitExceeded" ["limit"] "LimitExceeded.__init__" J.s_LimitExceeded_init) (hr : Room k X.A) (ha : PA X (e :: es) ta) (hg : Gl X "LimitExceeded" := by rfl)
    (he : starEach (e :: es) X.env = (false, eval e X.env) :: starEach es X.env := by rfl) (hpl : (backTo pos (starEach es X.env)).any (·.1) = false := by rfl) :
    PE X (.Call (.Name "LimitExceeded" p) (e :: es) [] pos) (tV_LimitExceeded C ta) := by
  refine ⟨fun pins s σ H Q I h => ?_⟩
  refine wpAny_Call_Name_kw (ld_glob I hg T.gC ?_)
  refine PySem.W.callWith_K (h₀ := X.base) I.ok.mod.kin T.kC (thn (ha.run pos pins s σ H _ I h) fun us s1 hh => ?_) he hpl
  obtain ⟨vs, H1, I1, r1, x0, ev, q1⟩ := hh
  subst ev
  refine ⟨I1.kIn, ?_⟩
  cases r1 with
  | cons r0 rn =>
  cases rn
  have hlim := I1.nolimit
  obtain ⟨hp, g, dr, tk, os⟩ := s1
  refine wpAny_call (made_LimitExceeded T I1.kIn hlim (by have := hr.dp; omega) fun h' tk' e d M => ?_)
  exact ⟨.ref e, _, own_value (tk' := tk') I1 M (rel_LimitExceeded r0), rfl, q1 e d (I1.hok.fresh M.new) (I1.hok.fresh M.dbig) M.dne⟩
def tMk_LimitExceeded (C : Addr) (ta : TA) : St → Hp → XK → Prop := fun σ H Q => ta σ H fun vs H1 => ∃ x0, vs = [x0] ∧ ∀ d, H1 d = none → Q (.ref C) (some d) (upd H1 d (.xd (fs_LimitExceeded x0)))
/-- LimitExceeded(..) to be raised -/
theorem pmk_LimitExceeded (T : ExcT X.K X.mg C fI "LimitExceeded" ["limit"] "LimitExceeded.__init__" J.s_LimitExceeded_init) (hr : Room k X.A) (ha : PA X (e :: es) ta) (hg : Gl X "LimitExceeded" := by rfl)
    (he : starEach (e :: es) X.env = (false, eval e X.env) :: starEach es X.env := by rfl) (hpl : (backTo pos (starEach es X.env)).any (·.1) = false := by rfl) :
    PMk X (.Call (.Name "LimitExceeded" p) (e :: es) [] pos) (tMk_LimitExceeded C ta) := by
  intro pins s σ H Q I h
  refine wpAny_Call_Name_kw (ld_glob I hg T.gC ?_)
  refine PySem.W.callWith_K (h₀ := X.base) I.ok.mod.kin T.kC (thn (ha.run pos pins s σ H _ I h) fun us s1 hh => ?_) he hpl
  obtain ⟨vs, H1, I1, r1, x0, ev, q1⟩ := hh
  subst ev
  refine ⟨I1.kIn, ?_⟩
  cases r1 with
  | cons r0 rn =>
  cases rn
  have hlim := I1.nolimit
  obtain ⟨hp, g, dr, tk, os⟩ := s1
  refine wpAny_call (made_LimitExceeded T I1.kIn hlim (by have := hr.dp; omega) fun h' tk' e d M => ?_)
  exact own_raise (tk' := tk') I1 M (rel_LimitExceeded r0) (raises_own T.exC T.tyC) q1
end
end L2
namespace PySem
namespace ExX
section
variable {prog : Program} {w : World} {A : Around} {E : Value → Shared → Prop} {R : Result → Shared → Prop} {s : Shared} {K : W.Frag} {mg : Str → Option Value} {C fI : Addr}
open PySem.W PySem.Calls PyProof.Rows PySem.HandSPX
theorem init_InvalidLoom (T : ExcT K mg C fI "InvalidLoom" ["part", "at"] "InvalidLoom.__init__" J.s_InvalidLoom_init) {x t0 : Addr} {v0 v1 : Value} (X : K.In s.heap) (hlim : s.heap.NoLimit) (hx : s.heap.get? x = some (excO C t0)) (hnx : K.lookup x = none) (hroom : A.depth < recursionLimit)
    (hq : ∀ h' tk dx, (∀ b o, b ≠ x → s.heap.get? b = some o → h'.get? b = some o) → h'.get? x = some { cls := .ref C, dict := some dx, data := .fields #[.ref t0, .none, .none, .none, .bool false, .none] } → s.heap.objs.size ≤ dx → dx ≠ x →
      h'.Ns1 dx (fun y => if y = "at" then some v1 else if y = "part" then some v0 else none) → R (.ok (.ret .none)) { s with heap := h', toks := tk }) :
    codeAny (model prog w) A (.call (.ref fI) ⟨[.ref x, v0, v1], []⟩) R s := by
  obtain ⟨oc, od, kV, doc, pm, an, cdv, ct, osl, ho, hcd⟩ := T.fn
  obtain ⟨nm, q, N, bs, bm, sn, sub, ab, col, dd, k0, k1, k2, k3, k5, hC, hbm⟩ := T.cls
  have hcl : clsIn K C = some { name := nm, bases := bs, mro := .ref C :: bm, ns := N, qualname := q, hasDict := true, slotNames := sn, subclasses := sub, abstract := ab, collection := col, hasDel := false } := by unfold clsIn; rw [hC] <;> rfl
  refine Att.call_fn (binds := [("self", .ref x), ("part", v0), ("at", v1)]) X hlim ho hcd hroom (BindsTo.of_eq (by first | rfl | with_unfolding_all rfl)) (by first | rfl | decide | with_unfolding_all rfl) (fun s₁ IC => ?_) rfl rfl rfl
  obtain ⟨h₁, tk₁, rfl⟩ := IC.toInCall.same
  have k : ∀ b o, s.heap.get? b = some o → h₁.get? b = some o := IC.toInCall.keep
  have hn := IC.toInCall.ns
  have hxL : s.heap.objs.size ≠ x := Nat.ne_of_gt (Heap.lt_size hx)
  have X₁ : K.In h₁ := X.keeps k
  have hx₁ := k _ _ hx
  have z : s.heap.objs.size < h₁.objs.size := hn.lt
  show wpAny _ _ (execs _ _) _ _ _
  refine wpAny_execs_cons (plainObj_wpAny_Assign_Attribute ?_)
  refine ldC (v := v0) hn (by first | rfl | with_unfolding_all rfl | kernel_rfl) (ldC (v := .ref x) hn (by first | rfl | with_unfolding_all rfl | kernel_rfl) ?_)
  refine set_plain X₁ (ox := excO C t0) (od := none) ⟨hx₁, rfl, rfl, trivial⟩ T.sa ?_
  refine osa_new X₁ hx₁ hcl (show refsEX (.ref C :: bm) = true from hbm) rfl (T.no "part" (by simp)) (fun h₃ tk₃ dx k₃ dn dne hx₃ hn₃ => ?_)
  show wpAny _ _ (execs _ _) _ _ _
  have X₃ : K.In h₃ := fun b o e => k₃ b o (fun q => by rw [q, hnx] at e; cases e) (X₁ b o e)
  have hn3 := hn.at fun o q => k₃ _ o hxL q
  refine wpAny_execs_cons (plainObj_wpAny_Assign_Attribute ?_)
  refine ldC (v := v1) hn3 (by first | rfl | with_unfolding_all rfl | kernel_rfl) (ldC (v := .ref x) hn3 (by first | rfl | with_unfolding_all rfl | kernel_rfl) ?_)
  obtain ⟨oD, esD, epD, hoD, hdD, _⟩ := hn₃.count (Within.cons "part" v0 Within.nil)
  refine set_plain X₃ (ox := { cls := .ref C, dict := some dx, data := .fields #[.ref t0, .none, .none, .none, .bool false, .none] }) (od := some oD) ⟨hx₃, rfl, rfl, hoD⟩ T.sa ?_
  refine osa_old X₃ hx₃ hn₃ (Within.cons "part" v0 Within.nil) (by decide) hcl (show refsEX (.ref C :: bm) = true from hbm) rfl (T.no "at" (by simp)) (fun h₄ tk₄ k₄ hn₄ => ?_)
  show wpAny _ _ (execs _ _) _ _ _
  have low : ∀ b o, s.heap.get? b = some o → b ≠ dx := fun b o e q => by
    have lt := Heap.lt_size e
    rw [q] at lt
    exact absurd lt (Nat.not_lt.mpr (Nat.le_of_lt (Nat.lt_of_lt_of_le z dn)))
  exact wpAny_execs_nil (hq h₄ tk₄ dx (fun b o hb e => k₄ b o (low b o e) (k₃ b o hb (k b o e))) (k₄ _ _ dne.symm hx₃) (Nat.le_of_lt (Nat.lt_of_lt_of_le z dn)) dne hn₄)
theorem made_InvalidLoom (T : ExcT K mg C fI "InvalidLoom" ["part", "at"] "InvalidLoom.__init__" J.s_InvalidLoom_init) {v0 v1 : Value} (X : K.In s.heap) (hlim : s.heap.NoLimit) (hroom : A.depth + 1 < recursionLimit)
    (hq : ∀ h' tk e d, OwnMade s.heap h' e C d (fun y => if y = "at" then some v1 else if y = "part" then some v0 else none) → R (.ok (.ret (.ref e))) { s with heap := h', toks := tk }) :
    codeAny (model prog w) A (.call (.ref C) ⟨[v0, v1], []⟩) R s := by
  obtain ⟨nm, q, N, bs, bm, sn, sub, ab, col, dd, k0, k1, k2, k3, k5, hC, hbm⟩ := T.cls
  obtain ⟨hp, g, dr, tk, os⟩ := s
  have k : ∀ b o, hp.get? b = some o → ((hp.push (kdv_tup [v0, v1])).push (excO C hp.objs.size)).get? b = some o := fun b o e => Heap.get?_push_of_some _ (Heap.get?_push_of_some _ e)
  have hget : ((hp.push (kdv_tup [v0, v1])).push (excO C hp.objs.size)).get? (hp.objs.size + 1) = some (excO C hp.objs.size) := by heap_get
  have hnx : K.lookup (hp.objs.size + 1) = none := by
    cases e : K.lookup (hp.objs.size + 1) with
    | none => rfl
    | some o =>
      have z : hp.get? (hp.objs.size + 1) = some o := X _ _ e
      exact absurd (Nat.lt_of_succ_lt (Heap.lt_size z)) (Nat.lt_irrefl _)
  refine call_own F.excBase_Exception (fun X => refsEX_contains X bm hbm) (X _ _ hC) (looks_findIn X T.iC) (fun self => bind_fn X self T.tC) (by show 2 ≤ sizeLine; rw [sizeLine_eq]; decide) ?_
  refine init_InvalidLoom (s := ⟨(hp.push (kdv_tup [v0, v1])).push (excO C hp.objs.size), g, dr, tk, os⟩) T (X.keeps k) (hlim.keeps k) hget hnx ?_ fun h' tk' dx k' hx dn dne hns => ?_
  · show A.depth + 1 < recursionLimit
    exact hroom
  · have old : ∀ b o, hp.get? b = some o → h'.get? b = some o := fun b o e => k' b o (Nat.ne_of_lt (Nat.lt_succ_of_lt (Heap.lt_size e))) (k b o e)
    have z : hp.objs.size + 1 + 1 ≤ dx := by
      first
        | (simpa only [Heap.size_push] using dn)
        | exact dn
        | (have q := dn; rw [Heap.size_push, Heap.size_push] at q; exact q)
    exact ⟨rfl, hq h' tk' (hp.objs.size + 1) dx ⟨old, Nat.le_succ _, ⟨_, _, hx, rfl, rfl, rfl, rfl⟩, Nat.le_trans (Nat.le_trans (Nat.le_succ _) (Nat.le_succ _)) z, dne, hns⟩⟩
end
end ExX
end PySem
namespace L2
open PySem PySem.Spec PyProof.Rows PySem.ExX
def fs_InvalidLoom (x0 x1 : V) : List (Str × V) := [(("at" : Str), x1), (("part" : Str), x0)]
theorem rel_InvalidLoom {x0 x1 : V} {v0 v1 : Value} (r0 : RelV x0 v0) (r1 : RelV x1 v1) (f : Str) : RelO (List.lookup f (fs_InvalidLoom x0 x1)) ((fun y : Str => if y = "at" then some v1 else if y = "part" then some v0 else none) f) := by
  unfold fs_InvalidLoom
  exact (fun g => relO_put (f := "at") r1 (fun g => relO_put (f := "part") (fs := []) (mA := fun _ => none) r0 (fun _ => trivial) g) g) f
section
variable {X : Cx} {C fI : Addr} {es : List Expr} {e : Expr} {ta : TA} {p pos : Pos} {k : Nat}
def tV_InvalidLoom (C : Addr) (ta : TA) : TE := fun σ H Q => ta σ H fun vs H1 => ∃ x0 x1, vs = [x0, x1] ∧ ∀ e d, H1 e = none → H1 d = none → d ≠ e → Q (.ref e) (upd (upd H1 d (.xd (fs_InvalidLoom x0 x1))) e (ExD C d e))
/-- InvalidLoom(..) as a value -/
theorem pe_InvalidLoom (T : ExcT X.K X.mg C fI "InvalidLoom" ["part", "at"] "InvalidLoom.__init__" J.s_InvalidLoom_init) (hr : Room k X.A) (ha : PA X (e :: es) ta) (hg : Gl X "InvalidLoom" := by rfl)
    (he : starEach (e :: es) X.env = (false, eval e X.env) :: starEach es X.env := by rfl) (hpl : (backTo pos (starEach es X.env)).any (·.1) = false := by rfl) :
    PE X (.Call (.Name "InvalidLoom" p) (e :: es) [] pos) (tV_InvalidLoom C ta) := by
  refine ⟨fun pins s σ H Q I h => ?_⟩
  refine wpAny_Call_Name_kw (ld_glob I hg T.gC ?_)
  refine PySem.W.callWith_K (h₀ := X.base) I.ok.mod.kin T.kC (thn (ha.run pos pins s σ H _ I h) fun us s1 hh => ?_) he hpl
  obtain ⟨vs, H1, I1, r1, x0, x1, ev, q1⟩ := hh
  subst ev
  refine ⟨I1.kIn, ?_⟩
  cases r1 with
  | cons r0 rn =>
  cases rn with
  | cons r1 rn =>
  cases rn
  have hlim := I1.nolimit
  obtain ⟨hp, g, dr, tk, os⟩ := s1
  refine wpAny_call (made_InvalidLoom T I1.kIn hlim (by have := hr.dp; omega) fun h' tk' e d M => ?_)
  exact ⟨.ref e, _, own_value (tk' := tk') I1 M (rel_InvalidLoom r0 r1), rfl, q1 e d (I1.hok.fresh M.new) (I1.hok.fresh M.dbig) M.dne⟩
def tMk_InvalidLoom (C : Addr) (ta : TA) : St → Hp → XK → Prop := fun σ H Q => ta σ H fun vs H1 => ∃ x0 x1, vs = [x0, x1] ∧ ∀ d, H1 d = none → Q (.ref C) (some d) (upd H1 d (.xd (fs_InvalidLoom x0 x1)))
/-- InvalidLoom(..) to be raised -/
theorem pmk_InvalidLoom (T : ExcT X.K X.mg C fI "InvalidLoom" ["part", "at"] "InvalidLoom.__init__" J.s_InvalidLoom_init) (hr : Room k X.A) (ha : PA X (e :: es) ta) (hg : Gl X "InvalidLoom" := by rfl)
    (he : starEach (e :: es) X.env = (false, eval e X.env) :: starEach es X.env := by rfl) (hpl : (backTo pos (starEach es X.env)).any (·.1) = false := by rfl) :
    PMk X (.Call (.Name "InvalidLoom" p) (e :: es) [] pos) (tMk_InvalidLoom C ta) := by
  intro pins s σ H Q I h
  refine wpAny_Call_Name_kw (ld_glob I hg T.gC ?_)
  refine PySem.W.callWith_K (h₀ := X.base) I.ok.mod.kin T.kC (thn (ha.run pos pins s σ H _ I h) fun us s1 hh => ?_) he hpl
  obtain ⟨vs, H1, I1, r1, x0, x1, ev, q1⟩ := hh
  subst ev
  refine ⟨I1.kIn, ?_⟩
  cases r1 with
  | cons r0 rn =>
  cases rn with
  | cons r1 rn =>
  cases rn
  have hlim := I1.nolimit
  obtain ⟨hp, g, dr, tk, os⟩ := s1
  refine wpAny_call (made_InvalidLoom T I1.kIn hlim (by have := hr.dp; omega) fun h' tk' e d M => ?_)
  exact own_raise (tk' := tk') I1 M (rel_InvalidLoom r0 r1) (raises_own T.exC T.tyC) q1
end
end L2

set_option Elab.async false
set_option linter.all false
set_option maxRecDepth 100000
set_option maxHeartbeats 4000000
namespace J
open PySem L2
theorem TyZ_same {K : PySem.W.Frag} {H H' : Hp} {x : V} {t : Value} (h : TyZ K H x t) (s : Same H H') : TyZ K H' x t := by
  cases h with
  | x h =>
    refine .x ?_
    cases h with
    | base h =>
      refine .base ?_
      cases h with
      | non => exact .non
      | bl b => exact .bl b
      | int i => exact .int i
      | str z => exact .str z
      | flt z => exact .flt z
      | lst e => exact .lst (s _ _ e)
      | frz e => exact .frz (s _ _ e)
      | tup e => exact .tup (s _ _ e)
      | dK e => exact .dK (s _ _ e)
      | dT e => exact .dT (s _ _ e)
      | ins e cl ha hn htk hm => exact .ins (s _ _ e) cl ha hn htk hm
    | byt b => exact .byt b
    | set e => exact .set (s _ _ e)
    | kList e c => exact .kList e c
    | kTuple e c => exact .kTuple e c
    | kDict e c => exact .kDict e c
    | fTuple e => exact .fTuple (s _ _ e)
    | fDict e => exact .fDict (s _ _ e)
  | exo e c => exact .exo (s _ _ e) c
  | exd e ed c => exact .exd (s _ _ e) (s _ _ ed) c
inductive It (K : PySem.W.Frag) (H : Hp) : V → Prop
  | int (i : Int) : It K H (.int i)
  | bl (b : Bool) : It K H (.bl b)
  | other {x : V} {t : Value} (h : TyZ K H x t) (n : PySem.W.kitOne K t (.type "int") = some false) (ni : ∀ i, x ≠ .int i) : It K H x
theorem It.same {K : PySem.W.Frag} {H H' : Hp} {x : V} (h : It K H x) (s : Same H H') : It K H' x := by
  cases h with
  | int i => exact .int i
  | bl b => exact .bl b
  | other h n ni => exact .other (TyZ_same h s) n ni
def Seq (H : Hp) (a : Addr) (xs : List V) : Prop := H a = some (.lst xs) ∨ H a = some (.tup xs)
theorem Seq.same {H H' : Hp} {a : Addr} {xs : List V} (h : Seq H a xs) (s : Same H H') : Seq H' a xs := h.imp (s _ _) (s _ _)
inductive Thg (K : PySem.W.Frag) (H : Hp) : V → Option (List V) → Prop
  | seq {a : Addr} {xs : List V} (h : Seq H a xs) (hi : ∀ x ∈ xs, It K H x) (hl : xs.length ≤ 100000) : Thg K H (.ref a) (some xs)
  | non {x : V} {t : Value} (h : TyZ K H x t) (n : PySem.W.kitAny K t [.type "list", .type "tuple"] = some false) : Thg K H x none
theorem Thg.same {K : PySem.W.Frag} {H H' : Hp} {x : V} {d : Option (List V)} (h : Thg K H x d) (s : Same H H') : Thg K H' x d := by
  cases h with
  | seq h hi hl => exact .seq (h.same s) (fun x hx => (hi x hx).same s) hl
  | non h n => exact .non (TyZ_same h s) n
def spNumG (K : PySem.W.Frag) : Sp := fun vs H Q _ => ∃ (x : V) (hi : Int), vs = [x, .int 0, .int hi] ∧ It K H x ∧ ∀ b : Bool, (b = true ↔ ∃ i, x = .int i ∧ 0 ≤ i ∧ i ≤ hi) → Q (.bl b) H
inductive Trp (K : PySem.W.Frag) (H : Hp) : V → Option (V × Option (List V) × Option (List V)) → Prop
  | three {t : Addr} {s r o : V} {d1 d2 : Option (List V)} (h : H t = some (.tup [s, r, o])) (hs : It K H s) (hr : Thg K H r d1) (ho : Thg K H o d2) : Trp K H (.ref t) (some (s, d1, d2))
  | len {t : Addr} {xs : List V} (h : H t = some (.tup xs)) (n : xs.length ≠ 3) : Trp K H (.ref t) none
  | non {x : V} {tv : Value} (h : TyZ K H x tv) (n : PySem.W.kitOne K tv (.type "tuple") = some false) : Trp K H x none
theorem Trp.same {K : PySem.W.Frag} {H H' : Hp} {x : V} {d : Option (V × Option (List V) × Option (List V))} (h : Trp K H x d) (s : Same H H') : Trp K H' x d := by
  cases h with
  | three h hs hr ho => exact .three (s _ _ h) (hs.same s) (hr.same s) (ho.same s)
  | len h n => exact .len (s _ _ h) n
  | non h n => exact .non (TyZ_same h s) n
theorem kit_cls {K : PySem.W.Frag} {C : Addr} {s : String} (hm : PySem.W.kitMeta s = true) (h : PySem.W.subIn K (.ref C) (.type s) = some false) : PySem.W.kitOne K (.ref C) (.type s) = some false := by
  unfold PySem.W.kitOne
  have e : ¬ ((Value.ref C == Value.type s) = true) := fun z => nomatch (eq_of_beq z)
  rw [if_neg e]
  show (if PySem.W.kitMeta s = true then PySem.W.subIn K (.ref C) (.type s) else none) = some false
  rw [if_pos hm]
  exact h
theorem kit_no {K : PySem.W.Frag} {t : Value} (h1 : PySem.W.kitOne K t (.type "list") = some false) (h2 : PySem.W.kitOne K t (.type "tuple") = some false) : PySem.W.kitAny K t [.type "list", .type "tuple"] = some false :=
  kitAny_cons (b := false) h1 (fun _ => kitAny_cons (b := false) h2 (fun _ => rfl) (fun q => nomatch q)) (fun q => nomatch q)
theorem arcs_one {H : Hp} {t : Addr} (h : H t = some (.tup [V.int 0, V.str "a", V.int 0])) : Arcs H [V.ref t] [(0, [97], 0)] := by
  refine ⟨rfl, fun i a e => ?_⟩
  cases i with
  | zero => cases e; exact ⟨t, rfl, h⟩
  | succ j => simp at e
theorem okw_one : OkW [97] [(0, [97], 0)] := by
  refine ⟨by decide, by decide, fun a ha => ?_⟩
  rw [List.mem_singleton.mp ha]
  exact ⟨by decide, ⟨by decide, by decide, by decide⟩, by decide⟩
theorem sig_one : Signs [97] := by unfold Signs; decide
theorem allIt_nil {K : PySem.W.Frag} {H : Hp} : ∀ x ∈ ([] : List V), It K H x := fun x hx => nomatch hx
theorem allIt_cons {K : PySem.W.Frag} {H : Hp} {x : V} {xs : List V} (h : It K H x) (t : ∀ y ∈ xs, It K H y) : ∀ y ∈ x :: xs, It K H y := fun y hy => by
  rcases List.mem_cons.mp hy with rfl | h'
  · exact h
  · exact t y h'
/-- a drawn thing: no state; what it is as an item, as a row, as a pair -/
def NewT (K : PySem.W.Frag) (p : Addr) (H0 H : Hp) (x : V) : Prop := (∀ i, x = .int i → ¬ (0 ≤ i ∧ i ≤ 63)) ∧ ∃ d d3, ∀ H', (∀ b o, b ≠ p → H0 b = none → H b = some o → H' b = some o) → It K H' x ∧ Thg K H' x d ∧ Trp K H' x d3
/-- the same, whatever is drawn later -/
def OddT (K : PySem.W.Frag) (p : Addr) (H : Hp) (x : V) : Prop := (∀ i, x = .int i → ¬ (0 ≤ i ∧ i ≤ 63)) ∧ ∃ d d3, ∀ H', Ex p H H' → It K H' x ∧ Thg K H' x d ∧ Trp K H' x d3
theorem NewT.odd {K : PySem.W.Frag} {p : Addr} {H0 H : Hp} {x : V} (h : NewT K p H0 H x) : OddT K p H x := by
  obtain ⟨n, d, d3, h⟩ := h
  exact ⟨n, d, d3, fun H2 x2 => h H2 fun b o n _ e => x2 b o n e⟩
theorem OddT.ex {K : PySem.W.Frag} {p : Addr} {H H' : Hp} {x : V} (h : OddT K p H x) (s : Ex p H H') : OddT K p H' x := by
  obtain ⟨n, d, d3, h⟩ := h
  exact ⟨n, d, d3, fun H2 x2 => h H2 (s.trans x2)⟩
theorem AllT.nil {K : PySem.W.Frag} {p : Addr} {H0 H : Hp} : ∀ v ∈ ([] : List V), NewT K p H0 H v := fun x hx => nomatch hx
theorem AllT.cons {K : PySem.W.Frag} {p : Addr} {H0 H : Hp} {x : V} {xs : List V} (h : NewT K p H0 H x) (t : ∀ v ∈ xs, NewT K p H0 H v) : ∀ v ∈ (x :: xs), NewT K p H0 H v := fun y hy => by
  rcases List.mem_cons.mp hy with rfl | h'
  · exact h
  · exact t y h'
def spOdd (K : PySem.W.Frag) (ns : List Int) : Sp := fun vs H Q _ => ∃ (p l : Addr), vs = [.ref p] ∧ StAt ns l H p ∧ ∀ (H' : Hp) (x : V), Ex p H H' → StAt ns l H' p → NewT K p H H' x → Q x H'
section
variable {P : Program} {w : World} {K : PySem.W.Frag} {mg : Str → Option Value} {base : Heap}
theorem ok_is_numberG (T : Tx K mg) : FnOk P w K mg base CX0 1 T.f_is_number T.fd_is_number P_is_number (spNumG K) := by
  refine T.F_is_number.ok sc_is_number (fun vs H Q E h => ?_) (fun cdv A outer s H vs Q E hr h => ?_)
  · obtain ⟨x, hi, rfl, _⟩ := h
    rfl
  · obtain ⟨x, hi, rfl, ho, k⟩ := h
    refine ⟨_, (pss_one (ps_ret (pe_and (pe_callB (call_isiZ (K := K) rfl) rfl T.n_isinstance (by decide +kernel) (pa_cons (pv 0) (pa_cons (pe_bltn (v := V.ty "int") (u := .type "int") rfl T.n_int (by decide +kernel) rfl) pa_nil))) (pe_and (pe_not (pe_callB (call_isiZ (K := K) rfl) rfl T.n_isinstance (by decide +kernel) (pa_cons (pv 0) (pa_cons (pe_bltn (v := V.ty "bool") (u := .type "bool") rfl T.n_bool (by decide +kernel) rfl) pa_nil)))) (pe_one (pe_chain op_le op_le (pv 1) (pv 0) (pv 2))))))), ?_⟩
    cases ho with
    | other h n ni => exact ⟨_, rfl, _, _, _, _, false, rfl, .ty "int", h, n, false, rfl, k false ⟨fun z => Bool.noConfusion z, fun ⟨i, e, _⟩ => absurd e (ni i)⟩⟩
    | bl b =>
      refine ⟨_, rfl, _, _, _, _, true, rfl, .ty "int", .x (.base (.bl b)), kit_ty (by decide +kernel), true, rfl, ?_⟩
      exact ⟨_, rfl, _, _, _, _, true, rfl, .ty "bool", .x (.base (.bl b)), kit_ty (by decide +kernel), true, rfl, false, rfl, k false ⟨fun z => Bool.noConfusion z, fun ⟨i, e, _⟩ => nomatch e⟩⟩
    | int i =>
      refine ⟨_, rfl, _, _, _, _, true, rfl, .ty "int", .x (.base (.int i)), kit_ty (by decide +kernel), true, rfl, ?_⟩
      refine ⟨_, rfl, _, _, _, _, false, rfl, .ty "bool", .x (.base (.int i)), kit_ty (by decide +kernel), false, rfl, true, rfl, ?_⟩
      refine ⟨_, rfl, _, rfl, _, _, rfl, rfl, _, rfl, ?_⟩
      refine ite2 (fun c => ?_) (fun c => ?_)
      · refine ⟨_, rfl, _, _, rfl, rfl, k _ ?_⟩
        have c1 := of_decide_eq_true c
        constructor
        · intro h; exact ⟨i, rfl, c1, of_decide_eq_true h⟩
        · rintro ⟨j, e, _, h⟩; cases e; exact decide_eq_true h
      · refine k _ ?_
        constructor
        · intro h; cases h
        · rintro ⟨j, e, h, _⟩; cases e; exact absurd (decide_eq_true h) c
theorem ok_l_odd (T : Tx K mg) (ns : List Int) : FnOk P w K mg base CX0 6 T.f_l_odd T.fd_l_odd P_l_odd (spOdd K ns) := by
  have G_l_draw : FnOk P w K mg base CX0 1 T.f_l_draw T.fd_l_draw P_l_draw (spDraw ns) := ok_l_draw T ns
  have G_Loom_init : FnOk P w K mg base CX0 4 T.f_Loom_init T.fd_Loom_init P_Loom_init (spInit T.C_Loom) := ok_Loom_init T
  refine T.F_l_odd.ok sc_l_odd (fun vs H Q E h => ?_) (fun cdv A outer s H vs Q E hr h => ?_)
  · obtain ⟨p, l, rfl, _⟩ := h
    rfl
  · obtain ⟨p, l, rfl, hst, k⟩ := h
    refine ⟨_, (pss_cons (ps_set (i := 1) sc_l_odd.nd rfl (Or.inl rfl) (pe_lst (pa_cons pe_non (pa_cons pe_bl (pa_cons pe_bl (pa_cons (pe_un un_neg pe_int) (pa_cons pe_int (pa_cons pe_str (pa_cons pe_str (pa_cons pe_str (pa_cons (pe_tup pa_nil) (pa_cons (pe_lst pa_nil) (pa_cons pe_dnewK (pa_cons (pe_lst (pa_cons (pe_lst (pa_cons pe_int pa_nil)) pa_nil)) (pa_cons (pe_tup (pa_cons pe_int (pa_cons pe_int (pa_cons pe_int pa_nil)))) (pa_cons (pe_disp (pps_cons pe_str pe_int pps_nil) rfl rfl (by simp) (by decide)) (pa_cons (pe_lst (pa_cons pe_non pa_nil)) (pa_cons (pe_tup (pa_cons pe_str pa_nil)) (pa_cons (pe_op op_pow pe_int pe_int) pa_nil)))))))))))))))))))
        (pss_cons (ps_set (i := 1) sc_l_odd.nd rfl (Or.inl rfl) (pe_op op_cat (pv 1) (pe_lst (pa_cons (pe_make T.M_Loom G_Loom_init (hr.mono (by decide)) rfl T.g_Loom T.b_Loom_init .nil pass0 (pa_cons pe_str (pa_cons (pe_lst (pa_cons (pe_tup (pa_cons pe_int (pa_cons pe_str (pa_cons pe_int pa_nil)))) pa_nil)) pa_nil))) (pa_cons (pe_lst (pa_cons (pe_make T.M_Loom G_Loom_init (hr.mono (by decide)) rfl T.g_Loom T.b_Loom_init .nil pass0 (pa_cons pe_str (pa_cons (pe_lst (pa_cons (pe_tup (pa_cons pe_int (pa_cons pe_str (pa_cons pe_int pa_nil)))) pa_nil)) pa_nil))) pa_nil)) (pa_cons (pe_InvalidLoom (k := 3) T.X_InvalidLoom (hr.mono (by decide)) (pa_cons pe_str (pa_cons (pe_un un_neg pe_int) pa_nil))) (pa_cons pe_str (pa_cons pe_str (pa_cons (pe_lst (pa_cons (pe_lst (pa_cons (pe_lst (pa_cons (pe_lst pa_nil) pa_nil)) pa_nil)) pa_nil)) pa_nil)))))))))
        (pss_one (ps_ret (pe_ix (ix_listK (K := K) rfl) (pv 1) (pe_call G_l_draw (hr.mono (by decide)) rfl T.m_l_draw T.F_l_draw.kp T.b_l_draw .nil pass0 (pa_cons (pv 0) (pa_cons (pe_callB (call_len_seqK (K := K) rfl) rfl T.n_len (by decide +kernel) (pa_cons (pv 1) pa_nil)) pa_nil))) (fun _ _ => rfl)))))), ?_⟩
    refine ⟨_, rfl, ?_⟩
    have sm0 : Same H H := fun _ _ e => e
    refine ⟨le_size (by simp), fun a1 h1 => ?_⟩
    have p1 := ((hst.same sm0).ne h1).1
    have z1 := sm0.free h1
    have s1 : Same H (upd H a1 (HO.tup [])) := Same.new _ h1
    have g1 : upd H a1 (HO.tup []) a1 = some (HO.tup []) := upd_same
    generalize upd H a1 (HO.tup []) = H1 at *
    have sm1 : Same H H1 := sm0.trans s1
    refine ⟨le_size (by simp), fun a2 h2 => ?_⟩
    have p2 := ((hst.same sm1).ne h2).1
    have z2 := sm1.free h2
    have s2 : Same H1 (upd H1 a2 (HO.lst [])) := Same.new _ h2
    have g2 : upd H1 a2 (HO.lst []) a2 = some (HO.lst []) := upd_same
    generalize upd H1 a2 (HO.lst []) = H2 at *
    replace g1 := s2 _ _ g1
    have sm2 : Same H H2 := sm1.trans s2
    intro a3 h3
    have p3 := ((hst.same sm2).ne h3).1
    have z3 := sm2.free h3
    have s3 : Same H2 (upd H2 a3 (HO.dK [])) := Same.new _ h3
    have g3 : upd H2 a3 (HO.dK []) a3 = some (HO.dK []) := upd_same
    generalize upd H2 a3 (HO.dK []) = H3 at *
    replace g1 := s3 _ _ g1
    replace g2 := s3 _ _ g2
    have sm3 : Same H H3 := sm2.trans s3
    refine ⟨le_size (by simp), fun a4 h4 => ?_⟩
    have p4 := ((hst.same sm3).ne h4).1
    have z4 := sm3.free h4
    have s4 : Same H3 (upd H3 a4 (HO.lst [V.int 0])) := Same.new _ h4
    have g4 : upd H3 a4 (HO.lst [V.int 0]) a4 = some (HO.lst [V.int 0]) := upd_same
    generalize upd H3 a4 (HO.lst [V.int 0]) = H4 at *
    replace g1 := s4 _ _ g1
    replace g2 := s4 _ _ g2
    replace g3 := s4 _ _ g3
    have sm4 : Same H H4 := sm3.trans s4
    refine ⟨le_size (by simp), fun a5 h5 => ?_⟩
    have p5 := ((hst.same sm4).ne h5).1
    have z5 := sm4.free h5
    have s5 : Same H4 (upd H4 a5 (HO.lst [V.ref a4])) := Same.new _ h5
    have g5 : upd H4 a5 (HO.lst [V.ref a4]) a5 = some (HO.lst [V.ref a4]) := upd_same
    generalize upd H4 a5 (HO.lst [V.ref a4]) = H5 at *
    replace g1 := s5 _ _ g1
    replace g2 := s5 _ _ g2
    replace g3 := s5 _ _ g3
    replace g4 := s5 _ _ g4
    have sm5 : Same H H5 := sm4.trans s5
    refine ⟨le_size (by simp), fun a6 h6 => ?_⟩
    have p6 := ((hst.same sm5).ne h6).1
    have z6 := sm5.free h6
    have s6 : Same H5 (upd H5 a6 (HO.tup [V.int 0, V.int 1, V.int 2])) := Same.new _ h6
    have g6 : upd H5 a6 (HO.tup [V.int 0, V.int 1, V.int 2]) a6 = some (HO.tup [V.int 0, V.int 1, V.int 2]) := upd_same
    generalize upd H5 a6 (HO.tup [V.int 0, V.int 1, V.int 2]) = H6 at *
    replace g1 := s6 _ _ g1
    replace g2 := s6 _ _ g2
    replace g3 := s6 _ _ g3
    replace g4 := s6 _ _ g4
    replace g5 := s6 _ _ g5
    have sm6 : Same H H6 := sm5.trans s6
    intro a7 h7
    refine ⟨upd_same, [(.inr "a", V.int 1)], rfl, by decide, ?_⟩
    rw [upd_upd]
    have p7 := ((hst.same sm6).ne h7).1
    have z7 := sm6.free h7
    have s7 : Same H6 (upd H6 a7 (HO.dK (mergeK [] [(Sum.inr "a", V.int 1)]))) := Same.new _ h7
    have g7 : upd H6 a7 (HO.dK (mergeK [] [(Sum.inr "a", V.int 1)])) a7 = some (HO.dK (mergeK [] [(Sum.inr "a", V.int 1)])) := upd_same
    generalize upd H6 a7 (HO.dK (mergeK [] [(Sum.inr "a", V.int 1)])) = H7 at *
    replace g1 := s7 _ _ g1
    replace g2 := s7 _ _ g2
    replace g3 := s7 _ _ g3
    replace g4 := s7 _ _ g4
    replace g5 := s7 _ _ g5
    replace g6 := s7 _ _ g6
    have sm7 : Same H H7 := sm6.trans s7
    refine ⟨le_size (by simp), fun a8 h8 => ?_⟩
    have p8 := ((hst.same sm7).ne h8).1
    have z8 := sm7.free h8
    have s8 : Same H7 (upd H7 a8 (HO.lst [V.non])) := Same.new _ h8
    have g8 : upd H7 a8 (HO.lst [V.non]) a8 = some (HO.lst [V.non]) := upd_same
    generalize upd H7 a8 (HO.lst [V.non]) = H8 at *
    replace g1 := s8 _ _ g1
    replace g2 := s8 _ _ g2
    replace g3 := s8 _ _ g3
    replace g4 := s8 _ _ g4
    replace g5 := s8 _ _ g5
    replace g6 := s8 _ _ g6
    replace g7 := s8 _ _ g7
    have sm8 : Same H H8 := sm7.trans s8
    refine ⟨le_size (by simp), fun a9 h9 => ?_⟩
    have p9 := ((hst.same sm8).ne h9).1
    have z9 := sm8.free h9
    have s9 : Same H8 (upd H8 a9 (HO.tup [V.str "a"])) := Same.new _ h9
    have g9 : upd H8 a9 (HO.tup [V.str "a"]) a9 = some (HO.tup [V.str "a"]) := upd_same
    generalize upd H8 a9 (HO.tup [V.str "a"]) = H9 at *
    replace g1 := s9 _ _ g1
    replace g2 := s9 _ _ g2
    replace g3 := s9 _ _ g3
    replace g4 := s9 _ _ g4
    replace g5 := s9 _ _ g5
    replace g6 := s9 _ _ g6
    replace g7 := s9 _ _ g7
    replace g8 := s9 _ _ g8
    have sm9 : Same H H9 := sm8.trans s9
    refine ⟨_, _, rfl, rfl, ⟨by decide, by decide, by decide⟩, ?_⟩
    refine ⟨le_size (by simp), fun a10 h10 => ?_⟩
    dsimp only
    have p10 := ((hst.same sm9).ne h10).1
    have z10 := sm9.free h10
    have s10 : Same H9 (upd H9 a10 (HO.lst [V.non, V.bl true, V.bl false, V.int (-1), V.int 64, V.str "0", V.str "A", V.str "-", V.ref a1, V.ref a2, V.ref a3, V.ref a5, V.ref a6, V.ref a7, V.ref a8, V.ref a9, V.int (10 ^ (20 : Int).toNat)])) := Same.new _ h10
    have g10 : upd H9 a10 (HO.lst [V.non, V.bl true, V.bl false, V.int (-1), V.int 64, V.str "0", V.str "A", V.str "-", V.ref a1, V.ref a2, V.ref a3, V.ref a5, V.ref a6, V.ref a7, V.ref a8, V.ref a9, V.int (10 ^ (20 : Int).toNat)]) a10 = some (HO.lst [V.non, V.bl true, V.bl false, V.int (-1), V.int 64, V.str "0", V.str "A", V.str "-", V.ref a1, V.ref a2, V.ref a3, V.ref a5, V.ref a6, V.ref a7, V.ref a8, V.ref a9, V.int (10 ^ (20 : Int).toNat)]) := upd_same
    generalize upd H9 a10 (HO.lst [V.non, V.bl true, V.bl false, V.int (-1), V.int 64, V.str "0", V.str "A", V.str "-", V.ref a1, V.ref a2, V.ref a3, V.ref a5, V.ref a6, V.ref a7, V.ref a8, V.ref a9, V.int (10 ^ (20 : Int).toNat)]) = H10 at *
    replace g1 := s10 _ _ g1
    replace g2 := s10 _ _ g2
    replace g3 := s10 _ _ g3
    replace g4 := s10 _ _ g4
    replace g5 := s10 _ _ g5
    replace g6 := s10 _ _ g6
    replace g7 := s10 _ _ g7
    replace g8 := s10 _ _ g8
    replace g9 := s10 _ _ g9
    have sm10 : Same H H10 := sm9.trans s10
    refine ⟨_, rfl, ?_⟩
    refine ⟨le_size (by simp), fun a11 h11 => ?_⟩
    have p11 := ((hst.same sm10).ne h11).1
    have z11 := sm10.free h11
    have s11 : Same H10 (upd H10 a11 (HO.tup [V.int 0, V.str "a", V.int 0])) := Same.new _ h11
    have g11 : upd H10 a11 (HO.tup [V.int 0, V.str "a", V.int 0]) a11 = some (HO.tup [V.int 0, V.str "a", V.int 0]) := upd_same
    generalize upd H10 a11 (HO.tup [V.int 0, V.str "a", V.int 0]) = H11 at *
    replace g1 := s11 _ _ g1
    replace g2 := s11 _ _ g2
    replace g3 := s11 _ _ g3
    replace g4 := s11 _ _ g4
    replace g5 := s11 _ _ g5
    replace g6 := s11 _ _ g6
    replace g7 := s11 _ _ g7
    replace g8 := s11 _ _ g8
    replace g9 := s11 _ _ g9
    replace g10 := s11 _ _ g10
    have sm11 : Same H H11 := sm10.trans s11
    refine ⟨le_size (by simp), fun a12 h12 => ?_⟩
    have p12 := ((hst.same sm11).ne h12).1
    have z12 := sm11.free h12
    have s12 : Same H11 (upd H11 a12 (HO.lst [V.ref a11])) := Same.new _ h12
    have g12 : upd H11 a12 (HO.lst [V.ref a11]) a12 = some (HO.lst [V.ref a11]) := upd_same
    generalize upd H11 a12 (HO.lst [V.ref a11]) = H12 at *
    replace g1 := s12 _ _ g1
    replace g2 := s12 _ _ g2
    replace g3 := s12 _ _ g3
    replace g4 := s12 _ _ g4
    replace g5 := s12 _ _ g5
    replace g6 := s12 _ _ g6
    replace g7 := s12 _ _ g7
    replace g8 := s12 _ _ g8
    replace g9 := s12 _ _ g9
    replace g10 := s12 _ _ g10
    replace g11 := s12 _ _ g11
    have sm12 : Same H H12 := sm11.trans s12
    intro a13 dx13 h13 hd13 hne13
    have S13 : Same H12 (upd (upd H12 dx13 (.own a13)) a13 (.ins T.C_Loom dx13 [])) := (Same.new _ hd13).trans (Same.new _ (by rw [upd_ne hne13.symm]; exact h13))
    refine ⟨a13, dx13, a12, [97], [V.ref a11], [(0, [97], 0)], rfl, upd_same, S13 _ _ g12, arcs_one (S13 _ _ g11), okw_one, sig_one, fun H13 T13 x3 hT hTus g13 => ⟨rfl, ?_⟩⟩
    have s13 : Same H12 H13 := fun b o e => x3 _ _ (ne_of_none e h13) (S13 _ _ e)
    have p13 := ((hst.same sm12).ne h13).1
    have z13 := sm12.free h13
    clear x3 hT hTus S13 hd13 hne13
    have sm13 : Same H H13 := sm12.trans s13
    replace g1 := s13 _ _ g1
    replace g2 := s13 _ _ g2
    replace g3 := s13 _ _ g3
    replace g4 := s13 _ _ g4
    replace g5 := s13 _ _ g5
    replace g6 := s13 _ _ g6
    replace g7 := s13 _ _ g7
    replace g8 := s13 _ _ g8
    replace g9 := s13 _ _ g9
    replace g10 := s13 _ _ g10
    replace g11 := s13 _ _ g11
    replace g12 := s13 _ _ g12
    refine ⟨le_size (by simp), fun a14 h14 => ?_⟩
    have p14 := ((hst.same sm13).ne h14).1
    have z14 := sm13.free h14
    have s14 : Same H13 (upd H13 a14 (HO.tup [V.int 0, V.str "a", V.int 0])) := Same.new _ h14
    have g14 : upd H13 a14 (HO.tup [V.int 0, V.str "a", V.int 0]) a14 = some (HO.tup [V.int 0, V.str "a", V.int 0]) := upd_same
    generalize upd H13 a14 (HO.tup [V.int 0, V.str "a", V.int 0]) = H14 at *
    replace g1 := s14 _ _ g1
    replace g2 := s14 _ _ g2
    replace g3 := s14 _ _ g3
    replace g4 := s14 _ _ g4
    replace g5 := s14 _ _ g5
    replace g6 := s14 _ _ g6
    replace g7 := s14 _ _ g7
    replace g8 := s14 _ _ g8
    replace g9 := s14 _ _ g9
    replace g10 := s14 _ _ g10
    replace g11 := s14 _ _ g11
    replace g12 := s14 _ _ g12
    replace g13 := s14 _ _ g13
    have sm14 : Same H H14 := sm13.trans s14
    refine ⟨le_size (by simp), fun a15 h15 => ?_⟩
    have p15 := ((hst.same sm14).ne h15).1
    have z15 := sm14.free h15
    have s15 : Same H14 (upd H14 a15 (HO.lst [V.ref a14])) := Same.new _ h15
    have g15 : upd H14 a15 (HO.lst [V.ref a14]) a15 = some (HO.lst [V.ref a14]) := upd_same
    generalize upd H14 a15 (HO.lst [V.ref a14]) = H15 at *
    replace g1 := s15 _ _ g1
    replace g2 := s15 _ _ g2
    replace g3 := s15 _ _ g3
    replace g4 := s15 _ _ g4
    replace g5 := s15 _ _ g5
    replace g6 := s15 _ _ g6
    replace g7 := s15 _ _ g7
    replace g8 := s15 _ _ g8
    replace g9 := s15 _ _ g9
    replace g10 := s15 _ _ g10
    replace g11 := s15 _ _ g11
    replace g12 := s15 _ _ g12
    replace g13 := s15 _ _ g13
    replace g14 := s15 _ _ g14
    have sm15 : Same H H15 := sm14.trans s15
    intro a16 dx16 h16 hd16 hne16
    have S16 : Same H15 (upd (upd H15 dx16 (.own a16)) a16 (.ins T.C_Loom dx16 [])) := (Same.new _ hd16).trans (Same.new _ (by rw [upd_ne hne16.symm]; exact h16))
    refine ⟨a16, dx16, a15, [97], [V.ref a14], [(0, [97], 0)], rfl, upd_same, S16 _ _ g15, arcs_one (S16 _ _ g14), okw_one, sig_one, fun H16 T16 x3 hT hTus g16 => ⟨rfl, ?_⟩⟩
    have s16 : Same H15 H16 := fun b o e => x3 _ _ (ne_of_none e h16) (S16 _ _ e)
    have p16 := ((hst.same sm15).ne h16).1
    have z16 := sm15.free h16
    clear x3 hT hTus S16 hd16 hne16
    have sm16 : Same H H16 := sm15.trans s16
    replace g1 := s16 _ _ g1
    replace g2 := s16 _ _ g2
    replace g3 := s16 _ _ g3
    replace g4 := s16 _ _ g4
    replace g5 := s16 _ _ g5
    replace g6 := s16 _ _ g6
    replace g7 := s16 _ _ g7
    replace g8 := s16 _ _ g8
    replace g9 := s16 _ _ g9
    replace g10 := s16 _ _ g10
    replace g11 := s16 _ _ g11
    replace g12 := s16 _ _ g12
    replace g13 := s16 _ _ g13
    replace g14 := s16 _ _ g14
    replace g15 := s16 _ _ g15
    refine ⟨le_size (by simp), fun a17 h17 => ?_⟩
    have p17 := ((hst.same sm16).ne h17).1
    have z17 := sm16.free h17
    have s17 : Same H16 (upd H16 a17 (HO.lst [V.ref a16])) := Same.new _ h17
    have g17 : upd H16 a17 (HO.lst [V.ref a16]) a17 = some (HO.lst [V.ref a16]) := upd_same
    generalize upd H16 a17 (HO.lst [V.ref a16]) = H17 at *
    replace g1 := s17 _ _ g1
    replace g2 := s17 _ _ g2
    replace g3 := s17 _ _ g3
    replace g4 := s17 _ _ g4
    replace g5 := s17 _ _ g5
    replace g6 := s17 _ _ g6
    replace g7 := s17 _ _ g7
    replace g8 := s17 _ _ g8
    replace g9 := s17 _ _ g9
    replace g10 := s17 _ _ g10
    replace g11 := s17 _ _ g11
    replace g12 := s17 _ _ g12
    replace g13 := s17 _ _ g13
    replace g14 := s17 _ _ g14
    replace g15 := s17 _ _ g15
    replace g16 := s17 _ _ g16
    have sm17 : Same H H17 := sm16.trans s17
    refine ⟨_, rfl, ?_⟩
    refine ⟨_, _, rfl, fun a18 d18 h18 hd18 hde18 => ?_⟩
    dsimp only
    have s18 : Same H17 (upd (upd H17 d18 (.xd (fs_InvalidLoom (V.str "signs") (V.int (-1))))) a18 (ExD T.C_InvalidLoom d18 a18)) := (Same.new _ hd18).trans (Same.new _ (by rw [upd_ne hde18.symm]; exact h18))
    have g18 : (upd (upd H17 d18 (.xd (fs_InvalidLoom (V.str "signs") (V.int (-1))))) a18 (ExD T.C_InvalidLoom d18 a18)) a18 = some (ExD T.C_InvalidLoom d18 a18) := upd_same
    have gd : (upd (upd H17 d18 (.xd (fs_InvalidLoom (V.str "signs") (V.int (-1))))) a18 (ExD T.C_InvalidLoom d18 a18)) d18 = some (.xd (fs_InvalidLoom (V.str "signs") (V.int (-1)))) := by rw [upd_ne hde18]; exact upd_same
    have p18 := ((hst.same sm17).ne h18).1
    have z18 := sm17.free h18
    have pd := ((hst.same sm17).ne hd18).1
    have zd := sm17.free hd18
    generalize upd (upd H17 d18 (.xd (fs_InvalidLoom (V.str "signs") (V.int (-1))))) a18 (ExD T.C_InvalidLoom d18 a18) = H18 at *
    have sm18 : Same H H18 := sm17.trans s18
    replace g1 := s18 _ _ g1
    replace g2 := s18 _ _ g2
    replace g3 := s18 _ _ g3
    replace g4 := s18 _ _ g4
    replace g5 := s18 _ _ g5
    replace g6 := s18 _ _ g6
    replace g7 := s18 _ _ g7
    replace g8 := s18 _ _ g8
    replace g9 := s18 _ _ g9
    replace g10 := s18 _ _ g10
    replace g11 := s18 _ _ g11
    replace g12 := s18 _ _ g12
    replace g13 := s18 _ _ g13
    replace g14 := s18 _ _ g14
    replace g15 := s18 _ _ g15
    replace g16 := s18 _ _ g16
    replace g17 := s18 _ _ g17
    refine ⟨le_size (by simp), fun a19 h19 => ?_⟩
    have p19 := ((hst.same sm18).ne h19).1
    have z19 := sm18.free h19
    have s19 : Same H18 (upd H18 a19 (HO.lst [])) := Same.new _ h19
    have g19 : upd H18 a19 (HO.lst []) a19 = some (HO.lst []) := upd_same
    generalize upd H18 a19 (HO.lst []) = H19 at *
    replace g1 := s19 _ _ g1
    replace g2 := s19 _ _ g2
    replace g3 := s19 _ _ g3
    replace g4 := s19 _ _ g4
    replace g5 := s19 _ _ g5
    replace g6 := s19 _ _ g6
    replace g7 := s19 _ _ g7
    replace g8 := s19 _ _ g8
    replace g9 := s19 _ _ g9
    replace g10 := s19 _ _ g10
    replace g11 := s19 _ _ g11
    replace g12 := s19 _ _ g12
    replace g13 := s19 _ _ g13
    replace g14 := s19 _ _ g14
    replace g15 := s19 _ _ g15
    replace g16 := s19 _ _ g16
    replace g17 := s19 _ _ g17
    replace g18 := s19 _ _ g18
    have sm19 : Same H H19 := sm18.trans s19
    replace gd := s19 _ _ gd
    refine ⟨le_size (by simp), fun a20 h20 => ?_⟩
    have p20 := ((hst.same sm19).ne h20).1
    have z20 := sm19.free h20
    have s20 : Same H19 (upd H19 a20 (HO.lst [V.ref a19])) := Same.new _ h20
    have g20 : upd H19 a20 (HO.lst [V.ref a19]) a20 = some (HO.lst [V.ref a19]) := upd_same
    generalize upd H19 a20 (HO.lst [V.ref a19]) = H20 at *
    replace g1 := s20 _ _ g1
    replace g2 := s20 _ _ g2
    replace g3 := s20 _ _ g3
    replace g4 := s20 _ _ g4
    replace g5 := s20 _ _ g5
    replace g6 := s20 _ _ g6
    replace g7 := s20 _ _ g7
    replace g8 := s20 _ _ g8
    replace g9 := s20 _ _ g9
    replace g10 := s20 _ _ g10
    replace g11 := s20 _ _ g11
    replace g12 := s20 _ _ g12
    replace g13 := s20 _ _ g13
    replace g14 := s20 _ _ g14
    replace g15 := s20 _ _ g15
    replace g16 := s20 _ _ g16
    replace g17 := s20 _ _ g17
    replace g18 := s20 _ _ g18
    replace g19 := s20 _ _ g19
    have sm20 : Same H H20 := sm19.trans s20
    replace gd := s20 _ _ gd
    refine ⟨le_size (by simp), fun a21 h21 => ?_⟩
    have p21 := ((hst.same sm20).ne h21).1
    have z21 := sm20.free h21
    have s21 : Same H20 (upd H20 a21 (HO.lst [V.ref a20])) := Same.new _ h21
    have g21 : upd H20 a21 (HO.lst [V.ref a20]) a21 = some (HO.lst [V.ref a20]) := upd_same
    generalize upd H20 a21 (HO.lst [V.ref a20]) = H21 at *
    replace g1 := s21 _ _ g1
    replace g2 := s21 _ _ g2
    replace g3 := s21 _ _ g3
    replace g4 := s21 _ _ g4
    replace g5 := s21 _ _ g5
    replace g6 := s21 _ _ g6
    replace g7 := s21 _ _ g7
    replace g8 := s21 _ _ g8
    replace g9 := s21 _ _ g9
    replace g10 := s21 _ _ g10
    replace g11 := s21 _ _ g11
    replace g12 := s21 _ _ g12
    replace g13 := s21 _ _ g13
    replace g14 := s21 _ _ g14
    replace g15 := s21 _ _ g15
    replace g16 := s21 _ _ g16
    replace g17 := s21 _ _ g17
    replace g18 := s21 _ _ g18
    replace g19 := s21 _ _ g19
    replace g20 := s21 _ _ g20
    have sm21 : Same H H21 := sm20.trans s21
    replace gd := s21 _ _ gd
    refine ⟨le_size (by simp), fun a22 h22 => ?_⟩
    have p22 := ((hst.same sm21).ne h22).1
    have z22 := sm21.free h22
    have s22 : Same H21 (upd H21 a22 (HO.lst [V.ref a21])) := Same.new _ h22
    have g22 : upd H21 a22 (HO.lst [V.ref a21]) a22 = some (HO.lst [V.ref a21]) := upd_same
    generalize upd H21 a22 (HO.lst [V.ref a21]) = H22 at *
    replace g1 := s22 _ _ g1
    replace g2 := s22 _ _ g2
    replace g3 := s22 _ _ g3
    replace g4 := s22 _ _ g4
    replace g5 := s22 _ _ g5
    replace g6 := s22 _ _ g6
    replace g7 := s22 _ _ g7
    replace g8 := s22 _ _ g8
    replace g9 := s22 _ _ g9
    replace g10 := s22 _ _ g10
    replace g11 := s22 _ _ g11
    replace g12 := s22 _ _ g12
    replace g13 := s22 _ _ g13
    replace g14 := s22 _ _ g14
    replace g15 := s22 _ _ g15
    replace g16 := s22 _ _ g16
    replace g17 := s22 _ _ g17
    replace g18 := s22 _ _ g18
    replace g19 := s22 _ _ g19
    replace g20 := s22 _ _ g20
    replace g21 := s22 _ _ g21
    have sm22 : Same H H22 := sm21.trans s22
    replace gd := s22 _ _ gd
    refine ⟨le_size (by simp), fun a23 h23 => ?_⟩
    have p23 := ((hst.same sm22).ne h23).1
    have z23 := sm22.free h23
    have s23 : Same H22 (upd H22 a23 (HO.lst [V.ref a13, V.ref a17, V.ref a18, V.str "a\n", V.str "~", V.ref a22])) := Same.new _ h23
    have g23 : upd H22 a23 (HO.lst [V.ref a13, V.ref a17, V.ref a18, V.str "a\n", V.str "~", V.ref a22]) a23 = some (HO.lst [V.ref a13, V.ref a17, V.ref a18, V.str "a\n", V.str "~", V.ref a22]) := upd_same
    generalize upd H22 a23 (HO.lst [V.ref a13, V.ref a17, V.ref a18, V.str "a\n", V.str "~", V.ref a22]) = H23 at *
    replace g1 := s23 _ _ g1
    replace g2 := s23 _ _ g2
    replace g3 := s23 _ _ g3
    replace g4 := s23 _ _ g4
    replace g5 := s23 _ _ g5
    replace g6 := s23 _ _ g6
    replace g7 := s23 _ _ g7
    replace g8 := s23 _ _ g8
    replace g9 := s23 _ _ g9
    replace g10 := s23 _ _ g10
    replace g11 := s23 _ _ g11
    replace g12 := s23 _ _ g12
    replace g13 := s23 _ _ g13
    replace g14 := s23 _ _ g14
    replace g15 := s23 _ _ g15
    replace g16 := s23 _ _ g16
    replace g17 := s23 _ _ g17
    replace g18 := s23 _ _ g18
    replace g19 := s23 _ _ g19
    replace g20 := s23 _ _ g20
    replace g21 := s23 _ _ g21
    replace g22 := s23 _ _ g22
    have sm23 : Same H H23 := sm22.trans s23
    replace gd := s23 _ _ gd
    refine ⟨_, _, _, _, rfl, rfl, g10, g23, le_size (by simp), fun a24 h24 => ?_⟩
    have p24 := ((hst.same sm23).ne h24).1
    have z24 := sm23.free h24
    have s24 : Same H23 (upd H23 a24 (HO.lst ([V.non, V.bl true, V.bl false, V.int (-1), V.int 64, V.str "0", V.str "A", V.str "-", V.ref a1, V.ref a2, V.ref a3, V.ref a5, V.ref a6, V.ref a7, V.ref a8, V.ref a9, V.int (10 ^ (20 : Int).toNat)] ++ [V.ref a13, V.ref a17, V.ref a18, V.str "a\n", V.str "~", V.ref a22]))) := Same.new _ h24
    have g24 : upd H23 a24 (HO.lst ([V.non, V.bl true, V.bl false, V.int (-1), V.int 64, V.str "0", V.str "A", V.str "-", V.ref a1, V.ref a2, V.ref a3, V.ref a5, V.ref a6, V.ref a7, V.ref a8, V.ref a9, V.int (10 ^ (20 : Int).toNat)] ++ [V.ref a13, V.ref a17, V.ref a18, V.str "a\n", V.str "~", V.ref a22])) a24 = some (HO.lst ([V.non, V.bl true, V.bl false, V.int (-1), V.int 64, V.str "0", V.str "A", V.str "-", V.ref a1, V.ref a2, V.ref a3, V.ref a5, V.ref a6, V.ref a7, V.ref a8, V.ref a9, V.int (10 ^ (20 : Int).toNat)] ++ [V.ref a13, V.ref a17, V.ref a18, V.str "a\n", V.str "~", V.ref a22])) := upd_same
    generalize upd H23 a24 (HO.lst ([V.non, V.bl true, V.bl false, V.int (-1), V.int 64, V.str "0", V.str "A", V.str "-", V.ref a1, V.ref a2, V.ref a3, V.ref a5, V.ref a6, V.ref a7, V.ref a8, V.ref a9, V.int (10 ^ (20 : Int).toNat)] ++ [V.ref a13, V.ref a17, V.ref a18, V.str "a\n", V.str "~", V.ref a22])) = H24 at *
    replace g1 := s24 _ _ g1
    replace g2 := s24 _ _ g2
    replace g3 := s24 _ _ g3
    replace g4 := s24 _ _ g4
    replace g5 := s24 _ _ g5
    replace g6 := s24 _ _ g6
    replace g7 := s24 _ _ g7
    replace g8 := s24 _ _ g8
    replace g9 := s24 _ _ g9
    replace g10 := s24 _ _ g10
    replace g11 := s24 _ _ g11
    replace g12 := s24 _ _ g12
    replace g13 := s24 _ _ g13
    replace g14 := s24 _ _ g14
    replace g15 := s24 _ _ g15
    replace g16 := s24 _ _ g16
    replace g17 := s24 _ _ g17
    replace g18 := s24 _ _ g18
    replace g19 := s24 _ _ g19
    replace g20 := s24 _ _ g20
    replace g21 := s24 _ _ g21
    replace g22 := s24 _ _ g22
    replace g23 := s24 _ _ g23
    have sm24 : Same H H24 := sm23.trans s24
    replace gd := s24 _ _ gd
    refine ⟨_, rfl, _, rfl, _, rfl, a24, _, rfl, .inl (SqL.of g24), p, l, 23, rfl, hst.same sm24, by decide, by decide, fun H' r x1 st1 r0 r1 => ?_⟩
    obtain ⟨v, hv, hat⟩ := atI_mem (xs := [V.non, V.bl true, V.bl false, V.int (-1), V.int 64, V.str "0", V.str "A", V.str "-", V.ref a1, V.ref a2, V.ref a3, V.ref a5, V.ref a6, V.ref a7, V.ref a8, V.ref a9, V.int (10 ^ (20 : Int).toNat)] ++ [V.ref a13, V.ref a17, V.ref a18, V.str "a\n", V.str "~", V.ref a22]) r0 (by simpa using r1)
    refine ⟨_, _, _, v, rfl, rfl, SqL.of (x1 _ _ p24 g24), hat, ?_⟩
    replace g1 := x1 _ _ p1 g1
    replace g2 := x1 _ _ p2 g2
    replace g3 := x1 _ _ p3 g3
    replace g4 := x1 _ _ p4 g4
    replace g5 := x1 _ _ p5 g5
    replace g6 := x1 _ _ p6 g6
    replace g7 := x1 _ _ p7 g7
    replace g8 := x1 _ _ p8 g8
    replace g9 := x1 _ _ p9 g9
    replace g10 := x1 _ _ p10 g10
    replace g11 := x1 _ _ p11 g11
    replace g12 := x1 _ _ p12 g12
    replace g13 := x1 _ _ p13 g13
    replace g14 := x1 _ _ p14 g14
    replace g15 := x1 _ _ p15 g15
    replace g16 := x1 _ _ p16 g16
    replace g17 := x1 _ _ p17 g17
    replace g18 := x1 _ _ p18 g18
    replace g19 := x1 _ _ p19 g19
    replace g20 := x1 _ _ p20 g20
    replace g21 := x1 _ _ p21 g21
    replace g22 := x1 _ _ p22 g22
    replace g23 := x1 _ _ p23 g23
    replace g24 := x1 _ _ p24 g24
    replace gd := x1 _ _ pd gd
    have all : ∀ v ∈ ([V.non, V.bl true, V.bl false, V.int (-1), V.int 64, V.str "0", V.str "A", V.str "-", V.ref a1, V.ref a2, V.ref a3, V.ref a5, V.ref a6, V.ref a7, V.ref a8, V.ref a9, V.int (10 ^ (20 : Int).toNat)] ++ [V.ref a13, V.ref a17, V.ref a18, V.str "a\n", V.str "~", V.ref a22] : List V), NewT K p H H' v := by
      have o0 : NewT K p H H' (V.non) := ⟨(fun i e => nomatch e), none, none, fun H2 x2 => ⟨(.other (.x (.base .non)) (kit_ty (by decide +kernel)) (fun i e => nomatch e)), (.non (.x (.base .non)) (kit_no (kit_ty (by decide +kernel)) (kit_ty (by decide +kernel)))), (.non (.x (.base .non)) (kit_ty (by decide +kernel)))⟩⟩
      have o1 : NewT K p H H' (V.bl true) := ⟨(fun i e => nomatch e), none, none, fun H2 x2 => ⟨(.bl _), (.non (.x (.base (.bl _))) (kit_no (kit_ty (by decide +kernel)) (kit_ty (by decide +kernel)))), (.non (.x (.base (.bl _))) (kit_ty (by decide +kernel)))⟩⟩
      have o2 : NewT K p H H' (V.bl false) := ⟨(fun i e => nomatch e), none, none, fun H2 x2 => ⟨(.bl _), (.non (.x (.base (.bl _))) (kit_no (kit_ty (by decide +kernel)) (kit_ty (by decide +kernel)))), (.non (.x (.base (.bl _))) (kit_ty (by decide +kernel)))⟩⟩
      have o3 : NewT K p H H' (V.int (-1)) := ⟨(fun i e => by cases e; decide), none, none, fun H2 x2 => ⟨(.int _), (.non (.x (.base (.int _))) (kit_no (kit_ty (by decide +kernel)) (kit_ty (by decide +kernel)))), (.non (.x (.base (.int _))) (kit_ty (by decide +kernel)))⟩⟩
      have o4 : NewT K p H H' (V.int 64) := ⟨(fun i e => by cases e; decide), none, none, fun H2 x2 => ⟨(.int _), (.non (.x (.base (.int _))) (kit_no (kit_ty (by decide +kernel)) (kit_ty (by decide +kernel)))), (.non (.x (.base (.int _))) (kit_ty (by decide +kernel)))⟩⟩
      have o5 : NewT K p H H' (V.str "0") := ⟨(fun i e => nomatch e), none, none, fun H2 x2 => ⟨(.other (.x (.base (.str _))) (kit_ty (by decide +kernel)) (fun i e => nomatch e)), (.non (.x (.base (.str _))) (kit_no (kit_ty (by decide +kernel)) (kit_ty (by decide +kernel)))), (.non (.x (.base (.str _))) (kit_ty (by decide +kernel)))⟩⟩
      have o6 : NewT K p H H' (V.str "A") := ⟨(fun i e => nomatch e), none, none, fun H2 x2 => ⟨(.other (.x (.base (.str _))) (kit_ty (by decide +kernel)) (fun i e => nomatch e)), (.non (.x (.base (.str _))) (kit_no (kit_ty (by decide +kernel)) (kit_ty (by decide +kernel)))), (.non (.x (.base (.str _))) (kit_ty (by decide +kernel)))⟩⟩
      have o7 : NewT K p H H' (V.str "-") := ⟨(fun i e => nomatch e), none, none, fun H2 x2 => ⟨(.other (.x (.base (.str _))) (kit_ty (by decide +kernel)) (fun i e => nomatch e)), (.non (.x (.base (.str _))) (kit_no (kit_ty (by decide +kernel)) (kit_ty (by decide +kernel)))), (.non (.x (.base (.str _))) (kit_ty (by decide +kernel)))⟩⟩
      have o8 : NewT K p H H' (V.ref a1) := ⟨(fun i e => nomatch e), some [], none, fun H2 x2 => ⟨(.other (.x (.base (.tup (x2 _ _ p1 z1 g1)))) (kit_ty (by decide +kernel)) (fun i e => nomatch e)), (.seq (.inr (x2 _ _ p1 z1 g1)) allIt_nil (by simp)), (.len (x2 _ _ p1 z1 g1) (by decide))⟩⟩
      have o9 : NewT K p H H' (V.ref a2) := ⟨(fun i e => nomatch e), some [], none, fun H2 x2 => ⟨(.other (.x (.base (.lst (x2 _ _ p2 z2 g2)))) (kit_ty (by decide +kernel)) (fun i e => nomatch e)), (.seq (.inl (x2 _ _ p2 z2 g2)) allIt_nil (by simp)), (.non (.x (.base (.lst (x2 _ _ p2 z2 g2)))) (kit_ty (by decide +kernel)))⟩⟩
      have o10 : NewT K p H H' (V.ref a3) := ⟨(fun i e => nomatch e), none, none, fun H2 x2 => ⟨(.other (.x (.base (.dK (x2 _ _ p3 z3 g3)))) (kit_ty (by decide +kernel)) (fun i e => nomatch e)), (.non (.x (.base (.dK (x2 _ _ p3 z3 g3)))) (kit_no (kit_ty (by decide +kernel)) (kit_ty (by decide +kernel)))), (.non (.x (.base (.dK (x2 _ _ p3 z3 g3)))) (kit_ty (by decide +kernel)))⟩⟩
      have o11 : NewT K p H H' (V.ref a5) := ⟨(fun i e => nomatch e), some [V.ref a4], none, fun H2 x2 => ⟨(.other (.x (.base (.lst (x2 _ _ p5 z5 g5)))) (kit_ty (by decide +kernel)) (fun i e => nomatch e)), (.seq (.inl (x2 _ _ p5 z5 g5)) (allIt_cons (.other (.x (.base (.lst (x2 _ _ p4 z4 g4)))) (kit_ty (by decide +kernel)) (fun i e => nomatch e)) allIt_nil) (by simp)), (.non (.x (.base (.lst (x2 _ _ p5 z5 g5)))) (kit_ty (by decide +kernel)))⟩⟩
      have o12 : NewT K p H H' (V.ref a6) := ⟨(fun i e => nomatch e), some [V.int 0, V.int 1, V.int 2], some (V.int 0, none, none), fun H2 x2 => ⟨(.other (.x (.base (.tup (x2 _ _ p6 z6 g6)))) (kit_ty (by decide +kernel)) (fun i e => nomatch e)), (.seq (.inr (x2 _ _ p6 z6 g6)) (allIt_cons (.int _) (allIt_cons (.int _) (allIt_cons (.int _) allIt_nil))) (by simp)), (.three (x2 _ _ p6 z6 g6) (.int _) (.non (.x (.base (.int _))) (kit_no (kit_ty (by decide +kernel)) (kit_ty (by decide +kernel)))) (.non (.x (.base (.int _))) (kit_no (kit_ty (by decide +kernel)) (kit_ty (by decide +kernel)))))⟩⟩
      have o13 : NewT K p H H' (V.ref a7) := ⟨(fun i e => nomatch e), none, none, fun H2 x2 => ⟨(.other (.x (.base (.dK (x2 _ _ p7 z7 g7)))) (kit_ty (by decide +kernel)) (fun i e => nomatch e)), (.non (.x (.base (.dK (x2 _ _ p7 z7 g7)))) (kit_no (kit_ty (by decide +kernel)) (kit_ty (by decide +kernel)))), (.non (.x (.base (.dK (x2 _ _ p7 z7 g7)))) (kit_ty (by decide +kernel)))⟩⟩
      have o14 : NewT K p H H' (V.ref a8) := ⟨(fun i e => nomatch e), some [V.non], none, fun H2 x2 => ⟨(.other (.x (.base (.lst (x2 _ _ p8 z8 g8)))) (kit_ty (by decide +kernel)) (fun i e => nomatch e)), (.seq (.inl (x2 _ _ p8 z8 g8)) (allIt_cons (.other (.x (.base .non)) (kit_ty (by decide +kernel)) (fun i e => nomatch e)) allIt_nil) (by simp)), (.non (.x (.base (.lst (x2 _ _ p8 z8 g8)))) (kit_ty (by decide +kernel)))⟩⟩
      have o15 : NewT K p H H' (V.ref a9) := ⟨(fun i e => nomatch e), some [V.str "a"], none, fun H2 x2 => ⟨(.other (.x (.base (.tup (x2 _ _ p9 z9 g9)))) (kit_ty (by decide +kernel)) (fun i e => nomatch e)), (.seq (.inr (x2 _ _ p9 z9 g9)) (allIt_cons (.other (.x (.base (.str _))) (kit_ty (by decide +kernel)) (fun i e => nomatch e)) allIt_nil) (by simp)), (.len (x2 _ _ p9 z9 g9) (by decide))⟩⟩
      have o16 : NewT K p H H' (V.int (10 ^ (20 : Int).toNat)) := ⟨(fun i e => by cases e; decide), none, none, fun H2 x2 => ⟨(.int _), (.non (.x (.base (.int _))) (kit_no (kit_ty (by decide +kernel)) (kit_ty (by decide +kernel)))), (.non (.x (.base (.int _))) (kit_ty (by decide +kernel)))⟩⟩
      have o17 : NewT K p H H' (V.ref a13) := ⟨(fun i e => nomatch e), none, none, fun H2 x2 => ⟨(.other (.x (.base (.ins (x2 _ _ p13 z13 g13) T.cl_Loom T.ic_Loom T.ig T.it T.im_Loom))) (kit_cls (by decide +kernel) T.si_Loom) (fun i e => nomatch e)), (.non (.x (.base (.ins (x2 _ _ p13 z13 g13) T.cl_Loom T.ic_Loom T.ig T.it T.im_Loom))) (kit_no (kit_cls (by decide +kernel) T.sl_Loom) (kit_cls (by decide +kernel) T.st_Loom))), (.non (.x (.base (.ins (x2 _ _ p13 z13 g13) T.cl_Loom T.ic_Loom T.ig T.it T.im_Loom))) (kit_cls (by decide +kernel) T.st_Loom))⟩⟩
      have o18 : NewT K p H H' (V.ref a17) := ⟨(fun i e => nomatch e), some [V.ref a16], none, fun H2 x2 => ⟨(.other (.x (.base (.lst (x2 _ _ p17 z17 g17)))) (kit_ty (by decide +kernel)) (fun i e => nomatch e)), (.seq (.inl (x2 _ _ p17 z17 g17)) (allIt_cons (.other (.x (.base (.ins (x2 _ _ p16 z16 g16) T.cl_Loom T.ic_Loom T.ig T.it T.im_Loom))) (kit_cls (by decide +kernel) T.si_Loom) (fun i e => nomatch e)) allIt_nil) (by simp)), (.non (.x (.base (.lst (x2 _ _ p17 z17 g17)))) (kit_ty (by decide +kernel)))⟩⟩
      have o19 : NewT K p H H' (V.ref a18) := ⟨(fun i e => nomatch e), none, none, fun H2 x2 => ⟨(.other (.exd (x2 _ _ p18 z18 g18) (x2 _ _ pd zd gd) T.E_InvalidLoom) (kit_cls (by decide +kernel) T.si_InvalidLoom) (fun i e => nomatch e)), (.non (.exd (x2 _ _ p18 z18 g18) (x2 _ _ pd zd gd) T.E_InvalidLoom) (kit_no (kit_cls (by decide +kernel) T.sl_InvalidLoom) (kit_cls (by decide +kernel) T.st_InvalidLoom))), (.non (.exd (x2 _ _ p18 z18 g18) (x2 _ _ pd zd gd) T.E_InvalidLoom) (kit_cls (by decide +kernel) T.st_InvalidLoom))⟩⟩
      have o20 : NewT K p H H' (V.str "a\n") := ⟨(fun i e => nomatch e), none, none, fun H2 x2 => ⟨(.other (.x (.base (.str _))) (kit_ty (by decide +kernel)) (fun i e => nomatch e)), (.non (.x (.base (.str _))) (kit_no (kit_ty (by decide +kernel)) (kit_ty (by decide +kernel)))), (.non (.x (.base (.str _))) (kit_ty (by decide +kernel)))⟩⟩
      have o21 : NewT K p H H' (V.str "~") := ⟨(fun i e => nomatch e), none, none, fun H2 x2 => ⟨(.other (.x (.base (.str _))) (kit_ty (by decide +kernel)) (fun i e => nomatch e)), (.non (.x (.base (.str _))) (kit_no (kit_ty (by decide +kernel)) (kit_ty (by decide +kernel)))), (.non (.x (.base (.str _))) (kit_ty (by decide +kernel)))⟩⟩
      have o22 : NewT K p H H' (V.ref a22) := ⟨(fun i e => nomatch e), some [V.ref a21], none, fun H2 x2 => ⟨(.other (.x (.base (.lst (x2 _ _ p22 z22 g22)))) (kit_ty (by decide +kernel)) (fun i e => nomatch e)), (.seq (.inl (x2 _ _ p22 z22 g22)) (allIt_cons (.other (.x (.base (.lst (x2 _ _ p21 z21 g21)))) (kit_ty (by decide +kernel)) (fun i e => nomatch e)) allIt_nil) (by simp)), (.non (.x (.base (.lst (x2 _ _ p22 z22 g22)))) (kit_ty (by decide +kernel)))⟩⟩
      exact (AllT.cons o0 (AllT.cons o1 (AllT.cons o2 (AllT.cons o3 (AllT.cons o4 (AllT.cons o5 (AllT.cons o6 (AllT.cons o7 (AllT.cons o8 (AllT.cons o9 (AllT.cons o10 (AllT.cons o11 (AllT.cons o12 (AllT.cons o13 (AllT.cons o14 (AllT.cons o15 (AllT.cons o16 (AllT.cons o17 (AllT.cons o18 (AllT.cons o19 (AllT.cons o20 (AllT.cons o21 (AllT.cons o22 AllT.nil)))))))))))))))))))))))
    exact k H' v (Ex.trans (Same.ex sm24) x1) st1 (all v hv)
end
end J


set_option Elab.async false
set_option linter.all false
set_option maxRecDepth 100000
set_option maxHeartbeats 4000000
namespace J
open PySem L2
def BadSt (K : PySem.W.Frag) (H : Hp) (y : V) : Prop := It K H y ∧ ∀ i, y = .int i → ¬ (0 ≤ i ∧ i ≤ 63)
def spStX (K : PySem.W.Frag) (C : Addr) : Sp := fun vs H Q E => ∃ y, vs = [y] ∧ ((∃ g : Nat, y = .int (g : Nat) ∧ g ≤ 63 ∧ Q .non H) ∨ (BadSt K H y ∧ E (.ref C) none H))
/-- what is no text over the signs -/
inductive BadTx (K : PySem.W.Frag) (sg : List Nat) (H : Hp) : V → Prop
  | non {x : V} {tv : Value} (h : TyZ K H x tv) (n : PySem.W.kitOne K tv (.type "str") = some false) : BadTx K sg H x
  | str {t : List Nat} (hl : t.length ≤ 100000) (n : ¬ (t.length ≤ 2000 ∧ ∀ c ∈ t, c ∈ sg)) : BadTx K sg H (.str (SX.S t))
theorem BadTx.same {K : PySem.W.Frag} {sg : List Nat} {H H' : Hp} {x : V} (h : BadTx K sg H x) (s : Same H H') : BadTx K sg H' x := by
  cases h with
  | non h n => exact .non (TyZ_same h s) n
  | str hl n => exact .str hl n
def spOverG (K : PySem.W.Frag) : Sp := fun vs H Q _ => ∃ (sg : List Nat) (x : V), vs = [.str (SX.S sg), x, .int 0, .int 2000] ∧ ((BadTx K sg H x ∧ ∀ H', Same H H' → Q (.bl false) H') ∨ ∃ u : List Nat, x = .str (SX.S u) ∧ u.length ≤ 2000 ∧ (∀ c ∈ u, c ∈ sg) ∧ ∀ H', Same H H' → Q (.bl true) H')
def spTxX (K : PySem.W.Frag) (C : Addr) : Sp := fun vs H Q E => ∃ (sg : List Nat) (x : V), vs = [.str (SX.S sg), x] ∧ ((BadTx K sg H x ∧ ∀ H', Same H H' → E (.ref C) none H') ∨ ∃ u : List Nat, x = .str (SX.S u) ∧ u.length ≤ 2000 ∧ (∀ c ∈ u, c ∈ sg) ∧ ∀ H', Same H H' → Q .non H')
section
variable {P : Program} {w : World} {K : PySem.W.Frag} {mg : Str → Option Value} {base : Heap}
theorem ok_check_stateX (T : Tx K mg) : FnOk P w K mg base (L2.CX P w) 2 T.f_check_state T.fd_check_state P_check_state (spStX K T.C_UnknownState) := by
  have G_is_number : FnOk P w K mg base CX0 1 T.f_is_number T.fd_is_number P_is_number (spNumG K) := ok_is_numberG T
  refine T.F_check_state.okX sc_check_state (fun vs H Q E h => ?_) (fun cdv A outer s H vs Q E hr h => ?_)
  · obtain ⟨x, rfl, _⟩ := h
    rfl
  · obtain ⟨y, rfl, h⟩ := h
    refine ⟨_, (pss_one (ps_if (pt_not (pt_val (pe_call G_is_number (hr.mono (by decide)) rfl T.m_is_number T.F_is_number.kp T.b_is_number .nil pass0 (pa_cons (pv 0) (pa_cons pe_int (pa_cons (pe_glob (v := V.int 63) rfl T.g_LAST_STATE ⟨_, rfl⟩) pa_nil)))))) (pss_one (ps_raise rfl (takes_of rfl rfl rfl rfl) (pmk_own0 PySem.F.excBase_Exception T.in_UnknownState T.g_UnknownState T.kc_UnknownState (raises_own T.E_UnknownState.hs T.ty_UnknownState) rfl))) pss_nil)), ?_⟩
    rcases h with ⟨g, rfl, hg, k⟩ | ⟨⟨hi, hn⟩, k⟩
    · refine ⟨_, rfl, _, 63, rfl, .int _, fun b hb => ⟨b, rfl, ?_⟩⟩
      rw [hb.mpr ⟨_, rfl, by omega, by omega⟩]
      exact iteF k
    · refine ⟨_, rfl, y, 63, rfl, hi, fun b hb => ⟨b, rfl, ?_⟩⟩
      cases b with
      | true => obtain ⟨i, e, h0, h1⟩ := hb.mp rfl; exact absurd ⟨h0, h1⟩ (hn i e)
      | false => exact iteT k
theorem ok_is_string_overG (T : Tx K mg) : FnOk P w K mg base CX0 1 T.f_is_string_over T.fd_is_string_over P_is_string_over (spOverG K) := by
  refine T.F_is_string_over.ok sc_is_string_over (fun vs H Q E h => ?_) (fun cdv A outer s H vs Q E hr h => ?_)
  · obtain ⟨sg, x, rfl, _⟩ := h
    rfl
  · obtain ⟨sg, x, rfl, ho⟩ := h
    refine ⟨_, (pss_cons (ps_if (PW.pt (pw_or (pt_not (pt_val (pe_callB (call_isiZ (K := K) rfl) rfl T.n_isinstance (by decide +kernel) (pa_cons (pv 1) (pa_cons (pe_bltn (v := V.ty "str") (u := .type "str") rfl T.n_str (by decide +kernel) rfl) pa_nil))))) (pw_or1 (pt_not (pt_chain op_le op_le (pv 2) (pe_callB call_len_str rfl T.n_len (by decide +kernel) (pa_cons (pv 1) pa_nil)) (pv 3)))))) (pss_one (ps_ret pe_bl)) pss_nil)
        (pss_one (ps_ret (pe_callB (cr_allK (K := K) rfl rfl) rfl T.n_all (by decide +kernel) (pa_cons (pe_lc (own := [("sign", 4)]) (g := (gName 4)) rfl sc_is_string_over.nd (pi_str (pv 1)) (blkOk_by (N := N_is_string_over) (sc := defScope s_is_string_over) (by decide +kernel)) (fun _ _ _ _ _ => (pg_name (i := 4) sc_is_string_over.nd rfl (Or.inl rfl))) (fun _ _ _ _ _ => pts_nil) (fun _ _ _ _ _ => (pe_cmpR op_in_sign (pv 4) (pv 0) rfl))) pa_nil))))), ?_⟩
    have key : (∃ tv, TyZ K H x tv ∧ PySem.W.kitOne K tv (.type "str") = some false ∧ ∀ H', Same H H' → Q (.bl false) H') ∨ ∃ u : List Nat, x = .str (SX.S u) ∧ u.length ≤ 100000 ∧ ∀ H', Same H H' → Q (.bl (decide (u.length ≤ 2000) && u.all fun c => decide (c ∈ sg))) H' := by
      rcases ho with ⟨hb, k⟩ | ⟨u, rfl, hul, huc, k⟩
      · cases hb with
        | @non x tv h n => exact .inl ⟨tv, h, n, k⟩
        | @str t hl n =>
          refine .inr ⟨t, rfl, hl, fun H' s => ?_⟩
          have e : (decide (t.length ≤ 2000) && t.all fun c => decide (c ∈ sg)) = false := by
            cases q : (decide (t.length ≤ 2000) && t.all fun c => decide (c ∈ sg)) with
            | false => rfl
            | true =>
              rw [Bool.and_eq_true, decide_eq_true_iff, List.all_eq_true] at q
              exact absurd ⟨q.1, fun c hc => of_decide_eq_true (q.2 c hc)⟩ n
          rw [e]
          exact k H' s
      · refine .inr ⟨u, rfl, by omega, fun H' s => ?_⟩
        rw [decide_eq_true hul, show (u.all fun c => decide (c ∈ sg)) = true from List.all_eq_true.mpr fun c hc => decide_eq_true (huc c hc)]
        exact k H' s
    rcases key with ⟨tv, h, n, k⟩ | ⟨u, rfl, hul, k⟩
    · exact ⟨_, rfl, _, _, _, _, false, rfl, .ty "str", h, n, false, rfl, k H (Same.refl H)⟩
    · have hl : (SX.S u).length ≤ sizeLine := le_size (by rw [SX.S_len]; omega)
      refine ⟨_, rfl, _, _, _, _, true, rfl, .ty "str", .x (.base (.str _)), kit_ty (by decide +kernel), true, rfl, ?_⟩
      have e : ((SX.S u).length : Int) = u.length := by rw [SX.S_len]
      refine ⟨_, rfl, _, rfl, _, rfl, hl, _, _, rfl, rfl, true, congrArg V.bl (decide_eq_true (by rw [e]; omega)), ?_⟩
      refine ⟨_, rfl, _, _, rfl, rfl, decide (u.length ≤ 2000), congrArg V.bl (by rw [e]; exact decide_eq_decide.mpr (by omega)), ?_⟩
      by_cases c : u.length ≤ 2000
      · rw [decide_eq_true c, Bool.true_and] at k
        rw [decide_eq_true c]
        refine ⟨_, rfl, _, rfl, fun D hD => lc_it (walk_str (z := SX.S u)) (fun i H' => H' D = some (.lst (((u.take i).map fun c => decide (c ∈ sg)).map V.bl)) ∧ Same H H') ⟨upd_same, Same.new _ hD⟩ (fun _ _ _ _ => trivial) ?_ ?_⟩
        · rintro i x H1 H2 hi ⟨hDl, sm⟩ ⟨rfl, c, hc, rfl⟩
          have hcu : u[i]? = some c := by simpa using hc
          refine ⟨rfl, _, rfl, _, rfl, c, _, rfl, rfl, _, hDl, lt_size (by simp; omega), ?_, sm.updNew hD⟩
          rw [upd_same, ← take_snoc hcu, List.map_append, List.map_append]
          have e2 : decide (c ∈ (SX.S sg).cps.toList) = decide (c ∈ sg) := by simp
          first | rfl | (rw [e2]; rfl)
        · rintro H1 ⟨hDl, sm⟩
          refine ⟨D, _, rfl, SqL.of hDl, ?_⟩
          have e3 : (SX.S u).cps.size = u.length := SX.S_len u
          rw [e3, List.take_length, List.all_map]
          exact k _ sm
      · rw [decide_eq_false c, Bool.false_and] at k
        rw [decide_eq_false c]
        exact k _ (Same.refl H)
theorem ok_check_textX (T : Tx K mg) : FnOk P w K mg base (L2.CX P w) 2 T.f_check_text T.fd_check_text P_check_text (spTxX K T.C_InvalidText) := by
  have G_is_string_over : FnOk P w K mg base CX0 1 T.f_is_string_over T.fd_is_string_over P_is_string_over (spOverG K) := ok_is_string_overG T
  refine T.F_check_text.okX sc_check_text (fun vs H Q E h => ?_) (fun cdv A outer s H vs Q E hr h => ?_)
  · obtain ⟨sg, x, rfl, _⟩ := h
    rfl
  · obtain ⟨sg, x, rfl, h⟩ := h
    refine ⟨_, (pss_one (ps_if (pt_not (pt_val (pe_call G_is_string_over (hr.mono (by decide)) rfl T.m_is_string_over T.F_is_string_over.kp T.b_is_string_over .nil pass0 (pa_cons (pv 0) (pa_cons (pv 1) (pa_cons pe_int (pa_cons (pe_glob (v := V.int 2000) rfl T.g_LONGEST_TEXT ⟨_, rfl⟩) pa_nil))))))) (pss_one (ps_raise rfl (takes_of rfl rfl rfl rfl) (pmk_own0 PySem.F.excBase_Exception T.in_InvalidText T.g_InvalidText T.kc_InvalidText (raises_own T.E_InvalidText.hs T.ty_InvalidText) rfl))) pss_nil)), ?_⟩
    rcases h with ⟨hb, k⟩ | ⟨u, rfl, h1, h2, k⟩
    · exact ⟨_, rfl, _, rfl, sg, x, rfl, .inl ⟨hb, fun H' s => ⟨false, rfl, iteT (k H' s)⟩⟩⟩
    · exact ⟨_, rfl, _, rfl, sg, _, rfl, .inr ⟨u, rfl, h1, h2, fun H' s => ⟨true, rfl, iteF (k H' s)⟩⟩⟩
end
end J


set_option Elab.async false
set_option linter.all false
set_option maxRecDepth 100000
set_option maxHeartbeats 4000000
namespace J
open PySem L2
def entO (e : Ent) : HO := .tup [.int (e.1 : Int), .int (e.2.1 : Int), .int (e.2.2 : Int)]
def EntsAt (H : Hp) (vs : List V) (es : List Ent) : Prop := vs.length = es.length ∧ ∀ (i : Nat) e, es[i]? = some e → ∃ t, vs[i]? = some (.ref t) ∧ H t = some (entO e)
def TupP (H H' : Hp) : Prop := ∀ t xs, H t = some (.tup xs) → H' t = some (.tup xs)
theorem TupP.same {H H' : Hp} (s : Same H H') : TupP H H' := fun _ _ h => s _ _ h
theorem TupP.trans {H H1 H2 : Hp} (a : TupP H H1) (b : TupP H1 H2) : TupP H H2 := fun t xs h => b t xs (a t xs h)
theorem TupP.upd {H : Hp} {a : Addr} {xs : List V} {o : HO} (h : H a = some (.lst xs)) : TupP H (upd H a o) := fun t ys e => by
  rw [upd_ne (fun z => by rw [z, h] at e; cases e)]; exact e
theorem EntsAt.to {H H' : Hp} {vs : List V} {es : List Ent} (h : EntsAt H vs es) (s : TupP H H') : EntsAt H' vs es := ⟨h.1, fun i e he => by
  obtain ⟨t, h1, h2⟩ := h.2 i e he
  exact ⟨t, h1, s _ _ h2⟩⟩
theorem EntsAt.nil (H : Hp) : EntsAt H [] [] := ⟨rfl, fun i e h => by simp at h⟩
theorem EntsAt.append {H : Hp} {us vs : List V} {es fs : List Ent} (h : EntsAt H us es) (g : EntsAt H vs fs) : EntsAt H (us ++ vs) (es ++ fs) := by
  refine ⟨by simp [h.1, g.1], fun i a e => ?_⟩
  by_cases hi : i < es.length
  · rw [List.getElem?_append_left hi] at e
    rw [List.getElem?_append_left (by rw [h.1]; exact hi)]
    exact h.2 i a e
  · rw [List.getElem?_append_right (by omega)] at e
    rw [List.getElem?_append_right (by rw [h.1]; omega), h.1]
    exact g.2 _ a e
theorem EntsAt.one {H : Hp} {t : Addr} {e : Ent} (h : H t = some (entO e)) : EntsAt H [.ref t] [e] := ⟨rfl, fun i f hf => by
  cases i with
  | zero => simp at hf; subst hf; exact ⟨t, rfl, h⟩
  | succ j => simp at hf⟩
theorem EntsAt.unsnoc {H : Hp} {vs : List V} {es : List Ent} {e : Ent} (h : EntsAt H vs (es ++ [e])) : ∃ us t, vs = us ++ [.ref t] ∧ EntsAt H us es ∧ H t = some (entO e) := by
  have hl := h.1
  rw [List.length_append, List.length_singleton] at hl
  obtain ⟨t, h1, h2⟩ := h.2 es.length e (by simp)
  have hne : vs ≠ [] := fun z => by rw [z] at hl; simp at hl
  refine ⟨vs.dropLast, t, ?_, ⟨by rw [List.length_dropLast]; omega, fun i f hf => ?_⟩, h2⟩
  · have e1 := List.dropLast_concat_getLast hne
    have e2 : vs.getLast hne = .ref t := by
      rw [List.getLast_eq_getElem]
      have : vs[vs.length - 1]? = some (.ref t) := by rw [hl]; exact h1
      rw [List.getElem?_eq_getElem (by omega)] at this
      exact Option.some.inj this
    rw [e2] at e1
    exact e1.symm
  · have hi := (List.getElem?_eq_some_iff.mp hf).1
    obtain ⟨u, q1, q2⟩ := h.2 i f (by rw [List.getElem?_append_left hi]; exact hf)
    refine ⟨u, ?_, q2⟩
    rw [List.getElem?_dropLast, if_pos (by omega)]
    exact q1
/-- rows as lists: each list is new -/
def RowsAt (H : Hp) (P : Addr → Prop) (vs : List V) (rs : List (List Nat)) : Prop := vs.length = rs.length ∧ ∀ (i : Nat) r, rs[i]? = some r → ∃ a, vs[i]? = some (.ref a) ∧ H a = some (.lst (nats r)) ∧ P a
theorem RowsAt.nil (H : Hp) (P : Addr → Prop) : RowsAt H P [] [] := ⟨rfl, fun i e h => by simp at h⟩
theorem RowsAt.snoc {H : Hp} {P : Addr → Prop} {us : List V} {rs : List (List Nat)} (h : RowsAt H P us rs) {a : Addr} {r : List Nat} (ha : H a = some (.lst (nats r))) (p : P a) : RowsAt H P (us ++ [.ref a]) (rs ++ [r]) := by
  refine ⟨by simp [h.1], fun i x e => ?_⟩
  by_cases hi : i < rs.length
  · rw [List.getElem?_append_left hi] at e
    rw [List.getElem?_append_left (by rw [h.1]; exact hi)]
    exact h.2 i x e
  · rw [List.getElem?_append_right (by omega)] at e
    rw [List.getElem?_append_right (by rw [h.1]; omega), h.1]
    have h0 : i - rs.length = 0 := by
      have := (List.getElem?_eq_some_iff.mp e).1
      rw [List.length_singleton] at this
      omega
    rw [h0] at e ⊢
    simp at e
    subst e
    exact ⟨a, rfl, ha, p⟩
theorem RowsAt.to {H H' : Hp} {P : Addr → Prop} {us : List V} {rs : List (List Nat)} (h : RowsAt H P us rs) (s : ∀ a o, P a → H a = some o → H' a = some o) : RowsAt H' P us rs := ⟨h.1, fun i r e => by
  obtain ⟨a, h1, h2, h3⟩ := h.2 i r e
  exact ⟨a, h1, s _ _ h3 h2, h3⟩⟩
theorem RowsAt.weak {H : Hp} {P P' : Addr → Prop} {us : List V} {rs : List (List Nat)} (h : RowsAt H P us rs) (s : ∀ a, P a → P' a) : RowsAt H P' us rs := ⟨h.1, fun i r e => by
  obtain ⟨a, h1, h2, h3⟩ := h.2 i r e
  exact ⟨a, h1, h2, s _ h3⟩⟩
def entM (n : Nat) (W : List Ent) : Nat := (W.map fun e => 201 ^ (n - e.2.1)).sum
theorem entM_append (n : Nat) (W W' : List Ent) : entM n (W ++ W') = entM n W + entM n W' := by
  unfold entM
  rw [List.map_append, List.sum_append]
theorem entM_const (n k end_ : Nat) (l : List Nat) : entM n (l.map fun c => (k, end_, c)) = l.length * 201 ^ (n - end_) := by
  induction l with
  | nil => simp [entM]
  | cons a l ih =>
    have : entM n ((a :: l).map fun c => (k, end_, c)) = 201 ^ (n - end_) + entM n (l.map fun c => (k, end_, c)) := rfl
    rw [this, ih, List.length_cons, Nat.succ_mul]
    omega
theorem entM_less {n at_ end_ k m : Nat} {l : List Nat} (hl : l.length ≤ 200) (h1 : at_ < end_) (h2 : end_ ≤ n) (W : List Ent) (i : Nat) : entM n (W ++ l.map fun c => (k, end_, c)) < entM n (W ++ [(m, at_, i)]) := by
  rw [entM_append, entM_append, entM_const]
  have e1 : entM n [(m, at_, i)] = 201 ^ (n - at_) := by simp [entM]
  rw [e1]
  have e2 : 201 ^ (n - at_) = 201 ^ (n - at_ - 1) * 201 := by
    rw [← Nat.pow_succ]
    congr 1
    omega
  have e3 : 201 ^ (n - end_) ≤ 201 ^ (n - at_ - 1) := Nat.pow_le_pow_right (by omega) (by omega)
  have e4 : 0 < 201 ^ (n - at_ - 1) := Nat.pow_pos (by omega)
  have e5 : l.length * 201 ^ (n - end_) ≤ 200 * 201 ^ (n - at_ - 1) := Nat.mul_le_mul hl e3
  omega
theorem OkW.wd {sg : List Nat} {as : List Arc} (h : OkW sg as) : Wd as := fun a ha => (h.all.2 a ha).2.1
/-- from state g at the place n on: the arcs that alone lead on -/
inductive Srr (as : List Arc) (t : List Nat) : Nat → Nat → List Nat → Prop
  | stop {n g : Nat} : (t.length ≤ n ∨ (liv as true (t.drop n) g).length ≠ 1) → Srr as t n g []
  | go {n g i : Nat} {a : Arc} {row : List Nat} : n < t.length → liv as true (t.drop n) g = [i] → as[i]? = some a → Srr as t (n + a.2.1.length) a.2.2 row → Srr as t n g (i :: row)
def spReadings3 (K : PySem.W.Frag) (C CS CT CL : Addr) : Sp := fun vs H Q E => (∃ (q : Addr) (sg : List Nat) (us : List V) (as : List Arc) (y x : V), vs = [.ref q, y, x] ∧ LoomAt C H q sg us as ∧ ((BadSt K H y ∧ E (.ref CS) none H) ∨ (∃ g : Nat, y = .int (g : Int) ∧ g ≤ 63 ∧ ((BadTx K sg H x ∧ ∀ H', Same H H' → E (.ref CT) none H') ∨ (∃ t : List Nat, x = .str (SX.S t) ∧ t.length ≤ 2000 ∧ (∀ c ∈ t, c ∈ sg) ∧ (200 < (rdg as g t).length → ∀ H' e, Same H H' → H' e = some (.xd (fs_LimitExceeded (.int 200))) → E (.ref CL) (some e) H') ∧
  ((rdg as g t).length ≤ 200 → ∀ (H' : Hp) (fr : Addr) (vs : List V), Same H H' → H fr = none → H' fr = some (.lst vs) → RowsAt H' (fun a => a ≠ fr ∧ H a = none) vs (rdg as g t) → Q (.ref fr) H'))))))
def spSure3 (K : PySem.W.Frag) (C CS CT : Addr) : Sp := fun vs H Q E => (∃ (q : Addr) (sg : List Nat) (us : List V) (as : List Arc) (y x : V), vs = [.ref q, y, x] ∧ LoomAt C H q sg us as ∧ ((BadSt K H y ∧ E (.ref CS) none H) ∨ (∃ g : Nat, y = .int (g : Int) ∧ g ≤ 63 ∧ ((BadTx K sg H x ∧ ∀ H', Same H H' → E (.ref CT) none H') ∨ (∃ t : List Nat, x = .str (SX.S t) ∧ t.length ≤ 2000 ∧ (∀ c ∈ t, c ∈ sg) ∧ (t ≠ [] → liv as true t g = [] → ∀ H', Same H H' → Q .non H') ∧ ((t = [] ∨ liv as true t g ≠ []) → ∀ H' (p : Addr) row, Same H H' → H p = none → H' p = some (.lst (nats row)) → Srr as t 0 g row → Q (.ref p) H'))))))
section
variable {P : Program} {w : World} {K : PySem.W.Frag} {mg : Str → Option Value} {base : Heap}
theorem ok_readings (T : Tx K mg) : FnOk P w K mg base (L2.CX P w) 5 T.f_readings T.fd_readings P_readings (spReadings3 K T.C_Loom T.C_UnknownState T.C_InvalidText T.C_LimitExceeded) := by
  have G_check_state : FnOk P w K mg base (L2.CX P w) 2 T.f_check_state T.fd_check_state P_check_state (spStX K T.C_UnknownState) := ok_check_stateX T
  have G_check_text : FnOk P w K mg base (L2.CX P w) 2 T.f_check_text T.fd_check_text P_check_text (spTxX K T.C_InvalidText) := ok_check_textX T
  have G_live_arcs : FnOk P w K mg base CX0 2 T.f_live_arcs T.fd_live_arcs P_live_arcs (spLive T.C_Loom) := ok_live_arcs T
  refine T.F_readings.okX sc_readings (fun vs H Q E h => ?_) (fun cdv A outer s H vs Q E hr h => ?_)
  · obtain ⟨q, sg, us, as, y, x, rfl, _⟩ := h
    rfl
  · obtain ⟨q, sg, us, as, y, x, rfl, hL, h⟩ := h
    refine ⟨_, (pss_cons (ps_expr (pe_callS G_check_state (hr.mono (by decide)) rfl T.m_check_state T.F_check_state.kp T.b_check_state (fun σ => passAt (takes_of rfl rfl rfl rfl) σ) (pa_cons (pv 1) pa_nil)))
        (pss_cons (ps_expr (pe_callS G_check_text (hr.mono (by decide)) rfl T.m_check_text T.F_check_text.kp T.b_check_text (fun σ => passAt (takes_of rfl rfl rfl rfl) σ) (pa_cons (pe_fld (pv 0) rfl) (pa_cons (pv 2) pa_nil))))
        (pss_cons (ps_if (pt_cmpR op_eq (pv 2) pe_str (nomark _)) (pss_one (ps_ret (pe_lst (pa_cons (pe_lst pa_nil) pa_nil)))) pss_nil)
        (pss_cons (ps_set (i := 3) sc_readings.nd rfl (Or.inl rfl) (pe_call G_live_arcs (hr.mono (by decide)) rfl T.m_live_arcs T.F_live_arcs.kp T.b_live_arcs .nil pass0 (pa_cons (pv 0) (pa_cons (pv 2) (pa_cons pe_bl pa_nil)))))
        (pss_cons (ps_set (i := 4) sc_readings.nd rfl (Or.inl rfl) (pe_lst pa_nil))
        (pss_cons (ps_set (i := 5) sc_readings.nd rfl (Or.inl rfl) (pe_lst pa_nil))
        (pss_cons (ps_setLc (i := 6) (own := [("number", 9)]) (g := (gName 9)) rfl sc_readings.nd rfl rfl (sw_true rfl rfl rfl (by decide +kernel)) (pi_list (pe_revL (pe_dget2 (hu_of hr) (pe_ix (ix_listK (K := K) rfl) (pv 3) pe_int (fun _ _ => rfl)) (pv 1) (pe_lst pa_nil) ⟨rfl, rfl, rfl, rfl⟩))) (blkOk_by (N := N_readings) (sc := defScope s_readings) (by decide +kernel)) (fun _ _ _ _ _ => (pg_name (i := 9) sc_readings.nd rfl (Or.inl rfl))) (fun _ _ _ _ _ => pts_nil) (fun _ _ _ _ _ => (pe_tup (pa_cons pe_int (pa_cons pe_int (pa_cons (pv 9) pa_nil))))))
        (pss_cons (ps_while (passes_of rfl) (pt_truth (pv 6) (by intro _; rfl)) (pss_cons (ps_if (pt_cmpR op_gt (pe_op op_add (pe_callB (call_len_seqK (K := K) rfl) rfl T.n_len (by decide +kernel) (pa_cons (pv 4) pa_nil)) (pe_callB (call_len_seqK (K := K) rfl) rfl T.n_len (by decide +kernel) (pa_cons (pv 6) pa_nil))) (pe_glob (v := V.int 200) rfl T.g_MOST_READINGS ⟨_, rfl⟩) (nomark _)) (pss_one (ps_raise rfl (takes_of rfl rfl rfl rfl) (pmk_LimitExceeded (k := 3) T.X_LimitExceeded (hr.mono (by decide)) (pa_cons (pe_glob (v := V.int 200) rfl T.g_MOST_READINGS ⟨_, rfl⟩) pa_nil)))) pss_nil)
        (pss_cons (ps_asg (pe_bm0 PySem.F.plainAttrs_list PySem.F.slot_list_pop PySem.F.type_list_pop mt_pop (pv 6)) (pg_tup rfl (pgs_cons (pg_name (i := 7) sc_readings.nd rfl (Or.inr rfl)) (pgs_cons (pg_name (i := 8) sc_readings.nd rfl (Or.inl rfl)) (pgs_cons (pg_name (i := 9) sc_readings.nd rfl (Or.inl rfl)) pgs_nil)))))
        (pss_cons (ps_delS (pv 5) (po_some (pv 7)))
        (pss_cons (ps_expr (pe_bm PySem.F.plainAttrs_list PySem.F.slot_list_append PySem.F.type_list_append mt_append (pv 5) (pa_cons (pv 9) pa_nil)))
        (pss_cons (ps_asg (pe_ix (ix_tupK (K := K) rfl) (pe_fld (pv 0) rfl) (pv 9) (fun _ _ => rfl)) (pg_tup rfl (pgs_cons (pg_name (i := 10) sc_readings.nd rfl (Or.inl rfl)) (pgs_cons (pg_name (i := 11) sc_readings.nd rfl (Or.inl rfl)) (pgs_cons (pg_name (i := 12) sc_readings.nd rfl (Or.inl rfl)) pgs_nil)))))
        (pss_cons (ps_set (i := 13) sc_readings.nd rfl (Or.inr rfl) (pe_op op_add (pv 8) (pe_callB call_len_str rfl T.n_len (by decide +kernel) (pa_cons (pv 11) pa_nil))))
        (pss_one (ps_if (pt_cmpR op_eq (pv 13) (pe_callB call_len_str rfl T.n_len (by decide +kernel) (pa_cons (pv 2) pa_nil)) (nomark _)) (pss_one (ps_expr (pe_bm PySem.F.plainAttrs_list PySem.F.slot_list_append PySem.F.type_list_append mt_append (pv 4) (pa_cons (pe_callTy (call_list_ofK (K := K) rfl) rfl T.n_list (by decide +kernel) (pa_cons (pv 5) pa_nil)) pa_nil)))) (pss_one (ps_expr (pe_bm PySem.F.plainAttrs_list PySem.F.slot_list_extend PySem.F.type_list_extend mt_extend (pv 6) (pa_cons (pe_lc (own := [("other", 14)]) (g := (gName 14)) rfl sc_readings.nd (pi_list (pe_revL (pe_dget (hu_of hr) (pe_ix (ix_listK (K := K) rfl) (pv 3) (pv 13) (fun _ _ => rfl)) (pv 12) (fun _ _ => rfl)))) (blkOk_by (N := N_readings) (sc := defScope s_readings) (by decide +kernel)) (fun _ _ _ _ _ => (pg_name (i := 14) sc_readings.nd rfl (Or.inl rfl))) (fun _ _ _ _ _ => pts_nil) (fun _ _ _ _ _ => (pe_tup (pa_cons (pe_op op_add (pv 7) pe_int) (pa_cons (pv 13) (pa_cons (pv 14) pa_nil)))))) pa_nil)))))))))))))
        (pss_one (ps_ret (pv 4))))))))))), ?_⟩
    obtain ⟨dx, TT, hq, hT, harc, hok, hsg⟩ := id hL
    rcases h with ⟨hb, k⟩ | ⟨g, rfl, hg, ⟨hb, k⟩ | ⟨t, rfl, ht, hin, kx, k0⟩⟩
    · exact ⟨_, rfl, y, rfl, .inr ⟨hb, k⟩⟩
    · refine ⟨_, rfl, _, rfl, .inl ⟨g, rfl, hg, ?_⟩⟩
      exact ⟨_, rfl, q, _, dx, _, _, rfl, hq, T.cl_Loom, T.na_Loom_signs, lf_signs _ _, _, rfl, sg, x, rfl, .inl ⟨hb, k⟩⟩
    · have hw := hok.wd
      have hal := hok.2.1
      have htl : (SX.S t).length ≤ sizeLine := le_size (by rw [SX.S_len]; omega)
      refine ⟨_, rfl, _, rfl, .inl ⟨g, rfl, hg, ?_⟩⟩
      refine ⟨_, rfl, q, _, dx, _, _, rfl, hq, T.cl_Loom, T.na_Loom_signs, lf_signs _ _, _, rfl, sg, _, rfl, .inr ⟨t, rfl, ht, hin, fun H1 s1 => ?_⟩⟩
      refine ⟨_, rfl, rfl, _, rfl, ?_⟩
      refine ite2 (fun c => ?_) (fun c => ?_)
      · have et : t = [] := by
          have e1 : V.str (SX.S t) = V.str "" := of_decide_eq_true c
          injection e1 with e1
          exact SX.S_inj e1
        subst et
        refine ⟨le_size (by simp), fun a1 h1 => ⟨le_size (by simp), fun a2 h2 => ?_⟩⟩
        have s2 : Same H1 (upd H1 a1 (.lst [])) := Same.new _ h1
        have n12 : a2 ≠ a1 := fun z => by rw [z, upd_same] at h2; cases h2
        refine k0 (by rw [rdg_nil]; decide) _ a2 [.ref a1] ((s1.trans s2).trans (Same.new _ h2)) ((s1.trans s2).free h2) upd_same ?_
        rw [rdg_nil]
        refine (RowsAt.nil _ _).snoc (r := []) (by rw [upd_ne n12.symm]; exact upd_same) ⟨n12.symm, s1.free h1⟩
      · have tne : t ≠ [] := fun z => c (decide_eq_true (by rw [z]; rfl))
        have hL1 := hL.same s1
        refine ⟨_, rfl, _, rfl, q, sg, us, as, t, false, rfl, hL1, ht, fun H2 lv ds s2 hlv0 hlv hdl hls => ?_⟩
        refine ⟨le_size (by simp), fun fa hfa => ?_⟩
        have sf : Same H2 (upd H2 fa (.lst [])) := Same.new _ hfa
        have gf : upd H2 fa (.lst []) fa = some (.lst []) := upd_same
        have hf0 : H2 fa = none := hfa
        generalize upd H2 fa (.lst []) = H3 at *
        refine ⟨le_size (by simp), fun ra hra => ?_⟩
        have sr : Same H3 (upd H3 ra (.lst [])) := Same.new _ hra
        have gr : upd H3 ra (.lst []) ra = some (.lst []) := upd_same
        have hr0 : H2 ra = none := sf.free hra
        have nrf : ra ≠ fa := hp_ne gf hra
        have gf4 := sr _ _ gf
        generalize upd H3 ra (.lst []) = H4 at *
        have s24 := sf.trans sr
        have hls4 : LivsAt H4 ds as false t 0 := fun k h1 h2 => by
          obtain ⟨d, e1, e2⟩ := hls k h1 h2
          exact ⟨d, e1, e2.same s24⟩
        obtain ⟨d0, hd0, kvs, ad, hdd, hkl, hno, hso, hinj⟩ := hls4 0 (Nat.le_refl _) (List.length_pos_iff.mpr tne)
        rw [List.drop_zero] at hno hso
        refine ⟨_, rfl, lv, _, _, _, rfl, rfl, SqL.of (s24 _ _ hlv), atI_nat (j := 0) (by rw [List.getElem?_map, hd0]; rfl), d0, rfl, .inl ⟨kvs, .inl hdd⟩, _, rfl, le_size (by simp), fun l0 hl0 => ?_⟩
        have s5 : Same H4 (upd H4 l0 (.lst [])) := Same.new _ hl0
        have hdd5 := s5 _ _ hdd
        refine ⟨_, .inl ⟨kvs, .inl (g : Int), .inl hdd5, rfl, rfl⟩, ?_⟩
        have hsrc : ∃ ll : Addr, (valV kvs (.inl (g : Int))).getD (.ref l0) = .ref ll ∧ upd H4 l0 (.lst []) ll = some (.lst (nats (liv as false t g))) := by
          by_cases z : livI as false t g as.length = []
          · refine ⟨l0, by rw [hno _ z]; rfl, ?_⟩
            have z' : liv as false t g = [] := z
            rw [z', upd_same]
            rfl
          · exact ⟨ad g, by rw [(hso _ z).1]; rfl, s5 _ _ (hso _ z).2⟩
        obtain ⟨ll, ell, hll⟩ := hsrc
        rw [ell]
        have s25 := s24.trans s5
        have gf5 := s5 _ _ gf4
        have gr5 := s5 _ _ gr
        generalize upd H4 l0 (.lst []) = H5 at *
        refine ⟨ll, _, rfl, SqL.of hll, fun p hp => ?_⟩
        have s6 : Same H5 (upd H5 p (.lst (nats (liv as false t g)).reverse)) := Same.new _ hp
        have gp : upd H5 p (.lst (nats (liv as false t g)).reverse) p = some (.lst (nats (liv as false t g)).reverse) := upd_same
        have gf6 := s6 _ _ gf5
        have gr6 := s6 _ _ gr5
        have s26 := s25.trans s6
        generalize upd H5 p (.lst (nats (liv as false t g)).reverse) = H6 at *
        rw [show (nats (liv as false t g)).reverse = nats (liv as false t g).reverse from List.map_reverse.symm] at gp
        have hlv200 := livI_len as false t g as.length
        refine ⟨p, rfl, ⟨_, SqL.of gp⟩, fun wa hwa => lc_list (K := K) (a := p) (xs := nats (liv as false t g).reverse) (fun i H' => ∃ wvs, H' wa = some (.lst wvs) ∧ EntsAt H' wvs (((liv as false t g).reverse.take i).map fun c => (0, 0, c)) ∧ Same H6 H') ⟨[], upd_same, EntsAt.nil _, Same.new _ hwa⟩ (fun i H' _ ⟨_, _, _, sm⟩ => SqL.of (sm _ _ gp)) ?_ ?_⟩
        · rintro i y H7 hy ⟨wvs, hwl, hwe, sm⟩
          rw [List.getElem?_map] at hy
          obtain ⟨c, hc, rfl⟩ := Option.map_eq_some_iff.mp hy
          refine ⟨rfl, _, rfl, le_size (by simp), fun tp htp => ?_⟩
          have st : Same H7 (upd H7 tp (.tup [V.int 0, V.int 0, V.int (c : Int)])) := Same.new _ htp
          have gt : upd H7 tp (.tup [V.int 0, V.int 0, V.int (c : Int)]) tp = some (entO (0, 0, c)) := upd_same
          have hi := (List.getElem?_eq_some_iff.mp hc).1
          rw [List.length_reverse] at hi
          have hll : (liv as false t g).length ≤ as.length := hlv200
          refine ⟨wvs, st _ _ hwl, lt_size (by rw [hwe.1, List.length_map, List.length_take]; omega), wvs ++ [.ref tp], upd_same, ?_, (sm.trans st).updNew hwa⟩
          rw [← take_snoc hc, List.map_append]
          exact ((hwe.to (TupP.same st)).append (EntsAt.one gt)).to (TupP.upd (st _ _ hwl))
        rintro H7 ⟨wvs, hwl, hwe, sm7⟩
        have elen : (nats (liv as false t g).reverse).length = (liv as false t g).reverse.length := List.length_map _
        rw [elen, List.take_length] at hwe
        have nwf : wa ≠ fa := hp_ne gf6 hwa
        have nwr : wa ≠ ra := hp_ne gr6 hwa
        have hw0 : H2 wa = none := s26.free hwa
        have gf7 := sm7 _ _ gf6
        have gr7 := sm7 _ _ gr6
        have s27 := s26.trans sm7
        clear gp hll ell hdd5 hdd hno hso hinj hls4 gf gf4 gf5 gf6 gr gr5 gr6 sm7 s26 s25 s5 s6 s24 sf sr
        have I0 := RdI.init (g := g) hw tne
        refine ⟨fun m σ H' => ∃ (R : List Nat) (W : List Ent) (F : List (List Nat)) (fvs wvs : List V) (v7 v8 v9 v10 v11 v12 v13 : Option V), m = entM t.length W ∧ σ = [some (.ref q), some (.int (g : Int)), some (.str (SX.S t)), some (.ref lv), some (.ref fa), some (.ref ra), some (.ref wa), v7, v8, v9, v10, v11, v12, v13, none] ∧
          H' fa = some (.lst fvs) ∧ RowsAt H' (fun a => a ≠ fa ∧ a ≠ ra ∧ a ≠ wa ∧ H2 a = none) fvs F ∧ H' ra = some (.lst (nats R)) ∧ H' wa = some (.lst wvs) ∧ EntsAt H' wvs W ∧ RdI as t (rdg as g t) R W F ∧ R.length ≤ 2000 ∧ (F.length ≤ 200 ∧ W.length ≤ 400) ∧ Same H2 H', ⟨_, [], _, [], [], wvs, _, _, _, _, _, _, _, rfl, rfl, gf7, RowsAt.nil _ _, gr7, hwl, hwe, I0, by simp, ⟨Nat.zero_le _, by rw [List.length_map, List.length_reverse]; have : (liv as false t g).length ≤ as.length := hlv200; omega⟩, s27⟩, ?_⟩
        rintro m σ H8 ⟨R, W, F, fvs, wvs8, v7, v8, v9, v10, v11, v12, v13, rfl, rfl, hfa8, hF, hra8, hwa8, hW, I, hRl, few0, s8⟩
        have few := I.few hw
        refine ⟨_, rfl, !wvs8.isEmpty, .inl ⟨_, SqL.of hwa8, rfl⟩, ite2 (fun c => ?_) (fun c => ?_)⟩
        · have hne : W ≠ [] := fun z => by
            subst z
            have : wvs8 = [] := List.length_eq_zero_iff.mp hW.1
            rw [this] at c
            cases c
          obtain ⟨W, e, rfl⟩ : ∃ W' e, W = W' ++ [e] := ⟨W.dropLast, W.getLast hne, (List.dropLast_concat_getLast hne).symm⟩
          obtain ⟨wvs, te, rfl, hW', hte⟩ := hW.unsnoc
          obtain ⟨kept, at_, num⟩ := e
          have hok8 := I.ok (kept, at_, num) (by simp)
          obtain ⟨k1, k2, k3, gg, k4⟩ := hok8
          dsimp only at k1 k2 k3 k4
          obtain ⟨a, ha, hag, htk⟩ := mem_liv.mp k4
          have hpop := I.pop hw (e := (kept, at_, num)) ha
          dsimp only at hpop
          have fl : fvs.length = F.length := hF.1
          have wl : (wvs ++ [V.ref te]).length = (W ++ [(kept, at_, num)]).length := hW.1
          obtain ⟨o1, o2, o3, o4⟩ := hok.all.2 a (List.mem_of_getElem? ha)
          have hwd : (SX.S a.2.1).length ≤ sizeLine := le_size (by rw [SX.S_len]; omega)
          obtain ⟨ta, hta1, hta2⟩ := harc.2 num a ha
          refine ⟨fun σ' H' => ∃ m', m' < entM t.length (W ++ [(kept, at_, num)]) ∧ ∃ (R : List Nat) (W : List Ent) (F : List (List Nat)) (fvs wvs : List V) (v7 v8 v9 v10 v11 v12 v13 : Option V), m' = entM t.length W ∧ σ' = [some (.ref q), some (.int (g : Int)), some (.str (SX.S t)), some (.ref lv), some (.ref fa), some (.ref ra), some (.ref wa), v7, v8, v9, v10, v11, v12, v13, none] ∧
            H' fa = some (.lst fvs) ∧ RowsAt H' (fun a => a ≠ fa ∧ a ≠ ra ∧ a ≠ wa ∧ H2 a = none) fvs F ∧ H' ra = some (.lst (nats R)) ∧ H' wa = some (.lst wvs) ∧ EntsAt H' wvs W ∧ RdI as t (rdg as g t) R W F ∧ R.length ≤ 2000 ∧ (F.length ≤ 200 ∧ W.length ≤ 400) ∧ Same H2 H', fun σ' H' z => z, ?_⟩
          refine ⟨_, rfl, fa, _, rfl, .inl (SqL.of hfa8), _, rfl, wa, _, rfl, .inl (SqL.of hwa8), _, _, rfl, rfl, _, _, rfl, rfl, _, rfl, ite2 (fun c => ?_) fun cn => ?_⟩
          · have hbig := of_decide_eq_true c
            have wle : (wvs ++ [V.ref te]).length = (W ++ [(kept, at_, num)]).length := wl
            exact ⟨_, rfl, fun e he => kx (by omega) _ e (((s1.trans s2).trans s8).trans (Same.new _ he)) upd_same⟩
          have few2 : F.length + (W ++ [(kept, at_, num)]).length ≤ 200 := by
            apply Classical.byContradiction
            intro z
            exact cn (decide_eq_true (by omega))
          refine ⟨_, rfl, .inl ⟨rfl, _, SqL.of hwa8⟩, wa, _, .ref te, rfl, rfl, hwa8, by simp, ?_⟩
          have hdl : (wvs ++ [V.ref te]).dropLast = wvs := by simp
          rw [hdl]
          have tp1 : TupP H8 (upd H8 wa (.lst wvs)) := TupP.upd hwa8
          refine ⟨te, _, rfl, SqT.of (tp1 _ _ hte), rfl, _, _, rfl, _, _, rfl, _, _, rfl, rfl, ?_⟩
          have hfa9 : upd H8 wa (.lst wvs) fa = some (.lst fvs) := by rw [upd_ne nwf.symm]; exact hfa8
          have hra9 : upd H8 wa (.lst wvs) ra = some (.lst (nats R)) := by rw [upd_ne nwr.symm]; exact hra8
          have hwa9 : upd H8 wa (.lst wvs) wa = some (.lst wvs) := upd_same
          have hF9 : RowsAt (upd H8 wa (.lst wvs)) (fun a => a ≠ fa ∧ a ≠ ra ∧ a ≠ wa ∧ H2 a = none) fvs F := hF.to fun b o p h => by rw [upd_ne p.2.2.1]; exact h
          have hW9 := hW'.to tp1
          have s9 := s8.updNew (o := .lst wvs) hw0
          generalize upd H8 wa (.lst wvs) = H9 at *
          clear hte hW' hW hF hfa8 hra8 hwa8 tp1 s8
          -- del row[kept:]
          refine ⟨_, rfl, _, rfl, _, rfl, ra, _, kept, rfl, rfl, hra9, by rw [List.length_map]; exact k1, ?_⟩
          have hra10 : upd H9 ra (.lst ((nats R).take kept)) ra = some (.lst (nats (R.take kept))) := by rw [upd_same, ← List.map_take]
          have hfa10 : upd H9 ra (.lst ((nats R).take kept)) fa = some (.lst fvs) := by rw [upd_ne nrf.symm]; exact hfa9
          have hwa10 : upd H9 ra (.lst ((nats R).take kept)) wa = some (.lst wvs) := by rw [upd_ne nwr]; exact hwa9
          have hF10 : RowsAt (upd H9 ra (.lst ((nats R).take kept))) (fun a => a ≠ fa ∧ a ≠ ra ∧ a ≠ wa ∧ H2 a = none) fvs F := hF9.to fun b o p h => by rw [upd_ne p.2.1]; exact h
          have hW10 := hW9.to (TupP.upd (o := .lst ((nats R).take kept)) hra9)
          have s10 := s9.updNew (o := .lst ((nats R).take kept)) hr0
          generalize upd H9 ra (.lst ((nats R).take kept)) = H10 at *
          clear hfa9 hra9 hwa9 hF9 hW9 s9
          -- row.append(number)
          have htkl : (R.take kept).length = kept := by rw [List.length_take]; omega
          refine ⟨_, rfl, .inl ⟨rfl, _, SqL.of hra10⟩, _, rfl, ra, _, _, rfl, rfl, hra10, lt_size (by rw [List.length_map, htkl]; omega), ?_⟩
          have hra11 : upd H10 ra (.lst (nats (R.take kept) ++ [V.int (num : Int)])) ra = some (.lst (nats (R.take kept ++ [num]))) := by rw [upd_same]; unfold nats; rw [List.map_append]; rfl
          have hfa11 : upd H10 ra (.lst (nats (R.take kept) ++ [V.int (num : Int)])) fa = some (.lst fvs) := by rw [upd_ne nrf.symm]; exact hfa10
          have hwa11 : upd H10 ra (.lst (nats (R.take kept) ++ [V.int (num : Int)])) wa = some (.lst wvs) := by rw [upd_ne nwr]; exact hwa10
          have hF11 : RowsAt (upd H10 ra (.lst (nats (R.take kept) ++ [V.int (num : Int)]))) (fun a => a ≠ fa ∧ a ≠ ra ∧ a ≠ wa ∧ H2 a = none) fvs F := hF10.to fun b o p h => by rw [upd_ne p.2.1]; exact h
          have hW11 := hW10.to (TupP.upd (o := .lst (nats (R.take kept) ++ [V.int (num : Int)])) hra10)
          have s11 := s10.updNew (o := .lst (nats (R.take kept) ++ [V.int (num : Int)])) hr0
          generalize upd H10 ra (.lst (nats (R.take kept) ++ [V.int (num : Int)])) = H11 at *
          clear hfa10 hra10 hwa10 hF10 hW10 s10
          have S11 := (s1.trans s2).trans s11
          have e1 : ((at_ : Int) + ((SX.S a.2.1).length : Nat)) = ((at_ + a.2.1.length : Nat) : Int) := by rw [SX.S_len]; omega
          refine ⟨_, rfl, q, _, dx, _, _, rfl, S11 _ _ hq, T.cl_Loom, T.na_Loom_arcs, lf_arcs _ _, _, rfl, TT, _, _, _, rfl, rfl, SqT.of (S11 _ _ hT), atI_nat hta1, ta, _, rfl, SqT.of (S11 _ _ hta2), rfl, _, _, rfl, _, _, rfl, _, _, rfl, rfl, ?_⟩
          refine ⟨_, rfl, _, rfl, _, rfl, hwd, _, _, rfl, rfl, ?_⟩
          refine ⟨_, rfl, _, rfl, _, rfl, htl, rfl, _, rfl, ?_⟩
          have ev : (V.int ((at_ : Int) + ((SX.S a.2.1).length : Nat)) = V.int ((SX.S t).length : Nat)) ↔ at_ + a.2.1.length = t.length := by
            rw [e1, SX.S_len]
            constructor
            · intro z
              injection z with z
              omega
            · intro z
              congr 1
              omega
          have hRl2 : (R.take kept ++ [num]).length ≤ 2000 := by rw [List.length_append, htkl, List.length_singleton]; omega
          refine ite2 (fun c2 => ?_) (fun c2 => ?_)
          · have hend := ev.mp (of_decide_eq_true c2)
            have I2 := hpop.1 hend
            refine ⟨_, rfl, .inl ⟨rfl, _, SqL.of hfa11⟩, ?_⟩
            refine ⟨_, rfl, ra, _, rfl, .inl (SqL.of hra11), fun l hl => ?_⟩
            have sl : Same H11 (upd H11 l (.lst (nats (R.take kept ++ [num])))) := Same.new _ hl
            have gl : upd H11 l (.lst (nats (R.take kept ++ [num]))) l = some (.lst (nats (R.take kept ++ [num]))) := upd_same
            have nlf : l ≠ fa := hp_ne hfa11 hl
            have nlr : l ≠ ra := hp_ne hra11 hl
            have nlw : l ≠ wa := hp_ne hwa11 hl
            have hl0 : H2 l = none := s11.free hl
            have hfa12 := sl _ _ hfa11
            have hra12 := sl _ _ hra11
            have hwa12 := sl _ _ hwa11
            have hF12 := (hF11.to fun b o _ h => sl _ _ h).snoc gl ⟨nlf, nlr, nlw, hl0⟩
            have hW12 := hW11.to (TupP.same sl)
            have s12 := s11.trans sl
            generalize upd H11 l (.lst (nats (R.take kept ++ [num]))) = H12 at *
            refine ⟨fa, fvs, .ref l, rfl, rfl, hfa12, lt_size (by have := few0.1; omega), ?_⟩
            refine ⟨_, ?_, _, W, _, _, wvs, _, _, _, _, _, _, _, rfl, rfl, upd_same, hF12.to fun b o p h => by rw [upd_ne p.1]; exact h, by rw [upd_ne nrf]; exact hra12, by rw [upd_ne nwf]; exact hwa12, hW12.to (TupP.upd hfa12), I2, hRl2, ⟨by rw [List.length_append] at few2 ⊢; rw [List.length_singleton] at few2 ⊢; omega, by rw [List.length_append] at few2; omega⟩, s12.updNew hf0⟩
            rw [entM_append]
            have : 0 < entM t.length [(kept, at_, num)] := by
              show 0 < 201 ^ (t.length - at_) + 0
              have := Nat.pow_pos (n := t.length - at_) (show 0 < 201 by omega)
              omega
            omega
          · have hend : at_ + a.2.1.length ≠ t.length := fun z => c2 (decide_eq_true (ev.mpr z))
            obtain ⟨hlt, I2⟩ := hpop.2 hend
            refine ⟨_, rfl, .inl ⟨rfl, _, SqL.of hwa11⟩, ?_⟩
            obtain ⟨d2, hd2, L2⟩ := hls (at_ + a.2.1.length) (Nat.zero_le _) hlt
            obtain ⟨kvs2, ad2, hdd2, _, _, hso2, _⟩ := L2.same s11
            have hne2 : t.drop (at_ + a.2.1.length) ≠ [] := fun z => by
              have := congrArg List.length z
              rw [List.length_drop, List.length_nil] at this
              omega
            have hgd := (tk_false.mp htk).2
            rw [List.drop_drop] at hgd
            obtain ⟨f1, f2⟩ := hso2 a.2.2 ((gd_liv hne2).mp hgd)
            refine ⟨_, rfl, _, rfl, lv, _, _, _, rfl, rfl, SqL.of (s11 _ _ hlv), by rw [e1]; exact atI_nat (by rw [List.getElem?_map, hd2]; rfl), _, rfl, d2, _, rfl, .inl ⟨kvs2, .inl (a.2.2 : Int), .inl hdd2, rfl, f1.symm⟩, ?_⟩
            change H11 (ad2 a.2.2) = some (.lst (nats (liv as false (t.drop (at_ + a.2.1.length)) a.2.2))) at f2
            have ll200 := livI_len as false (t.drop (at_ + a.2.1.length)) a.2.2 as.length
            have ll : (liv as false (t.drop (at_ + a.2.1.length)) a.2.2).length ≤ as.length := ll200
            generalize liv as false (t.drop (at_ + a.2.1.length)) a.2.2 = lst at *
            refine ⟨_, _, rfl, SqL.of f2, fun p hp => ?_⟩
            have sp : Same H11 (upd H11 p (.lst (nats lst).reverse)) := Same.new _ hp
            have gp : upd H11 p (.lst (nats lst).reverse) p = some (.lst (nats lst.reverse)) := by rw [upd_same]; unfold nats; rw [List.map_reverse]
            have hfa12 := sp _ _ hfa11
            have hra12 := sp _ _ hra11
            have hwa12 := sp _ _ hwa11
            have hF12 := hF11.to (fun b o _ h => sp _ _ h)
            have hW12 := hW11.to (TupP.same sp)
            have s12 := s11.trans sp
            generalize upd H11 p (.lst (nats lst).reverse) = H12 at *
            have elr : (nats lst).reverse = nats lst.reverse := by unfold nats; rw [List.map_reverse]
            refine ⟨p, rfl, ⟨_, SqL.of gp⟩, fun D hD => lc_list (K := K) (a := p) (xs := nats lst.reverse) (fun i H' => ∃ dvs, H' D = some (.lst dvs) ∧ EntsAt H' dvs ((lst.reverse.take i).map fun c => (kept + 1, at_ + a.2.1.length, c)) ∧ Same H12 H') ⟨[], upd_same, EntsAt.nil _, Same.new _ hD⟩ (fun i H' _ ⟨_, _, _, sm⟩ => SqL.of (sm _ _ gp)) ?_ ?_⟩
            · rintro i y H13 hy ⟨dvs, hDl, hde, sm⟩
              rw [List.getElem?_map] at hy
              obtain ⟨cc, hc, rfl⟩ := Option.map_eq_some_iff.mp hy
              refine ⟨rfl, _, rfl, _, _, rfl, rfl, _, rfl, _, rfl, le_size (by simp), fun tp htp => ?_⟩
              have st : Same H13 (upd H13 tp (.tup [V.int ((kept : Int) + 1), V.int ((at_ : Int) + ((SX.S a.2.1).length : Nat)), V.int (cc : Int)])) := Same.new _ htp
              have gt : upd H13 tp (.tup [V.int ((kept : Int) + 1), V.int ((at_ : Int) + ((SX.S a.2.1).length : Nat)), V.int (cc : Int)]) tp = some (entO (kept + 1, at_ + a.2.1.length, cc)) := by rw [upd_same, e1]; rfl
              have hi := (List.getElem?_eq_some_iff.mp hc).1
              rw [List.length_reverse] at hi
              refine ⟨dvs, st _ _ hDl, lt_size (by rw [hde.1, List.length_map, List.length_take]; omega), dvs ++ [.ref tp], upd_same, ?_, (sm.trans st).updNew hD⟩
              rw [← take_snoc hc, List.map_append]
              exact ((hde.to (TupP.same st)).append (EntsAt.one gt)).to (TupP.upd (st _ _ hDl))
            rintro H13 ⟨dvs, hDl, hde, sm⟩
            have elen : (nats lst.reverse).length = lst.reverse.length := List.length_map _
            rw [elen, List.take_length] at hde
            have hfa13 := sm _ _ hfa12
            have hra13 := sm _ _ hra12
            have hwa13 := sm _ _ hwa12
            have hF13 := hF12.to (fun b o _ h => sm _ _ h)
            have hW13 := hW12.to (TupP.same sm)
            have s13 := s12.trans sm
            have dl : dvs.length = lst.length := by rw [hde.1, List.length_map, List.length_reverse]
            have wl2 : wvs.length = W.length := hW13.1
            refine ⟨wa, D, _, _, rfl, rfl, hwa13, hDl, le_size (by have := few0.2; rw [List.length_append] at this; omega), ?_⟩
            refine ⟨_, entM_less (m := kept) (i := num) (by rw [List.length_reverse]; omega) (show at_ < at_ + a.2.1.length by omega) (Nat.le_of_lt hlt) W, _, _, F, fvs, _, _, _, _, _, _, _, _, rfl, rfl, by rw [upd_ne nwf.symm]; exact hfa13, hF13.to fun b o p h => by rw [upd_ne p.2.2.1]; exact h, by rw [upd_ne nwr.symm]; exact hra13, upd_same, (hW13.append hde).to (TupP.upd hwa13), I2, hRl2, ⟨few0.1, by rw [List.length_append] at few2 ⊢; rw [List.length_map, List.length_reverse]; omega⟩, s13.updNew hw0⟩
        · have hW0 : W = [] := by
            have : wvs8 = [] := by
              cases wvs8 with
              | nil => rfl
              | cons a b => exact absurd rfl c
            rw [this] at hW
            exact List.length_eq_zero_iff.mp hW.1.symm
          subst hW0
          have hs := I.sum
          simp only [List.reverse_nil, List.flatMap_nil, List.append_nil] at hs
          rw [hs] at hF
          exact ⟨_, rfl, k0 (by rw [← hs]; exact few0.1) H8 fa fvs ((s1.trans s2).trans s8) ((s1.trans s2).free hf0) hfa8 (hF.weak fun a p => ⟨p.1, (s1.trans s2).free p.2.2.2⟩)⟩
theorem ok_sure (T : Tx K mg) : FnOk P w K mg base (L2.CX P w) 5 T.f_sure T.fd_sure P_sure (spSure3 K T.C_Loom T.C_UnknownState T.C_InvalidText) := by
  have G_check_state : FnOk P w K mg base (L2.CX P w) 2 T.f_check_state T.fd_check_state P_check_state (spStX K T.C_UnknownState) := ok_check_stateX T
  have G_check_text : FnOk P w K mg base (L2.CX P w) 2 T.f_check_text T.fd_check_text P_check_text (spTxX K T.C_InvalidText) := ok_check_textX T
  have G_live_arcs : FnOk P w K mg base CX0 2 T.f_live_arcs T.fd_live_arcs P_live_arcs (spLive T.C_Loom) := ok_live_arcs T
  refine T.F_sure.okX sc_sure (fun vs H Q E h => ?_) (fun cdv A outer s H vs Q E hr h => ?_)
  · obtain ⟨q, sg, us, as, y, x, rfl, _⟩ := h
    rfl
  · obtain ⟨q, sg, us, as, y, x, rfl, hL, h⟩ := h
    refine ⟨_, (pss_cons (ps_expr (pe_callS G_check_state (hr.mono (by decide)) rfl T.m_check_state T.F_check_state.kp T.b_check_state (fun σ => passAt (takes_of rfl rfl rfl rfl) σ) (pa_cons (pv 1) pa_nil)))
        (pss_cons (ps_expr (pe_callS G_check_text (hr.mono (by decide)) rfl T.m_check_text T.F_check_text.kp T.b_check_text (fun σ => passAt (takes_of rfl rfl rfl rfl) σ) (pa_cons (pe_fld (pv 0) rfl) (pa_cons (pv 2) pa_nil))))
        (pss_cons (ps_if (pt_cmpR op_eq (pv 2) pe_str (nomark _)) (pss_one (ps_ret (pe_lst pa_nil))) pss_nil)
        (pss_cons (ps_set (i := 3) sc_sure.nd rfl (Or.inl rfl) (pe_call G_live_arcs (hr.mono (by decide)) rfl T.m_live_arcs T.F_live_arcs.kp T.b_live_arcs .nil pass0 (pa_cons (pv 0) (pa_cons (pv 2) (pa_cons pe_bl pa_nil)))))
        (pss_cons (ps_if (pt_cmp (pc_dnotin (hu_of hr) (pv 1) (pe_ix (ix_listK (K := K) rfl) (pv 3) pe_int (fun _ _ => rfl)))) (pss_one (ps_ret pe_non)) pss_nil)
        (pss_cons (ps_set (i := 4) sc_sure.nd rfl (Or.inl rfl) (pe_lst pa_nil))
        (pss_cons (ps_set (i := 5) sc_sure.nd rfl (Or.inl rfl) pe_int)
        (pss_cons (ps_set (i := 6) sc_sure.nd rfl (Or.inl rfl) (pv 1))
        (pss_cons (ps_while (passes_of rfl) (PW.pt (pw_and (pt_cmpR op_lt (pv 5) (pe_callB call_len_str rfl T.n_len (by decide +kernel) (pa_cons (pv 2) pa_nil)) (nomark _)) (pw_and1 (pt_cmpR op_eq (pe_callB (call_len_seqK (K := K) rfl) rfl T.n_len (by decide +kernel) (pa_cons (pe_dget (hu_of hr) (pe_ix (ix_listK (K := K) rfl) (pv 3) (pv 5) (fun _ _ => rfl)) (pv 6) (fun _ _ => rfl)) pa_nil)) pe_int (nomark _))))) (pss_cons (ps_set (i := 7) sc_sure.nd rfl (Or.inl rfl) (pe_ix (ix_listK (K := K) rfl) (pe_dget (hu_of hr) (pe_ix (ix_listK (K := K) rfl) (pv 3) (pv 5) (fun _ _ => rfl)) (pv 6) (fun _ _ => rfl)) pe_int (fun _ _ => rfl)))
        (pss_cons (ps_expr (pe_bm PySem.F.plainAttrs_list PySem.F.slot_list_append PySem.F.type_list_append mt_append (pv 4) (pa_cons (pv 7) pa_nil)))
        (pss_cons (ps_asg (pe_ix (ix_tupK (K := K) rfl) (pe_fld (pv 0) rfl) (pv 7) (fun _ _ => rfl)) (pg_tup rfl (pgs_cons (pg_name (i := 8) sc_sure.nd rfl (Or.inl rfl)) (pgs_cons (pg_name (i := 9) sc_sure.nd rfl (Or.inl rfl)) (pgs_cons (pg_name (i := 6) sc_sure.nd rfl (Or.inl rfl)) pgs_nil)))))
        (pss_one (ps_aug (i := 5) sc_sure.nd rfl (Or.inl rfl) (pe_callB call_len_str rfl T.n_len (by decide +kernel) (pa_cons (pv 9) pa_nil)) ip_add))))))
        (pss_one (ps_ret (pv 4)))))))))))), ?_⟩
    obtain ⟨dx, TT, hq, hT, harc, hok, hsg⟩ := id hL
    rcases h with ⟨hb, k⟩ | ⟨g, rfl, hg, ⟨hb, k⟩ | ⟨t, rfl, ht, hin, kn, kp⟩⟩
    · exact ⟨_, rfl, y, rfl, .inr ⟨hb, k⟩⟩
    · refine ⟨_, rfl, _, rfl, .inl ⟨g, rfl, hg, ?_⟩⟩
      exact ⟨_, rfl, q, _, dx, _, _, rfl, hq, T.cl_Loom, T.na_Loom_signs, lf_signs _ _, _, rfl, sg, x, rfl, .inl ⟨hb, k⟩⟩
    · have hal := hok.2.1
      have htl : (SX.S t).length ≤ sizeLine := le_size (by rw [SX.S_len]; omega)
      refine ⟨_, rfl, _, rfl, .inl ⟨g, rfl, hg, ?_⟩⟩
      refine ⟨_, rfl, q, _, dx, _, _, rfl, hq, T.cl_Loom, T.na_Loom_signs, lf_signs _ _, _, rfl, sg, _, rfl, .inr ⟨t, rfl, ht, hin, fun H1 s1 => ?_⟩⟩
      refine ⟨_, rfl, rfl, _, rfl, ?_⟩
      refine ite2 (fun c => ?_) (fun c => ?_)
      · have et : t = [] := by
          have e1 : V.str (SX.S t) = V.str "" := of_decide_eq_true c
          injection e1 with e1
          exact SX.S_inj e1
        refine ⟨le_size (by simp), fun a1 h1 => ?_⟩
        exact kp (.inl et) _ a1 [] (s1.trans (Same.new _ h1)) (s1.free h1) upd_same (.stop (.inl (by rw [et]; exact Nat.le_refl _)))
      · have tne : t ≠ [] := fun z => c (decide_eq_true (by rw [z]; rfl))
        have tpos := List.length_pos_iff.mpr tne
        have hL1 := hL.same s1
        refine ⟨_, rfl, _, rfl, q, sg, us, as, t, true, rfl, hL1, ht, fun H2 lv ds s2 hlv0 hlv hdl hls => ?_⟩
        obtain ⟨d0, hd0, kvs, ad, hdd, hkl, hno, hso, hinj⟩ := hls 0 (Nat.le_refl _) tpos
        rw [List.drop_zero] at hno hso
        refine ⟨_, rfl, _, rfl, lv, _, _, _, rfl, rfl, SqL.of hlv, atI_nat (j := 0) (by rw [List.getElem?_map, hd0]; rfl), d0, _, rfl, .inl ⟨kvs, Sum.inl (g : Int), .inl hdd, rfl, rfl⟩, ?_⟩
        refine ⟨_, rfl, ?_⟩
        by_cases z : liv as true t g = []
        · rw [hno g z]
          exact iteT (kn tne z H2 (s1.trans s2))
        · rw [(hso g z).1]
          refine iteF ?_
          refine ⟨Nat.zero_le _, fun ra hra => ?_⟩
          have sr : Same H2 (upd H2 ra (.lst [])) := Same.new _ hra
          have gr : upd H2 ra (.lst []) ra = some (.lst (nats [])) := upd_same
          have hra0 : H ra = none := (s1.trans s2).free hra
          have hra2 : H2 ra = none := hra
          generalize upd H2 ra (.lst []) = H3 at *
          refine ⟨_, rfl, ?_⟩
          refine ⟨fun m σ H' => ∃ (n h : Nat) (rw : List Nat) (v7 v8 v9 : Option V), σ = [some (.ref q), some (.int (g : Int)), some (.str (SX.S t)), some (.ref lv), some (.ref ra), some (.int (n : Int)), some (.int (h : Int)), v7, v8, v9] ∧ H' ra = some (.lst (nats rw)) ∧ Same H2 H' ∧ (∀ row, Srr as t n h row → Srr as t 0 g (rw ++ row)) ∧ (n < t.length → liv as true (t.drop n) h ≠ []) ∧ rw.length ≤ n ∧ m = t.length - n, ⟨_, 0, g, [], _, _, _, rfl, gr, sr, fun row hrow => hrow, fun _ => by rw [List.drop_zero]; exact z, Nat.le_refl _, rfl⟩, ?_⟩
          rintro m σ H4 ⟨n, h, rw', v7, v8, v9, rfl, hra4, s4, I1, I2, I3, rfl⟩
          have S4 := (s1.trans s2).trans s4
          refine ⟨_, rfl, _, rfl, _, rfl, htl, _, _, rfl, rfl, _, rfl, ?_⟩
          rw [SX.S_len]
          refine ite2 (fun c1 => ?_) (fun c1 => ?_)
          · have hn : n < t.length := by
              have := of_decide_eq_true c1
              omega
            obtain ⟨d1, hd1, kvs1, ad1, hdd1, _, _, hso1, _⟩ := hls n (Nat.zero_le _) hn
            have hne := I2 hn
            obtain ⟨f1, f2⟩ := hso1 h hne
            have hl4 : H4 (ad1 h) = some (.lst (nats (liv as true (t.drop n) h))) := s4 _ _ f2
            have hat : atI (ds.map V.ref) ((n : Nat) : Int) = some (V.ref d1) := atI_nat (by rw [List.getElem?_map, hd1]; rfl)
            refine ⟨_, rfl, _, rfl, lv, _, _, _, rfl, rfl, SqL.of (s4 _ _ hlv), hat, _, rfl, d1, _, rfl, .inl ⟨kvs1, .inl (h : Int), .inl (s4 _ _ hdd1), rfl, f1.symm⟩, ?_⟩
            refine ⟨_, _, rfl, .inl (SqL.of hl4), rfl, _, rfl, ?_⟩
            have ll : (nats (liv as true (t.drop n) h)).length = (liv as true (t.drop n) h).length := List.length_map _
            rw [ll]
            refine ite2 (fun c2 => ?_) (fun c2 => ?_)
            · have h1 : (liv as true (t.drop n) h).length = 1 := by
                have e := of_decide_eq_true c2
                injection e with e
                omega
              obtain ⟨i, hi⟩ := List.length_eq_one_iff.mp h1
              rw [hi] at hl4
              obtain ⟨a, ha, ea, hk⟩ := mem_liv.mp (by rw [hi]; exact List.mem_singleton.mpr rfl : i ∈ liv as true (t.drop n) h)
              obtain ⟨ta, hta1, hta2⟩ := harc.2 i a ha
              have hT4 := S4 _ _ hT
              have hta4 := S4 _ _ hta2
              have awl : a.2.1.length ≤ 12 := (hok.all.2 a (List.mem_of_getElem? ha)).2.2.1
              have aw1 : 1 ≤ a.2.1.length := (hok.all.2 a (List.mem_of_getElem? ha)).2.1
              have wsz : (SX.S a.2.1).length ≤ sizeLine := le_size (by rw [SX.S_len]; omega)
              refine ⟨_, fun _ _ h => h, ?_⟩
              refine ⟨_, rfl, _, rfl, lv, _, _, _, rfl, rfl, SqL.of (s4 _ _ hlv), hat, _, rfl, d1, _, rfl, .inl ⟨kvs1, .inl (h : Int), .inl (s4 _ _ hdd1), rfl, f1.symm⟩, ad1 h, _, _, _, rfl, rfl, SqL.of hl4, atI_nat (j := 0) rfl, ?_⟩
              refine ⟨_, rfl, .inl ⟨rfl, _, SqL.of hra4⟩, _, rfl, ra, _, _, rfl, rfl, hra4, lt_size (by rw [show (nats rw').length = rw'.length from List.length_map _]; omega), ?_⟩
              have s5 : Same H2 (upd H4 ra (.lst (nats rw' ++ [V.int ((i : Nat) : Int)]))) := s4.updNew hra2
              have hra5 : upd H4 ra (.lst (nats rw' ++ [V.int ((i : Nat) : Int)])) ra = some (.lst (nats (rw' ++ [i]))) := by rw [upd_same]; simp [nats]
              generalize upd H4 ra (.lst (nats rw' ++ [V.int ((i : Nat) : Int)])) = H5 at *
              have S5 := (s1.trans s2).trans s5
              refine ⟨_, rfl, q, _, dx, _, _, rfl, S5 _ _ hq, T.cl_Loom, T.na_Loom_arcs, lf_arcs _ _, _, rfl, TT, _, _, _, rfl, rfl, SqT.of (S5 _ _ hT), atI_nat hta1, ta, _, rfl, SqT.of (S5 _ _ hta2), rfl, _, _, rfl, _, _, rfl, _, _, rfl, rfl, ?_⟩
              refine ⟨_, rfl, _, rfl, _, rfl, wsz, ?_⟩
              refine ⟨_, _, rfl, rfl, ?_⟩
              refine ⟨t.length - (n + a.2.1.length), by omega, n + a.2.1.length, a.2.2, rw' ++ [i], some (.int (i : Int)), some (.int (a.1 : Int)), some (.str (SX.S a.2.1)), ?_, hra5, s5, fun row hrow => ?_, fun hlt => ?_, ?_, rfl⟩
              · have en : ((n : Int) + (((SX.S a.2.1).length : Nat) : Int)) = ((n + a.2.1.length : Nat) : Int) := by rw [SX.S_len]; omega
                show _ = [some (V.ref q), some (V.int (g : Int)), some (V.str (SX.S t)), some (V.ref lv), some (V.ref ra), some (V.int ((n + a.2.1.length : Nat) : Int)), _, _, _, _]
                rw [← en]
                rfl
              · rw [List.append_assoc]
                exact I1 _ (.go hn hi ha hrow)
              · rcases hk with ⟨k1, _, k3⟩ | ⟨k1, _, _⟩
                · rw [List.drop_drop] at k3
                  exact (gd_liv (fun q => by have := congrArg List.length q; rw [List.length_drop, List.length_nil] at this; omega)).mp k3
                · rw [List.length_drop] at k1
                  omega
              · rw [List.length_append, List.length_singleton]
                omega
            · refine ⟨_, rfl, kp (.inr z) H4 ra rw' S4 hra0 hra4 ?_⟩
              have := I1 [] (.stop (.inr fun q => c2 (decide_eq_true (by rw [q]; rfl))))
              rwa [List.append_nil] at this
          · refine iteF ⟨_, rfl, kp (.inr z) H4 ra rw' S4 hra0 hra4 ?_⟩
            have := I1 [] (.stop (.inl (by
              apply Classical.byContradiction
              intro q
              exact c1 (decide_eq_true (by omega)))))
            rwa [List.append_nil] at this
end
end J


set_option Elab.async false
set_option linter.all false
set_option maxRecDepth 100000
set_option maxHeartbeats 4000000
namespace J
open PySem L2
/-! ### dicts of ints by states -/
abbrev KV := List (Nat × Int)
def get (e : KV) (g : Nat) : Option Int := (e.find? fun p => decide (p.1 = g)).map (·.2)
def put (e : KV) (g : Nat) (v : Int) : KV := if (e.any fun p => decide (p.1 = g)) = true then e.map (fun p => if p.1 = g then (p.1, v) else p) else e ++ [(g, v)]
def val (e : KV) (g : Nat) : Int := (get e g).getD 0
def enc (e : KV) : List (Key × V) := e.map fun p => (Sum.inl (p.1 : Int), V.int p.2)
theorem inl_eq (a b : Nat) : ((Sum.inl (a : Int) : Key) = Sum.inl (b : Int)) ↔ a = b := by
  constructor
  · intro h; injection h with h; omega
  · intro h; rw [h]
theorem valV_enc (e : KV) (g : Nat) : valV (enc e) (Sum.inl (g : Int)) = (get e g).map V.int := by
  unfold valV get enc
  induction e with
  | nil => rfl
  | cons p r ih =>
    rw [List.map_cons, List.find?_cons, List.find?_cons]
    by_cases c : p.1 = g
    · rw [decide_eq_true ((inl_eq p.1 g).mpr c), decide_eq_true c]
      rfl
    · rw [decide_eq_false (fun h => c ((inl_eq p.1 g).mp h)), decide_eq_false c]
      exact ih
theorem putK_enc (e : KV) (g : Nat) (v : Int) : putK (enc e) (Sum.inl (g : Int)) (V.int v) = enc (put e g v) := by
  unfold putK put enc
  have e1 : ((e.map fun p : Nat × Int => ((Sum.inl (p.1 : Int) : Key), V.int p.2)).any fun kv => decide (kv.1 = Sum.inl (g : Int))) = e.any fun p => decide (p.1 = g) := by
    rw [List.any_map]
    congr 1
    funext p
    exact decide_eq_decide.mpr (inl_eq p.1 g)
  rw [e1]
  by_cases c : (e.any fun p => decide (p.1 = g)) = true
  · rw [if_pos c, if_pos c, List.map_map, List.map_map]
    refine List.map_congr_left fun p _ => ?_
    by_cases d : p.1 = g
    · simp [d]
    · have d2 : ¬ ((p.1 : Int) = (g : Int)) := by omega
      simp [d, d2]
  · rw [if_neg c, if_neg c]
    simp
theorem get_none {e : KV} {g : Nat} (h : ∀ p ∈ e, p.1 ≠ g) : get e g = none := by
  unfold get
  rw [List.find?_eq_none.mpr fun p hp => by simpa using h p hp]
  rfl
theorem val_none {e : KV} {g : Nat} (h : ∀ p ∈ e, p.1 ≠ g) : val e g = 0 := by unfold val; rw [get_none h]; rfl
theorem get_mem {e : KV} {g : Nat} (h : (e.any fun p => decide (p.1 = g)) = true) : ∃ v, get e g = some v := by
  unfold get
  obtain ⟨p, hp, hg⟩ := List.any_eq_true.mp h
  cases q : e.find? fun p => decide (p.1 = g) with
  | none => exact absurd hg (List.find?_eq_none.mp q p hp)
  | some v => exact ⟨v.2, rfl⟩
theorem get_cons (p : Nat × Int) (r : KV) (h : Nat) : get (p :: r) h = if p.1 = h then some p.2 else get r h := by
  unfold get
  rw [List.find?_cons]
  by_cases c : p.1 = h
  · rw [decide_eq_true c, if_pos c]; rfl
  · rw [decide_eq_false c, if_neg c]
theorem get_append (a b : KV) (h : Nat) : get (a ++ b) h = (get a h).or (get b h) := by
  induction a with
  | nil => simp [get]
  | cons p r ih =>
    rw [List.cons_append, get_cons, get_cons, ih]
    by_cases c : p.1 = h
    · simp [c]
    · simp [c]
theorem get_map (e : KV) (g h : Nat) (v : Int) : get (e.map fun p => if p.1 = g then (p.1, v) else p) h = if h = g then (get e h).map fun _ => v else get e h := by
  induction e with
  | nil => simp [get]
  | cons p r ih =>
    rw [List.map_cons, get_cons, ih, get_cons]
    by_cases c : p.1 = g
    · by_cases d : h = g
      · subst d; simp [c]
      · have c2 : ¬ p.1 = h := fun z => d (z ▸ c)
        have c3 : ¬ g = h := fun z => d z.symm
        simp [c, d, c3]
    · by_cases d : h = g
      · subst d; simp [c]
      · simp [c, d]
theorem get_put (e : KV) (g : Nat) (v : Int) (h : Nat) : get (put e g v) h = if h = g then some v else get e h := by
  unfold put
  by_cases c : (e.any fun p => decide (p.1 = g)) = true
  · rw [if_pos c, get_map]
    by_cases d : h = g
    · subst d
      obtain ⟨w, hw⟩ := get_mem c
      simp [hw]
    · simp [d]
  · rw [if_neg c, get_append]
    have hn : ∀ p ∈ e, p.1 ≠ g := fun p hp z => c (List.any_eq_true.mpr ⟨p, hp, decide_eq_true z⟩)
    by_cases d : h = g
    · subst d
      rw [get_none hn]
      simp [get]
    · have d2 : ¬ g = h := fun z => d z.symm
      simp [d, get_cons, d2]
      simp [get]
theorem val_put (e : KV) (g : Nat) (v : Int) (h : Nat) : val (put e g v) h = if h = g then v else val e h := by
  unfold val
  rw [get_put]
  by_cases d : h = g
  · simp [d]
  · simp [d]
structure OkKV (e : KV) : Prop where
  nd : (e.map (·.1)).Nodup
  lt : ∀ p ∈ e, p.1 < 64
theorem OkKV.put {e : KV} (h : OkKV e) {g : Nat} (hg : g < 64) (v : Int) : OkKV (put e g v) := by
  unfold J.put
  by_cases c : (e.any fun p => decide (p.1 = g)) = true
  · rw [if_pos c]
    have ek : ((e.map fun p => if p.1 = g then (p.1, v) else p).map (·.1)) = e.map (·.1) := by
      rw [List.map_map]
      exact List.map_congr_left fun p _ => by by_cases d : p.1 = g <;> simp [d]
    refine ⟨by rw [ek]; exact h.nd, fun p hp => ?_⟩
    have : p.1 ∈ e.map (·.1) := by rw [← ek]; exact List.mem_map_of_mem hp
    obtain ⟨q, hq, e2⟩ := List.mem_map.mp this
    rw [← e2]
    exact h.lt q hq
  · rw [if_neg c]
    refine ⟨?_, fun p hp => ?_⟩
    · rw [List.map_append, List.nodup_append]
      refine ⟨h.nd, by simp, fun x hx y hy => ?_⟩
      obtain ⟨p, hp, rfl⟩ := List.mem_map.mp hx
      have : y = g := by simpa using hy
      rw [this]
      exact fun z => c (List.any_eq_true.mpr ⟨p, hp, decide_eq_true z⟩)
    · rcases List.mem_append.mp hp with q | q
      · exact h.lt p q
      · rw [List.mem_singleton.mp q]; exact hg
theorem OkKV.len {e : KV} (h : OkKV e) : e.length ≤ 64 := by
  have := nodup_le 64 (e.map (·.1)) h.nd fun x hx => by
    obtain ⟨p, hp, rfl⟩ := List.mem_map.mp hx
    exact h.lt p hp
  simpa using this
theorem OkKV.nil : OkKV [] := ⟨by simp, fun p hp => nomatch hp⟩
/-! ### sums -/
theorem sum_add (l : List Nat) (f g : Nat → Int) : (l.map fun x => f x + g x).sum = (l.map f).sum + (l.map g).sum := by
  induction l with
  | nil => rfl
  | cons a r ih => simp only [List.map_cons, List.sum_cons, ih]; omega
theorem sum_add' {α : Type} (l : List α) (f g : α → Int) : (l.map fun x => f x + g x).sum = (l.map f).sum + (l.map g).sum := by
  induction l with
  | nil => rfl
  | cons a r ih => simp only [List.map_cons, List.sum_cons, ih]; omega
theorem sum_zero {α : Type} (l : List α) (f : α → Int) (h : ∀ x ∈ l, f x = 0) : (l.map f).sum = 0 := by
  induction l with
  | nil => rfl
  | cons a r ih =>
    rw [List.map_cons, List.sum_cons, h a (by simp), ih fun x hx => h x (List.mem_cons_of_mem _ hx)]
    rfl
theorem sum_single (n k : Nat) (v : Int) (hk : k < n) : ((List.range n).map fun g => if g = k then v else 0).sum = v := by
  induction n with
  | zero => omega
  | succ n ih =>
    rw [List.range_succ, List.map_append, List.sum_append]
    by_cases c : k = n
    · subst c
      rw [sum_zero _ _ fun x hx => by
        have := List.mem_range.mp hx
        rw [if_neg (by omega)]]
      simp
    · rw [ih (by omega)]
      have : ¬ n = k := fun z => c z.symm
      simp [this]
theorem total_eq {e : KV} (h : OkKV e) : (e.map (·.2)).sum = ((List.range 64).map (val e)).sum := by
  obtain ⟨nd, lt⟩ := h
  induction e with
  | nil => rw [sum_zero _ _ fun x _ => val_none (fun p hp => absurd hp (List.not_mem_nil))]; rfl
  | cons p r ih =>
    rw [List.map_cons, List.nodup_cons] at nd
    have hp : ∀ q ∈ r, q.1 ≠ p.1 := fun q hq z => nd.1 (by rw [← z]; exact List.mem_map_of_mem hq)
    have e1 : ∀ g, val (p :: r) g = (if g = p.1 then p.2 else 0) + val r g := fun g => by
      unfold val
      rw [get_cons]
      by_cases c : p.1 = g
      · subst c
        rw [get_none hp]
        simp
      · have c2 : ¬ g = p.1 := fun z => c z.symm
        simp [c, c2]
    rw [List.map_cons, List.sum_cons, ih nd.2 fun q hq => lt q (List.mem_cons_of_mem _ hq)]
    rw [show (List.range 64).map (val (p :: r)) = (List.range 64).map (fun g => (if g = p.1 then p.2 else 0) + val r g) from List.map_congr_left fun g _ => e1 g]
    rw [sum_add, sum_single 64 p.1 p.2 (lt p (by simp))]
/-! ### rows counted -/
def con (x : List Nat) (i : Nat) (F : Nat → Nat → Int) (j h : Nat) (a : Arc) : Int := if matchAt x a.2.1 i = true ∧ j = i + a.2.1.length ∧ h = a.2.2 then F i a.1 else 0
def step (as : List Arc) (x : List Nat) (i : Nat) (F : Nat → Nat → Int) (j h : Nat) : Int := F j h + (as.map (con x i F j h)).sum
def run (as : List Arc) (s : Nat) (x : List Nat) : Nat → Nat → Nat → Int
  | 0 => fun j h => if j = 0 ∧ h = s then 1 else 0
  | i + 1 => step as x i (run as s x i)
/-- the number of the rows from s that read x -/
def cnt (as : List Arc) (s : Nat) (x : List Nat) : Int := ((List.range 64).map (run as s x x.length x.length)).sum
theorem con_self {x : List Nat} {i : Nat} {F : Nat → Nat → Int} {h : Nat} {a : Arc} (ha : 1 ≤ a.2.1.length) : con x i F i h a = 0 := by
  unfold con
  rw [if_neg]
  rintro ⟨_, h2, _⟩
  omega
def tv (T : List KV) (j h : Nat) : Int := match T[j]? with | some e => val e h | none => 0
theorem tv_at {T : List KV} {j h : Nat} {e : KV} (q : T[j]? = some e) : tv T j h = val e h := by unfold tv; rw [q]
theorem tv_set {T : List KV} {k : Nat} {e : KV} (hk : T[k]? = some e) (g : Nat) (v : Int) (j h : Nat) : tv (T.set k (put e g (val e g + v))) j h = tv T j h + if j = k ∧ h = g then v else 0 := by
  have hlt : k < T.length := (List.getElem?_eq_some_iff.mp hk).1
  by_cases c : j = k
  · subst c
    rw [tv_at (e := put e g (val e g + v)) (by rw [List.getElem?_set_self hlt]), tv_at hk, val_put]
    by_cases d : h = g
    · subst d; simp
    · simp [d]
  · have : tv (T.set k (put e g (val e g + v))) j h = tv T j h := by
      unfold tv
      rw [List.getElem?_set_ne (fun z => c z.symm)]
    rw [this]
    simp [c]
structure TabAt (H : Hp) (ds : List Addr) (T : List KV) : Prop where
  len : ds.length = T.length
  nd : ds.Nodup
  dict : ∀ (j : Nat) (d : Addr) (e : KV), ds[j]? = some d → T[j]? = some e → H d = some (.dK (enc e))
  ok : ∀ e ∈ T, OkKV e
theorem TabAt.same {H H' : Hp} {ds : List Addr} {T : List KV} (h : TabAt H ds T) (s : Same H H') : TabAt H' ds T := ⟨h.len, h.nd, fun j d e h1 h2 => s _ _ (h.dict j d e h1 h2), h.ok⟩
theorem TabAt.get {H : Hp} {ds : List Addr} {T : List KV} (h : TabAt H ds T) {j : Nat} (hj : j < T.length) : ∃ d e, ds[j]? = some d ∧ T[j]? = some e ∧ H d = some (.dK (enc e)) ∧ OkKV e := by
  have hd : j < ds.length := by rw [h.len]; exact hj
  refine ⟨ds[j], T[j], List.getElem?_eq_getElem hd, List.getElem?_eq_getElem hj, h.dict j _ _ (List.getElem?_eq_getElem hd) (List.getElem?_eq_getElem hj), h.ok _ (List.getElem_mem hj)⟩
theorem TabAt.set {H : Hp} {ds : List Addr} {T : List KV} (h : TabAt H ds T) {j : Nat} {d : Addr} {e : KV} (hd : ds[j]? = some d) (he : OkKV e) : TabAt (upd H d (.dK (enc e))) ds (T.set j e) := by
  have hj : j < ds.length := (List.getElem?_eq_some_iff.mp hd).1
  refine ⟨by rw [List.length_set]; exact h.len, h.nd, fun k c f h1 h2 => ?_, fun f hf => ?_⟩
  · by_cases q : k = j
    · subst q
      rw [hd] at h1
      cases h1
      rw [List.getElem?_set_self (by rw [← h.len]; exact hj)] at h2
      cases h2
      exact upd_same
    · rw [List.getElem?_set_ne (fun z => q z.symm)] at h2
      have ncd : c ≠ d := fun z => by
        subst z
        have e1 := (List.getElem?_eq_some_iff.mp h1)
        have e2 := (List.getElem?_eq_some_iff.mp hd)
        exact q ((List.getElem_inj h.nd).mp (e1.2.trans e2.2.symm))
      rw [upd_ne ncd]
      exact h.dict k c f h1 h2
  · rcases List.mem_or_eq_of_mem_set hf with q | q
    · exact h.ok f q
    · rw [q]; exact he
theorem dput_enc {H : Hp} {d : Addr} {e : KV} (hd : H d = some (.dK (enc e))) (ok : OkKV e) (g : Nat) (v : Int) : DPut H d (.int (g : Int)) (.int v) (upd H d (.dK (enc (put e g v)))) := by
  have q := DPut.k (k := (Sum.inl (g : Int) : Key)) (v := V.int v) hd (lt_size (by rw [enc, List.length_map]; have := ok.len; omega))
  rw [putK_enc] at q
  exact q
theorem dget_enc {H : Hp} {d : Addr} {e : KV} (hd : L2.Rd H d (.dK (enc e))) (g : Nat) : DGet H d (.int (g : Int)) ((get e g).map V.int) := .inl ⟨_, Sum.inl (g : Int), hd, rfl, (valV_enc e g).symm⟩
theorem enc_vals (e : KV) : (enc e).map (·.2) = (e.map (·.2)).map V.int := by unfold enc; rw [List.map_map, List.map_map]; rfl
theorem cutS_mid (x : List Nat) {i k : Nat} (hi : i ≤ x.length) : cutS (SX.S x) (some (i : Int)) (some ((i + k : Nat) : Int)) = SX.S ((x.drop i).take k) := by
  unfold cutS
  rw [HT.sIx_nat, HT.sIx_nat, SX.S_len]
  show SX.S ((x.drop (min i x.length)).take (min (i + k) x.length - min i x.length)) = _
  congr 1
  rw [Nat.min_eq_left hi]
  by_cases c : i + k ≤ x.length
  · rw [Nat.min_eq_left c, show i + k - i = k by omega]
  · rw [Nat.min_eq_right (by omega), List.take_of_length_le (by rw [List.length_drop]; omega), List.take_of_length_le (by rw [List.length_drop]; omega)]
def spCount (C : Addr) : Sp := fun vs H Q _ => ∃ (p : Addr) (sg : List Nat) (us : List V) (as : List Arc) (s : Nat) (x : List Nat), vs = [.ref p, .int (s : Int), .str (SX.S x)] ∧ LoomAt C H p sg us as ∧ s ≤ 63 ∧ x.length ≤ 2000 ∧ (∀ c ∈ x, c ∈ sg) ∧
  ∀ H' : Hp, Same H H' → Q (.int (cnt as s x)) H'
end J


set_option Elab.async false
set_option linter.all false
set_option maxRecDepth 100000
set_option maxHeartbeats 4000000
namespace J
open PySem L2
theorem getD_val (e : KV) (g : Nat) : ((get e g).map V.int).getD (V.int 0) = V.int (val e g) := by
  unfold val
  cases get e g <;> rfl
def spCount3 (K : PySem.W.Frag) (C CS CT : Addr) : Sp := fun vs H Q E => (∃ (q : Addr) (sg : List Nat) (us : List V) (as : List Arc) (y x : V), vs = [.ref q, y, x] ∧ LoomAt C H q sg us as ∧ ((BadSt K H y ∧ E (.ref CS) none H) ∨ (∃ g : Nat, y = .int (g : Int) ∧ g ≤ 63 ∧ ((BadTx K sg H x ∧ ∀ H', Same H H' → E (.ref CT) none H') ∨ (∃ t : List Nat, x = .str (SX.S t) ∧ t.length ≤ 2000 ∧ (∀ c ∈ t, c ∈ sg) ∧ ∀ H' : Hp, Same H H' → Q (.int (cnt as g t)) H')))))
section
variable {P : Program} {w : World} {K : PySem.W.Frag} {mg : Str → Option Value} {base : Heap}
theorem ok_count (T : Tx K mg) : FnOk P w K mg base (L2.CX P w) 5 T.f_count T.fd_count P_count (spCount3 K T.C_Loom T.C_UnknownState T.C_InvalidText) := by
  have G_check_state : FnOk P w K mg base (L2.CX P w) 2 T.f_check_state T.fd_check_state P_check_state (spStX K T.C_UnknownState) := ok_check_stateX T
  have G_check_text : FnOk P w K mg base (L2.CX P w) 2 T.f_check_text T.fd_check_text P_check_text (spTxX K T.C_InvalidText) := ok_check_textX T
  refine T.F_count.okX sc_count (fun vs H Q E h => ?_) (fun cdv A outer s0 H vs Q E hr h => ?_)
  · obtain ⟨q, sg, us, as, y, x0, rfl, _⟩ := h
    rfl
  · obtain ⟨p, sg, us, as, y, x0, rfl, hL, h⟩ := h
    refine ⟨_, (pss_cons (ps_expr (pe_callS G_check_state (hr.mono (by decide)) rfl T.m_check_state T.F_check_state.kp T.b_check_state (fun σ => passAt (takes_of rfl rfl rfl rfl) σ) (pa_cons (pv 1) pa_nil)))
        (pss_cons (ps_expr (pe_callS G_check_text (hr.mono (by decide)) rfl T.m_check_text T.F_check_text.kp T.b_check_text (fun σ => passAt (takes_of rfl rfl rfl rfl) σ) (pa_cons (pe_fld (pv 0) rfl) (pa_cons (pv 2) pa_nil))))
        (pss_cons (ps_setLc (i := 3) (own := [("_", 9)]) (g := (gName 9)) rfl sc_count.nd rfl rfl (sw_true rfl rfl rfl (by decide +kernel)) (pi_range1 rfl T.n_range (pa_cons (pe_op op_add (pe_callB call_len_str rfl T.n_len (by decide +kernel) (pa_cons (pv 2) pa_nil)) pe_int) pa_nil)) (blkOk_by (N := N_count) (sc := defScope s_count) (by decide +kernel)) (fun _ _ _ _ _ => (pg_name (i := 9) sc_count.nd rfl (Or.inl rfl))) (fun _ _ _ _ _ => pts_nil) (fun _ _ _ _ _ => pe_dnewK))
        (pss_cons (ps_dput (hu_of hr) (pe_ix (ix_listK (K := K) rfl) (pv 3) pe_int (fun _ _ => rfl)) (pv 1) pe_int rfl)
        (pss_cons (ps_for (passes_of rfl) rfl (pi_range1 rfl T.n_range (pa_cons (pe_callB call_len_str rfl T.n_len (by decide +kernel) (pa_cons (pv 2) pa_nil)) pa_nil)) (pg_name (i := 4) sc_count.nd rfl (Or.inl rfl)) (pss_one (ps_for (passes_of rfl) rfl (pi_tup (pe_fld (pv 0) rfl)) (pg_tup rfl (pgs_cons (pg_name (i := 5) sc_count.nd rfl (Or.inl rfl)) (pgs_cons (pg_name (i := 6) sc_count.nd rfl (Or.inl rfl)) (pgs_cons (pg_name (i := 7) sc_count.nd rfl (Or.inl rfl)) pgs_nil)))) (pss_one (ps_if (PW.pt (pw_and (pt_cmp (pc_din (hu_of hr) (pv 5) (pe_ix (ix_listK (K := K) rfl) (pv 3) (pv 4) (fun _ _ => rfl)))) (pw_and1 (pt_val (pe_bm PySem.F.plainAttrs_str PySem.F.slot_str_startswith PySem.F.type_str_startswith mt_startswith3 (pv 2) (pa_cons (pv 6) (pa_cons (pv 4) pa_nil))))))) (pss_cons (ps_set (i := 8) sc_count.nd rfl (Or.inl rfl) (pe_op op_add (pv 4) (pe_callB call_len_str rfl T.n_len (by decide +kernel) (pa_cons (pv 6) pa_nil))))
        (pss_one (ps_dput (hu_of hr) (pe_ix (ix_listK (K := K) rfl) (pv 3) (pv 8) (fun _ _ => rfl)) (pv 7) (pe_op op_add (pe_dget2 (hu_of hr) (pe_ix (ix_listK (K := K) rfl) (pv 3) (pv 8) (fun _ _ => rfl)) (pv 7) pe_int ⟨rfl, rfl, rfl, rfl⟩) (pe_dget (hu_of hr) (pe_ix (ix_listK (K := K) rfl) (pv 3) (pv 4) (fun _ _ => rfl)) (pv 5) (fun _ _ => rfl))) rfl))) pss_nil)))))
        (pss_one (ps_ret (pe_callB (cr_sumK (K := K) rfl rfl) rfl T.n_sum (by decide +kernel) (pa_cons (pe_listVals rfl (pe_ix (ix_listK (K := K) rfl) (pv 3) (pe_callB call_len_str rfl T.n_len (by decide +kernel) (pa_cons (pv 2) pa_nil)) (fun _ _ => rfl)) rfl T.n_list (by decide +kernel)) pa_nil))))))))), ?_⟩
    obtain ⟨dx, Tp, hp, hTp, harc, hok, hsg⟩ := id hL
    rcases h with ⟨hb, k⟩ | ⟨s, rfl, hs, ⟨hb, k⟩ | ⟨x, rfl, hx, hin, k⟩⟩
    · exact ⟨_, rfl, y, rfl, .inr ⟨hb, k⟩⟩
    · refine ⟨_, rfl, _, rfl, .inl ⟨s, rfl, hs, ?_⟩⟩
      exact ⟨_, rfl, p, _, dx, _, _, rfl, hp, T.cl_Loom, T.na_Loom_signs, lf_signs _ _, _, rfl, sg, x0, rfl, .inl ⟨hb, k⟩⟩
    · have oka := hok.all
      have hxl : (SX.S x).length ≤ sizeLine := le_size (by rw [SX.S_len]; omega)
      have exl : ((SX.S x).length : Int) = (x.length : Int) := by rw [SX.S_len]
      refine ⟨_, rfl, _, rfl, .inl ⟨s, rfl, hs, ?_⟩⟩
      refine ⟨_, rfl, p, _, dx, _, _, rfl, hp, T.cl_Loom, T.na_Loom_signs, lf_signs _ _, _, rfl, sg, _, rfl, .inr ⟨x, rfl, hx, hin, fun H1 s1 => ?_⟩⟩
      -- the table
      refine ⟨_, rfl, _, rfl, hxl, _, _, rfl, rfl, _, rfl, by rw [exl]; omega, by rw [exl]; omega, fun D hD => lc_range (lo := 0) (n := x.length + 1) (fun i H' => ∃ ds : List Addr, ds.length = i ∧ ds.Nodup ∧ H' D = some (.lst (ds.map V.ref)) ∧ (∀ d ∈ ds, H' d = some (.dK []) ∧ H d = none ∧ d ≠ D) ∧ Same H H') ?_ ?_ ?_⟩
      · exact ⟨[], rfl, by simp, upd_same, fun d hd => absurd hd (List.not_mem_nil), s1.trans (Same.new _ hD)⟩
      · rintro i H2 hi ⟨ds, rfl, nd, hDl, hds, s2⟩
        refine ⟨rfl, fun d hd => ?_⟩
        have nDd : D ≠ d := (hp_ne hDl hd).symm
        have hd0 : H d = none := s2.free hd
        refine ⟨_, by rw [upd_ne nDd]; exact hDl, lt_size (by simp; omega), ds ++ [d], by simp, ?_, by rw [upd_same]; simp, fun c hc => ?_, (s2.trans (Same.new _ hd)).updNew (s1.free hD)⟩
        · rw [List.nodup_append]
          exact ⟨nd, by simp, fun a ha b hb => by
            rw [List.mem_singleton.mp hb]
            exact fun z => hp_ne (hds a ha).1 hd z.symm⟩
        · rcases List.mem_append.mp hc with q | q
          · obtain ⟨q1, q2, q3⟩ := hds c q
            exact ⟨by rw [upd_ne q3, upd_ne (hp_ne q1 hd).symm]; exact q1, q2, q3⟩
          · rw [List.mem_singleton.mp q]
            exact ⟨by rw [upd_ne nDd.symm]; exact upd_same, hd0, nDd.symm⟩
      · rintro H2 ⟨ds, hl, nd, hDl, hds, s2⟩
        have hD0 : H D = none := s1.free hD
        have tab0 : TabAt H2 ds (List.replicate (x.length + 1) []) := ⟨by simp [hl], nd, fun j d e h1 h2 => by
          have e0 : e = [] := (List.mem_replicate.mp (List.mem_of_getElem? h2)).2
          rw [e0]
          exact (hds d (List.mem_of_getElem? h1)).1, fun e he => by rw [(List.mem_replicate.mp he).2]; exact .nil⟩
        have hfr : ∀ d ∈ ds, H d = none ∧ d ≠ D := fun d hd => (hds d hd).2
        obtain ⟨d0, e0, hd0, he0, hdd0, _⟩ := tab0.get (j := 0) (by simp)
        have e00 : e0 = [] := (List.mem_replicate.mp (List.mem_of_getElem? he0)).2
        subst e00
        have nD0 := hfr d0 (List.mem_of_getElem? hd0)
        -- ways[0][state] = 1
        refine ⟨_, rfl, D, _, _, _, rfl, rfl, SqL.of hDl, atI_nat (j := 0) (by rw [List.getElem?_map, hd0]; rfl), _, rfl, d0, _, rfl, dput_enc hdd0 .nil s 1, ?_⟩
        have okp : OkKV (put [] s 1) := OkKV.nil.put (by omega) 1
        have tab1 := tab0.set hd0 okp
        have sm1 := s2.updNew (o := .dK (enc (put [] s 1))) nD0.1
        have hD1 : upd H2 d0 (.dK (enc (put [] s 1))) D = some (.lst (ds.map V.ref)) := by rw [upd_ne nD0.2.symm]; exact hDl
        have tv1 : ∀ j h, tv ((List.replicate (x.length + 1) ([] : KV)).set 0 (put [] s 1)) j h = run as s x 0 j h := fun j h => by
          have q := tv_set (T := List.replicate (x.length + 1) ([] : KV)) (k := 0) (e := []) he0 s 1 j h
          rw [show val [] s + 1 = 1 from rfl] at q
          rw [q]
          have z : tv (List.replicate (x.length + 1) ([] : KV)) j h = 0 := by
            unfold tv
            cases c : (List.replicate (x.length + 1) ([] : KV))[j]? with
            | none => rfl
            | some e => rw [(List.mem_replicate.mp (List.mem_of_getElem? c)).2]; rfl
          rw [z]
          show 0 + _ = if j = 0 ∧ h = s then (1 : Int) else 0
          omega
        clear tab0 hd0 he0
        refine ⟨_, rfl, _, rfl, hxl, _, rfl, by rw [exl]; omega, by rw [exl]; omega, for_range (lo := 0) (n := x.length) (fun i σ H' => ∃ (T' : List KV) (v4 v5 v6 v7 v8 : Option V), σ = [some (.ref p), some (.int (s : Int)), some (.str (SX.S x)), some (.ref D), v4, v5, v6, v7, v8, none] ∧
          H' D = some (.lst (ds.map V.ref)) ∧ TabAt H' ds T' ∧ (∀ j h, tv T' j h = run as s x i j h) ∧ Same H H') ?_ ?_ ?_⟩
        · exact ⟨_, none, none, none, none, none, rfl, hD1, tab1, tv1, sm1⟩
        · rintro i σ H3 hi ⟨T3, v4, v5, v6, v7, v8, rfl, hD3, tab3, tv3, sm3⟩
          have hTl : T3.length = x.length + 1 := by rw [← tab3.len, hl]
          obtain ⟨di, ei, hdi, hei, hddi, oki⟩ := tab3.get (j := i) (by omega)
          have ezi : (0 : Int) + (i : Int) = (i : Int) := by omega
          refine ⟨_, rfl, p, _, dx, _, _, rfl, sm3 _ _ hp, T.cl_Loom, T.na_Loom_arcs, lf_arcs _ _, Tp, rfl, ⟨_, SqT.of (sm3 _ _ hTp)⟩, for_tup (K := K) (a := Tp) (xs := us) (fun m σ H' => ∃ (T' : List KV) (v5 v6 v7 v8 : Option V), σ = [some (.ref p), some (.int (s : Int)), some (.str (SX.S x)), some (.ref D), some (.int (0 + (i : Int))), v5, v6, v7, v8, none] ∧
            H' D = some (.lst (ds.map V.ref)) ∧ TabAt H' ds T' ∧ (∀ j h, tv T' j h = run as s x i j h + ((as.take m).map (con x i (run as s x i) j h)).sum) ∧ Same H H') ?_ ?_ ?_ ?_⟩
          · exact ⟨T3, v5, v6, v7, v8, rfl, hD3, tab3, fun j h => by rw [tv3]; simp, sm3⟩
          · rintro m σ H4 _ ⟨_, _, _, _, _, _, _, _, _, sm4⟩
            exact SqT.of (sm4 _ _ hTp)
          · rintro m y σ H4 hy ⟨T4, v5, v6, v7, v8, rfl, hD4, tab4, tv4, sm4⟩
            have hm : m < as.length := by
              have q := (List.getElem?_eq_some_iff.mp hy).1
              have := harc.1
              omega
            have ham : as[m]? = some as[m] := List.getElem?_eq_getElem hm
            obtain ⟨t, hut, htt⟩ := harc.2 m as[m] ham
            rw [hut] at hy
            cases hy
            obtain ⟨o1, o2, o3, o4⟩ := oka.2 as[m] (List.getElem_mem hm)
            have hT4 : T4.length = x.length + 1 := by rw [← tab4.len, hl]
            obtain ⟨ci, fi, hci, hfi, hcci, okf⟩ := tab4.get (j := i) (by omega)
            -- what stands at the place itself is not changed
            have row : ∀ g, val fi g = run as s x i i g := fun g => by
              rw [← tv_at hfi, tv4, sum_zero _ _ fun a ha => con_self (oka.2 a (List.mem_of_mem_take ha)).2.1]
              omega
            have snoc : ∀ j h, ((as.take (m + 1)).map (con x i (run as s x i) j h)).sum = ((as.take m).map (con x i (run as s x i) j h)).sum + con x i (run as s x i) j h as[m] := fun j h => by
              rw [← take_snoc ham, List.map_append, List.sum_append]
              simp
            have atw : ∀ {j : Nat} {d : Addr}, ds[j]? = some d → atI (ds.map V.ref) (j : Int) = some (V.ref d) := fun {j d} q => atI_nat (by rw [List.getElem?_map, q]; rfl)
            refine ⟨t, _, rfl, SqT.of (sm4 _ _ htt), rfl, _, _, rfl, _, _, rfl, _, _, rfl, rfl, ?_⟩
            refine ⟨_, rfl, _, rfl, _, rfl, D, _, _, _, rfl, rfl, SqL.of hD4, by rw [ezi]; exact atw hci, ci, _, rfl, dget_enc (.inl hcci) _, _, rfl, ?_⟩
            refine ite2 (fun c => ?_) (fun c => ?_)
            · obtain ⟨w, hw⟩ : ∃ w, get fi as[m].1 = some w := by
                cases q : get fi as[m].1 with
                | none => rw [q] at c; cases c
                | some w => exact ⟨w, rfl⟩
              have hwv : w = run as s x i i as[m].1 := by
                rw [← row]
                unfold val
                rw [hw]
                rfl
              refine ⟨_, rfl, rfl, _, rfl, _, rfl, _, _, _, rfl, rfl, _, rfl, ?_⟩
              rw [ezi, starts_S (by omega) o2]
              refine ite2 (fun c2 => ?_) (fun c2 => ?_)
              · have hle := matchAt_le c2 (by omega)
                have hw12 : (SX.S as[m].2.1).length ≤ sizeLine := le_size (by rw [SX.S_len]; omega)
                have hend : ((i : Int) + ((SX.S as[m].2.1).length : Nat)) = ((i + as[m].2.1.length : Nat) : Int) := by rw [SX.S_len]; omega
                obtain ⟨ce, fe, hce, hfe, hcce, okfe⟩ := tab4.get (j := i + as[m].2.1.length) (by omega)
                have atE : atI (ds.map V.ref) ((i : Int) + ((SX.S as[m].2.1).length : Nat)) = some (V.ref ce) := by rw [hend]; exact atw hce
                refine ⟨_, rfl, _, rfl, _, rfl, hw12, _, _, rfl, rfl, ?_⟩
                refine ⟨_, rfl, _, rfl, D, _, _, _, rfl, rfl, SqL.of hD4, atE, ce, rfl, .inl ⟨_, .inl hcce⟩, _, rfl, _, dget_enc (.inl hcce) _, ?_⟩
                refine ⟨_, rfl, _, rfl, D, _, _, _, rfl, rfl, SqL.of hD4, atw hci, _, rfl, ci, V.int w, rfl, by have q := dget_enc (.inl hcci) as[m].1; rw [hw] at q; exact q, val fe as[m].2.2, w, getD_val _ _, rfl, ?_⟩
                refine ⟨_, rfl, _, rfl, D, _, _, _, rfl, rfl, SqL.of hD4, atE, _, rfl, ce, _, rfl, dput_enc hcce okfe as[m].2.2 (val fe as[m].2.2 + w), ?_⟩
                have fr := hfr ce (List.mem_of_getElem? hce)
                refine ⟨T4.set (i + as[m].2.1.length) (put fe as[m].2.2 (val fe as[m].2.2 + w)), _, _, _, _, rfl, by rw [upd_ne fr.2.symm]; exact hD4, tab4.set hce (okfe.put (by omega) _), fun j h => ?_, sm4.updNew fr.1⟩
                rw [tv_set hfe, tv4, snoc, hwv]
                unfold con
                by_cases q : j = i + as[m].2.1.length ∧ h = as[m].2.2
                · rw [if_pos q, if_pos ⟨c2, q⟩]
                  omega
                · rw [if_neg q, if_neg (fun z => q z.2)]
                  omega
              · refine ⟨T4, _, _, _, _, rfl, hD4, tab4, fun j h => ?_, sm4⟩
                rw [tv4, snoc]
                unfold con
                rw [if_neg (fun z : matchAt x as[m].2.1 i = true ∧ j = i + as[m].2.1.length ∧ h = as[m].2.2 => c2 z.1)]
                omega
            · refine ⟨T4, _, _, _, _, rfl, hD4, tab4, fun j h => ?_, sm4⟩
              have z : get fi as[m].1 = none := by
                cases q : get fi as[m].1 with
                | none => rfl
                | some w => rw [q] at c; exact absurd rfl c
              have z0 : run as s x i i as[m].1 = 0 := by
                rw [← row]
                unfold val
                rw [z]
                rfl
              rw [tv4, snoc]
              unfold con
              rw [z0]
              simp
          · rintro σ H4 ⟨T4, v5, v6, v7, v8, rfl, hD4, tab4, tv4, sm4⟩
            refine ⟨T4, _, v5, v6, v7, v8, rfl, hD4, tab4, fun j h => ?_, sm4⟩
            rw [tv4, harc.1, List.take_length]
            rfl
        · rintro σ H3 ⟨T3, v4, v5, v6, v7, v8, rfl, hD3, tab3, tv3, sm3⟩
          have hTl : T3.length = x.length + 1 := by rw [← tab3.len, hl]
          obtain ⟨dn, en, hdn, hen, hddn, okn⟩ := tab3.get (j := x.length) (by omega)
          refine ⟨_, rfl, _, rfl, _, rfl, hxl, D, _, _, _, rfl, rfl, SqL.of hD3, by rw [exl]; exact atI_nat (by rw [List.getElem?_map, hdn]; rfl), dn, _, rfl, hddn, fun q hq => ?_⟩
          rw [enc_vals]
          refine ⟨q, en.map (·.2), rfl, SqL.of upd_same, ?_⟩
          rw [total_eq okn, show (List.range 64).map (val en) = (List.range 64).map (run as s x x.length x.length) from List.map_congr_left fun g _ => by rw [← tv_at hen, tv3]]
          exact k _ (sm3.trans (Same.new _ hq))
end
end J


set_option Elab.async false
set_option linter.all false
set_option maxRecDepth 100000
set_option maxHeartbeats 4000000
namespace J
open PySem L2
/-! ### a reader is made -/
/-- a dict whose values are lists of at most n items, all of them new since H0 -/
def TbI (H0 H : Hp) (d : Addr) (n : Nat) : Prop := ∃ kvs : List (List Key × V), H d = some (.dT kvs) ∧ kvs.length ≤ n ∧ ∀ k v, valV kvs k = some v → ∃ l xs, v = .ref l ∧ H l = some (.lst xs) ∧ xs.length ≤ n ∧ H0 l = none
theorem TbI.same {H0 H H' : Hp} {d : Addr} {n : Nat} (h : TbI H0 H d n) (s : Same H H') : TbI H0 H' d n := by
  obtain ⟨kvs, h1, h2, h3⟩ := h
  refine ⟨kvs, s _ _ h1, h2, fun k v e => ?_⟩
  obtain ⟨l, xs, a1, a2, a3, a4⟩ := h3 k v e
  exact ⟨l, xs, a1, s _ _ a2, a3, a4⟩
theorem TbI.weak {H0 H : Hp} {d : Addr} {n m : Nat} (h : TbI H0 H d n) (hm : n ≤ m) : TbI H0 H d m := by
  obtain ⟨kvs, h1, h2, h3⟩ := h
  refine ⟨kvs, h1, by omega, fun k v e => ?_⟩
  obtain ⟨l, xs, a1, a2, a3, a4⟩ := h3 k v e
  exact ⟨l, xs, a1, a2, by omega, a4⟩
def spBegin (C : Addr) : Sp := fun vs H Q _ => ∃ (q : Addr) (sg : List Nat) (us : List V) (as : List Arc), vs = [.ref q] ∧ LoomAt C H q sg us as ∧ ∀ (H' : Hp) (d : Addr), Same H H' → H d = none → TbI H H' d 2400 → Q (.ref d) H'
theorem cutS_upto (x : List Nat) (k : Nat) : cutS (SX.S x) none (some (k : Int)) = SX.S (x.take k) := by
  unfold cutS
  rw [HT.sIx_nat, HT.sIx_none, SX.S_len]
  show SX.S ((x.drop 0).take (min k x.length - 0)) = SX.S (x.take k)
  rw [List.drop_zero, Nat.sub_zero]
  congr 1
  rw [← List.take_take, List.take_length]
theorem putF_lenD (f : Str) (v : V) (fs : List (Str × V)) : (putF f v fs).length ≤ fs.length + 1 := length_putF f v fs
theorem exu {x : Addr} {H H' : Hp} {o : HO} (e : Ex x H H') : Ex x H (upd H' x o) := e.trans (Ex.upd _)
theorem LoomAt.exN {C CR : Addr} {H H' : Hp} {x dx q : Addr} {sg : List Nat} {us : List V} {as : List Arc} (h : LoomAt C H q sg us as) (hx : H x = some (.ins CR dx [])) (e : Ex x H H') : LoomAt C H' q sg us as := by
  obtain ⟨dq, Tp, h1, h2, h3, h4, h5⟩ := h
  refine ⟨dq, Tp, e _ _ (fun z => ?_) h1, e _ _ (fun z => by rw [z, hx] at h2; cases h2) h2, ⟨h3.1, fun i a ha => ?_⟩, h4, h5⟩
  · rw [z, hx] at h1
    have := Option.some.inj h1
    unfold lf at this
    injection this with _ _ e3
    cases e3
  · obtain ⟨t, t1, t2⟩ := h3.2 i a ha
    exact ⟨t, t1, e _ _ (fun z => by rw [z, hx] at t2; cases t2) t2⟩
section
variable {P : Program} {w : World} {K : PySem.W.Frag} {mg : Str → Option Value} {base : Heap}
theorem ok_arcs_by_beginnings (T : Tx K mg) : FnOk P w K mg base CX0 1 T.f_arcs_by_beginnings T.fd_arcs_by_beginnings P_arcs_by_beginnings (spBegin T.C_Loom) := by
  refine T.F_arcs_by_beginnings.ok sc_arcs_by_beginnings (fun vs H Q E h => ?_) (fun cdv A outer s H vs Q E hr h => ?_)
  · obtain ⟨q, sg, us, as, rfl, _⟩ := h
    rfl
  · obtain ⟨q, sg, us, as, rfl, ⟨dx, TT, hq, hT, harc, hok, hsg⟩, k⟩ := h
    refine ⟨_, (pss_cons (ps_set (i := 1) sc_arcs_by_beginnings.nd rfl (Or.inl rfl) pe_dnewT)
        (pss_cons (ps_for PassesOwn.never rfl (pi_enumT rfl T.n_enumerate (pa_cons (pe_fld (pv 0) rfl) pa_nil)) (pg_tup rfl (pgs_cons (pg_name (i := 2) sc_arcs_by_beginnings.nd rfl (Or.inl rfl)) (pgs_cons (pg_tup rfl (pgs_cons (pg_name (i := 3) sc_arcs_by_beginnings.nd rfl (Or.inl rfl)) (pgs_cons (pg_name (i := 4) sc_arcs_by_beginnings.nd rfl (Or.inl rfl)) (pgs_cons (pg_name (i := 5) sc_arcs_by_beginnings.nd rfl (Or.inl rfl)) pgs_nil)))) pgs_nil))) (pss_one (ps_for PassesOwn.never rfl (pi_range2 rfl T.n_range (pa_cons pe_int (pa_cons (pe_op op_add (pe_callB call_len_str rfl T.n_len (by decide +kernel) (pa_cons (pv 4) pa_nil)) pe_int) pa_nil))) (pg_name (i := 6) sc_arcs_by_beginnings.nd rfl (Or.inl rfl)) (pss_one (ps_expr (pe_bm PySem.F.plainAttrs_list PySem.F.slot_list_append PySem.F.type_list_append mt_append (pe_dsetdT (hu_of hr) (pv 1) (pe_tup (pa_cons (pv 3) (pa_cons (pe_slice sl_str (pv 4) po_none (po_some (pv 6))) pa_nil))) (pe_lst pa_nil) ⟨rfl, rfl, rfl, rfl⟩) (pa_cons (pe_tup (pa_cons (pv 2) (pa_cons (pv 4) (pa_cons (pv 5) pa_nil)))) pa_nil)))))))
        (pss_one (ps_ret (pv 1))))), ?_⟩
    intro d hd
    have s1 : Same H (upd H d (.dT [])) := Same.new _ hd
    have g1 : upd H d (.dT []) d = some (.dT []) := upd_same
    generalize upd H d (.dT []) = H1 at *
    have hl := hok.2.1
    have oka := hok.all
    refine ⟨_, rfl, q, _, dx, _, _, rfl, s1 _ _ hq, T.cl_Loom, T.na_Loom_arcs, lf_arcs _ _, TT, us, rfl, SqT.of (s1 _ _ hT), for_it (walk_enumT (K := K) (a := TT) (xs := us)) (fun i σ H' => ∃ v2 v3 v4 v5 v6 : Option V, σ = [some (.ref q), some (.ref d), v2, v3, v4, v5, v6] ∧ Same H H' ∧ TbI H H' d (12 * i)) ?_ ?_ ?_ ?_⟩
    · exact ⟨none, none, none, none, none, rfl, s1, [], g1, Nat.zero_le _, fun k v e => by cases e⟩
    · rintro i σ H' _ ⟨_, _, _, _, _, _, sm, _⟩
      exact SqT.of (sm _ _ hT)
    · rintro i x σ H3 H4 hi ⟨v2, v3, v4, v5, v6, rfl, s3, tab⟩ ⟨tp, x1, y1, rfl, ht, rfl, hx1, hy1⟩
      cases hx1
      have hia : i < as.length := by rw [← harc.1]; exact hi
      obtain ⟨t, hut, htt⟩ := harc.2 i as[i] (List.getElem?_eq_getElem hia)
      replace hy1 : us[i]? = some y1 := hy1
      rw [hut] at hy1
      cases hy1
      have sn := Same.new (.tup [V.int (i : Int), .ref t]) ht
      have tab4 := tab.same sn
      have s4 := s3.trans sn
      refine ⟨tp, _, rfl, SqT.of upd_same, rfl, _, _, rfl, _, _, rfl, t, _, rfl, SqT.of (s4 _ _ htt), rfl, _, _, rfl, _, _, rfl, _, _, rfl, rfl, rfl, ?_⟩
      generalize upd H3 tp (.tup [V.int (i : Int), .ref t]) = H4 at *
      clear s3 sn ht hut
      obtain ⟨o1, o2, o3, o4⟩ := oka.2 as[i] (List.getElem_mem hia)
      have hwl : (SX.S as[i].2.1).length ≤ sizeLine := le_size (by rw [SX.S_len]; omega)
      have eln : ((SX.S as[i].2.1).length : Int) = (as[i].2.1.length : Int) := by rw [SX.S_len]
      refine ⟨_, rfl, _, rfl, hwl, _, _, rfl, rfl, 1, ((SX.S as[i].2.1).length : Int) + 1, rfl, ⟨by decide, by decide, by omega, by omega⟩, ?_⟩
      rw [show (((SX.S as[i].2.1).length : Int) + 1 - 1).toNat = as[i].2.1.length by omega]
      refine for_range (lo := 1) (n := as[i].2.1.length) (fun j σ H' => ∃ v6 : Option V, σ = [some (.ref q), some (.ref d), some (.int (i : Int)), some (.int (as[i].1 : Int)), some (.str (SX.S as[i].2.1)), some (.int (as[i].2.2 : Int)), v6] ∧ Same H H' ∧ TbI H H' d (12 * i + j)) ?_ ?_ ?_
      · exact ⟨v6, rfl, s4, tab4⟩
      · rintro j σ H5 hj ⟨v6, rfl, s5, kvs, hkv, hkl, hvals⟩
        refine ⟨_, rfl, d, rfl, .inr ⟨kvs, .inl hkv⟩, ?_⟩
        refine ⟨_, rfl, _, rfl, _, rfl, _, rfl, _, rfl, hwl, ?_⟩
        rw [show (1 + (j : Int)) = ((j + 1 : Nat) : Int) by omega, cutS_upto]
        refine ⟨le_size (by simp), fun kt hkt => ?_⟩
        have q1 : Same H5 (upd H5 kt (.tup [V.int (as[i].1 : Int), V.str (SX.S (as[i].2.1.take (j + 1)))])) := Same.new _ hkt
        have gk : upd H5 kt (.tup [V.int (as[i].1 : Int), V.str (SX.S (as[i].2.1.take (j + 1)))]) kt = some (.tup (([.inl (as[i].1 : Int), .inr (SX.S (as[i].2.1.take (j + 1)))] : List Key).map kV)) := upd_same
        generalize upd H5 kt (.tup [V.int (as[i].1 : Int), V.str (SX.S (as[i].2.1.take (j + 1)))]) = H6 at *
        refine ⟨le_size (by simp), fun l' hl' => ?_⟩
        have q2 : Same H6 (upd H6 l' (.lst [])) := Same.new _ hl'
        have gl : upd H6 l' (.lst []) l' = some (.lst []) := upd_same
        have S6 := s5.trans q1
        have hl0 : H l' = none := S6.free hl'
        have hk6 := q1 _ _ hkv
        have hk7 := q2 _ _ hk6
        have gk7 := q2 _ _ gk
        have nld : l' ≠ d := hp_ne hk6 hl'
        have S7 := S6.trans q2
        have q12 := q1.trans q2
        have hvals7 : ∀ k v, valV kvs k = some v → ∃ l xs, v = .ref l ∧ upd H6 l' (.lst []) l = some (.lst xs) ∧ xs.length ≤ 12 * i + j ∧ H l = none ∧ l ≠ l' := fun k v e => by
          obtain ⟨l, xs, a1, a2, a3, a4⟩ := hvals k v e
          exact ⟨l, xs, a1, q12 _ _ a2, a3, a4, fun z => by have := q1 _ _ a2; rw [z, hl'] at this; cases this⟩
        generalize upd H6 l' (.lst []) = H7 at *
        have hkey : ∀ v0 : V, True := fun _ => trivial
        refine ⟨kvs, _, kt, hk7, rfl, gk7, lt_size (by omega), fun v hv => ?_, fun hn => ?_⟩
        · obtain ⟨l, xs, rfl, a2, a3, a4, _⟩ := hvals7 _ v hv
          have nld2 : l ≠ d := fun z => by rw [z, hk7] at a2; cases a2
          refine ⟨.inl ⟨rfl, _, SqL.of a2⟩, _, rfl, _, rfl, _, rfl, le_size (by simp), fun et het => ?_⟩
          have q3 := Same.new (.tup [V.int (i : Int), V.str (SX.S as[i].2.1), V.int (as[i].2.2 : Int)]) het
          refine ⟨l, _, _, rfl, rfl, q3 _ _ a2, lt_size (by omega), ?_⟩
          refine ⟨_, rfl, (S7.trans q3).updNew a4, kvs, by rw [upd_ne nld2.symm]; exact q3 _ _ hk7, by omega, fun k v e => ?_⟩
          obtain ⟨m, ys, b1, b2, b3, b4, _⟩ := hvals7 k v e
          by_cases c : m = l
          · subst c
            rw [a2] at b2
            cases b2
            exact ⟨_, _, b1, upd_same, by rw [List.length_append, List.length_singleton]; omega, b4⟩
          · exact ⟨m, ys, b1, by rw [upd_ne c]; exact q3 _ _ b2, by omega, b4⟩
        · have gl2 : upd H7 d (.dT (putK kvs ([.inl (as[i].1 : Int), .inr (SX.S (as[i].2.1.take (j + 1)))] : List Key) (.ref l'))) l' = some (.lst []) := by rw [upd_ne nld]; exact gl
          refine ⟨.inl ⟨rfl, _, SqL.of gl2⟩, _, rfl, _, rfl, _, rfl, le_size (by simp), fun et het => ?_⟩
          have q3 := Same.new (.tup [V.int (i : Int), V.str (SX.S as[i].2.1), V.int (as[i].2.2 : Int)]) het
          refine ⟨l', _, _, rfl, rfl, q3 _ _ gl2, by decide, ?_⟩
          refine ⟨_, rfl, ((S7.updNew hd).trans q3).updNew hl0, _, by rw [upd_ne nld.symm]; exact q3 _ _ upd_same, ?_, fun k v e => ?_⟩
          · have := length_putK kvs ([.inl (as[i].1 : Int), .inr (SX.S (as[i].2.1.take (j + 1)))] : List Key) (V.ref l')
            omega
          · rw [valV_put] at e
            split at e
            · cases e
              exact ⟨l', _, rfl, upd_same, by simp; omega, hl0⟩
            · obtain ⟨m, ys, b1, b2, b3, b4, b5⟩ := hvals7 k v e
              exact ⟨m, ys, b1, by rw [upd_ne b5]; exact q3 _ _ (by rw [upd_ne (fun z => by rw [z, hk7] at b2; cases b2)]; exact b2), by omega, b4⟩
      · rintro σ H5 ⟨v6, rfl, s5, tab5⟩
        exact ⟨_, _, _, _, _, rfl, s5, tab5.weak (by omega)⟩
    · rintro σ H3 ⟨v2, v3, v4, v5, v6, rfl, s3, tab⟩
      exact ⟨_, rfl, k H3 d s3 hd (tab.weak (by rw [harc.1]; omega))⟩
def spTrail0 (C : Addr) : Sp := fun vs H Q _ => ∃ (x dx : Addr), vs = [.ref x, .non, .non] ∧ H x = some (.ins C dx []) ∧ ∀ H', Ex x H H' → Q .non H'
theorem ok_Trail_init0 (T : Tx K mg) : FnOk P w K mg base CX0 1 T.f_Trail_init T.fd_Trail_init P_Trail_init (spTrail0 T.C_Trail) := by
  refine T.F_Trail_init.ok sc_Trail_init (fun vs H Q E h => ?_) (fun cdv A outer s H vs Q E hr h => ?_)
  · obtain ⟨x, dx, rfl, _⟩ := h
    rfl
  · obtain ⟨x, dx, rfl, hx, k⟩ := h
    refine ⟨_, (pss_cons (ps_fld (pv 0) (pv 1) rfl)
        (pss_cons (ps_fld (pv 0) (pv 2) rfl)
        (pss_one (ps_if (pt_cmpR op_isN (pv 1) pe_non (nomark _)) (pss_cons (ps_fld (pv 0) pe_int rfl)
        (pss_one (ps_fld (pv 0) (pv 0) rfl))) (pss_cons (ps_set (i := 3) sc_Trail_init.nd rfl (Or.inl rfl) (pe_fld (pv 1) rfl))
        (pss_cons (ps_set (i := 4) sc_Trail_init.nd rfl (Or.inl rfl) (pe_cmpR op_eq (pe_op op_sub (pe_fld (pv 1) rfl) (pe_fld (pv 3) rfl)) (pe_op op_sub (pe_fld (pv 3) rfl) (pe_fld (pe_fld (pv 3) rfl) rfl)) (nomark _)))
        (pss_cons (ps_fld (pv 0) (pe_op op_add (pe_fld (pv 1) rfl) pe_int) rfl)
        (pss_one (ps_fld (pv 0) (pe_ifExp (pt_truth (pv 4) (by intro _; rfl)) (pe_fld (pv 3) rfl) (pv 1)) rfl))))))))), ?_⟩
    refine ⟨_, rfl, _, rfl, x, _, dx, _, rfl, hx, T.cl_Trail, T.na_Trail_ahead, (by show 0 < 1000; decide), ?_⟩
    refine ⟨_, rfl, _, rfl, x, _, dx, _, rfl, upd_same, T.cl_Trail, T.na_Trail_number, (by show 1 < 1000; decide), ?_⟩
    refine ⟨_, rfl, rfl, _, rfl, ?_⟩
    refine ite2 (fun _ => ?_) fun c => absurd rfl c
    refine ⟨_, rfl, x, _, dx, _, rfl, upd_same, T.cl_Trail, T.na_Trail_many, (by show 2 < 1000; decide), ?_⟩
    refine ⟨_, rfl, _, rfl, x, _, dx, _, rfl, upd_same, T.cl_Trail, T.na_Trail_jump, (by show 3 < 1000; decide), ?_⟩
    exact k _ ((((Ex.upd _).trans (Ex.upd _)).trans (Ex.upd _)).trans (Ex.upd _))
def spReader3 (K : PySem.W.Frag) (C CR CS : Addr) : Sp := fun vs H Q E => ∃ (x dx q : Addr) (sg : List Nat) (us : List V) (as : List Arc) (y : V), vs = [.ref x, .ref q, y] ∧ H x = some (.ins CR dx []) ∧ LoomAt C H q sg us as ∧ ((BadSt K H y ∧ E (.ref CS) none H) ∨ (∃ g : Nat, y = .int (g : Int) ∧ g ≤ 63 ∧ ∀ H', Ex x H H' → Q .non H'))
theorem ok_Reader_init3 (T : Tx K mg) : FnOk P w K mg base (L2.CX P w) 4 T.f_Reader_init T.fd_Reader_init P_Reader_init (spReader3 K T.C_Loom T.C_Reader T.C_UnknownState) := by
  have G_check_state : FnOk P w K mg base (L2.CX P w) 2 T.f_check_state T.fd_check_state P_check_state (spStX K T.C_UnknownState) := ok_check_stateX T
  have G_arcs_by_beginnings : FnOk P w K mg base CX0 1 T.f_arcs_by_beginnings T.fd_arcs_by_beginnings P_arcs_by_beginnings (spBegin T.C_Loom) := ok_arcs_by_beginnings T
  have G_Trail_init : FnOk P w K mg base CX0 1 T.f_Trail_init T.fd_Trail_init P_Trail_init (spTrail0 T.C_Trail) := ok_Trail_init0 T
  refine T.F_Reader_init.okX sc_Reader_init (fun vs H Q E h => ?_) (fun cdv A outer s H vs Q E hr h => ?_)
  · obtain ⟨x, dx, q, sg, us, as, y, rfl, _⟩ := h
    rfl
  · obtain ⟨x, dx, q, sg, us, as, y, rfl, hx, hL, h⟩ := h
    refine ⟨_, (pss_cons (ps_expr (pe_callS G_check_state (hr.mono (by decide)) rfl T.m_check_state T.F_check_state.kp T.b_check_state (fun σ => passAt (takes_of rfl rfl rfl rfl) σ) (pa_cons (pv 2) pa_nil)))
        (pss_cons (ps_fld (pv 0) (pv 1) rfl)
        (pss_cons (ps_fld (pv 0) (pv 2) rfl)
        (pss_cons (ps_fld (pv 0) (pe_call G_arcs_by_beginnings (hr.mono (by decide)) rfl T.m_arcs_by_beginnings T.F_arcs_by_beginnings.kp T.b_arcs_by_beginnings .nil pass0 (pa_cons (pv 1) pa_nil)) rfl)
        (pss_cons (ps_fld (pv 0) pe_str rfl)
        (pss_cons (ps_fld (pv 0) (pe_lst pa_nil) rfl)
        (pss_one (ps_fld (pv 0) (pe_lst (pa_cons (pe_disp (pps_cons (pv 2) (pe_tup (pa_cons (pe_make T.M_Trail G_Trail_init (hr.mono (by decide)) rfl T.g_Trail T.b_Trail_init .nil pass0 (pa_cons pe_non (pa_cons pe_non pa_nil))) (pa_cons pe_bl pa_nil))) pps_nil) rfl rfl (by simp) (by decide)) pa_nil)) rfl)))))))), ?_⟩
    rcases h with ⟨hb, k⟩ | ⟨g, rfl, hg, k⟩
    · exact ⟨_, rfl, y, rfl, .inr ⟨hb, k⟩⟩
    · refine ⟨_, rfl, _, rfl, .inl ⟨g, rfl, hg, ?_⟩⟩
      have x0 : Ex x H H := Ex.refl _ _
      have hx0 := hx
      obtain ⟨F0, e0⟩ : ∃ F : List (Str × V), F = [] := ⟨_, rfl⟩
      have g0 : H x = some (.ins T.C_Reader dx F0) := by rw [e0]; exact hx
      have l0 : F0.length ≤ 0 := by rw [e0]; exact Nat.le_refl _
      refine ⟨_, rfl, _, rfl, x, _, dx, _, rfl, g0, T.cl_Reader, T.na_Reader__loom, (by omega), ?_⟩
      have x1 : Ex x H (upd H x (.ins T.C_Reader dx (putF "_loom" (.ref q) F0))) := exu x0
      have g1 : upd H x (.ins T.C_Reader dx (putF "_loom" (.ref q) F0)) x = some (.ins T.C_Reader dx (putF "_loom" (.ref q) F0)) := upd_same
      have l1 : (putF "_loom" (.ref q) F0).length ≤ 1 := Nat.le_trans (putF_lenD "_loom" (.ref q) F0) (by omega)
      generalize upd H x (.ins T.C_Reader dx (putF "_loom" (.ref q) F0)) = H1 at *
      generalize putF "_loom" (.ref q) F0 = F1 at *
      refine ⟨_, rfl, _, rfl, x, _, dx, _, rfl, g1, T.cl_Reader, T.na_Reader__state, (by omega), ?_⟩
      have x2 : Ex x H (upd H1 x (.ins T.C_Reader dx (putF "_state" (.int (g : Int)) F1))) := exu x1
      have g2 : upd H1 x (.ins T.C_Reader dx (putF "_state" (.int (g : Int)) F1)) x = some (.ins T.C_Reader dx (putF "_state" (.int (g : Int)) F1)) := upd_same
      have l2 : (putF "_state" (.int (g : Int)) F1).length ≤ 2 := Nat.le_trans (putF_lenD "_state" (.int (g : Int)) F1) (by omega)
      generalize upd H1 x (.ins T.C_Reader dx (putF "_state" (.int (g : Int)) F1)) = H2 at *
      generalize putF "_state" (.int (g : Int)) F1 = F2 at *
      refine ⟨_, rfl, q, sg, us, as, rfl, hL.exN hx0 x2, fun H3 d s3 hd0 htab => ?_⟩
      replace x2 := x2.trans (Same.ex (p := x) s3)
      replace g2 := s3 _ _ g2
      refine ⟨_, rfl, x, _, dx, _, rfl, g2, T.cl_Reader, T.na_Reader__arcs, (by omega), ?_⟩
      have x3 : Ex x H (upd H3 x (.ins T.C_Reader dx (putF "_arcs" (.ref d) F2))) := exu x2
      have g3 : upd H3 x (.ins T.C_Reader dx (putF "_arcs" (.ref d) F2)) x = some (.ins T.C_Reader dx (putF "_arcs" (.ref d) F2)) := upd_same
      have l3 : (putF "_arcs" (.ref d) F2).length ≤ 3 := Nat.le_trans (putF_lenD "_arcs" (.ref d) F2) (by omega)
      generalize upd H3 x (.ins T.C_Reader dx (putF "_arcs" (.ref d) F2)) = H4 at *
      generalize putF "_arcs" (.ref d) F2 = F3 at *
      refine ⟨_, rfl, x, _, dx, _, rfl, g3, T.cl_Reader, T.na_Reader__text, (by omega), ?_⟩
      have x4 : Ex x H (upd H4 x (.ins T.C_Reader dx (putF "_text" (.str (Str.ofString "")) F3))) := exu x3
      have g4 : upd H4 x (.ins T.C_Reader dx (putF "_text" (.str (Str.ofString "")) F3)) x = some (.ins T.C_Reader dx (putF "_text" (.str (Str.ofString "")) F3)) := upd_same
      have l4 : (putF "_text" (.str (Str.ofString "")) F3).length ≤ 4 := Nat.le_trans (putF_lenD "_text" (.str (Str.ofString "")) F3) (by omega)
      generalize upd H4 x (.ins T.C_Reader dx (putF "_text" (.str (Str.ofString "")) F3)) = H5 at *
      generalize putF "_text" (.str (Str.ofString "")) F3 = F4 at *
      refine ⟨Nat.zero_le _, fun tl htl => ?_⟩
      replace x4 := x4.trans (Ex.new (.lst []) htl)
      replace g4 := Same.new (.lst []) htl _ _ g4
      generalize upd H5 tl (.lst []) = H6 at *
      refine ⟨_, rfl, x, _, dx, _, rfl, g4, T.cl_Reader, T.na_Reader__told, (by omega), ?_⟩
      have x5 : Ex x H (upd H6 x (.ins T.C_Reader dx (putF "_told" (.ref tl) F4))) := exu x4
      have g5 : upd H6 x (.ins T.C_Reader dx (putF "_told" (.ref tl) F4)) x = some (.ins T.C_Reader dx (putF "_told" (.ref tl) F4)) := upd_same
      have l5 : (putF "_told" (.ref tl) F4).length ≤ 5 := Nat.le_trans (putF_lenD "_told" (.ref tl) F4) (by omega)
      generalize upd H6 x (.ins T.C_Reader dx (putF "_told" (.ref tl) F4)) = H7 at *
      generalize putF "_told" (.ref tl) F4 = F5 at *
      intro pd hpd
      have hpH : H pd = none := by
        cases c : H pd with
        | none => rfl
        | some o =>
          by_cases c2 : pd = x
          · rw [c2, g5] at hpd; cases hpd
          · rw [x5 _ _ c2 c] at hpd; cases hpd
      replace x5 := x5.trans (Ex.new (.dK []) hpd)
      have gpd : upd H7 pd (.dK []) pd = some (.dK []) := upd_same
      have nxp : pd ≠ x := hp_ne g5 hpd
      replace g5 := Same.new (.dK []) hpd _ _ g5
      generalize upd H7 pd (.dK []) = H8 at *
      refine ⟨_, rfl, fun tx td htx htd ntd => ⟨tx, td, rfl, upd_same, fun H9 ex9 => ⟨rfl, ?_⟩⟩⟩
      have qx : ∀ a o, H8 a = some o → a ≠ tx → H9 a = some o := fun a o e ne => by
        refine ex9 _ _ ne ?_
        rw [upd_ne ne, upd_ne (hp_ne e htd).symm]
        exact e
      have nptx : pd ≠ tx := (hp_ne gpd htx).symm
      have nxtx : x ≠ tx := (hp_ne g5 htx).symm
      have x6 : Ex x H H9 := fun a o ne e => qx _ _ (x5 _ _ ne e) (hp_ne (x5 _ _ ne e) htx).symm
      have gpd9 := qx _ _ gpd nptx
      have g9 := qx _ _ g5 nxtx
      refine ⟨le_size (by simp), fun tp htp => ?_⟩
      have gpd10 := Same.new (.tup [V.ref tx, V.bl true]) htp _ _ gpd9
      have g10 := Same.new (.tup [V.ref tx, V.bl true]) htp _ _ g9
      replace x6 := x6.trans (Ex.new (.tup [V.ref tx, V.bl true]) htp)
      generalize upd H9 tp (.tup [V.ref tx, V.bl true]) = H10 at *
      refine ⟨gpd10, [(.inl (g : Int), .ref tp)], rfl, (by show 1 ≤ 15; decide), ?_⟩
      have x7 : Ex x H (upd H10 pd (.dK (mergeK [] [(.inl (g : Int), .ref tp)]))) := fun a o ne e => by
        by_cases c : a = pd
        · subst c
          rw [hpH] at e; cases e
        · rw [upd_ne c]; exact x6 _ _ ne e
      have g11 : upd H10 pd (.dK (mergeK [] [(.inl (g : Int), .ref tp)])) x = some (.ins T.C_Reader dx F5) := by rw [upd_ne (fun z => nxp z.symm)]; exact g10
      generalize upd H10 pd (.dK (mergeK [] [(.inl (g : Int), .ref tp)])) = H11 at *
      refine ⟨le_size (by simp), fun tl2 htl2 => ?_⟩
      have g12 := Same.new (.lst [V.ref pd]) htl2 _ _ g11
      replace x7 := x7.trans (Ex.new (.lst [V.ref pd]) htl2)
      generalize upd H11 tl2 (.lst [V.ref pd]) = H12 at *
      exact ⟨_, rfl, x, _, dx, _, rfl, g12, T.cl_Reader, T.na_Reader__places, (by omega), k _ (exu x7)⟩
end
end J


set_option Elab.async false
set_option linter.all false
set_option maxRecDepth 100000
set_option maxHeartbeats 4000000
namespace J
open PySem L2
section
variable {X : Cx} {CX : CXT} {k : Nat} {f C : Addr} {fd : FuncData} {ps : List Str} {ds : List Value} {dvs : List V} {sp : Sp} {E : St → XK} {x : Str} {p pos : Pos} {e : Expr} {es : List Expr} {t : TA}
def tMakeS (C : Addr) (sp : Sp) (dvs : List V) (E : St → XK) (t : TA) : TE := fun σ H Q => t σ H fun vs H1 => ∀ x dx, H1 x = none → H1 dx = none → dx ≠ x → sp (.ref x :: (vs ++ dvs)) (upd (upd H1 dx (.own x)) x (.ins C dx [])) (fun v H2 => v = .non ∧ Q (.ref x) H2) (E σ)
theorem run_makeS {pins : List (Addr × Obj)} {σ : St} {H : Hp} {s : Shared} {Q : VK} {us : List Value} {vs : List V} (M : Mk X.K C f) (F : FnOk X.prog X.w X.K X.mg X.base CX k f fd ps sp) (hr : Room (k + 1) X.A) (hb : Binds X.K fd ps ds) (hd : Vals dvs ds)
    (hx : PassesAt CX X σ (E σ)) (I : Inv X pins σ H s) (r : Vals vs us)
    (h : ∀ x dx, H x = none → H dx = none → dx ≠ x → sp (.ref x :: (vs ++ dvs)) (upd (upd H dx (.own x)) x (.ins C dx [])) (fun v H2 => v = .non ∧ Q (.ref x) H2) (E σ)) :
    wpAny (model X.prog X.w) X.A (call (.ref C) us) (EP X pins σ Q) X.xe s := by
  have hq := h (s.heap.objs.size + 1) s.heap.objs.size (I.hok.fresh (Nat.le_succ _)) (I.hok.fresh (Nat.le_refl _)) (Nat.ne_of_lt (Nat.lt_succ_self _))
  have I2 := Inv.made (C := C) I
  have r2 : Vals (V.ref (s.heap.objs.size + 1) :: (vs ++ dvs)) (Value.ref (s.heap.objs.size + 1) :: (us ++ ds)) := .cons rfl (r.append hd)
  have hl : (Value.ref (s.heap.objs.size + 1) :: us ++ ds).length = ps.length := by
    have e := r2.length
    rw [F.len _ _ _ _ hq] at e
    exact e.symm
  refine wpAny_call (make_map (f := f) I.kIn M.makes M.init (beq_iff_eq.mp M.fn) (codeAny_mono (F.run _ X.stack _ _ ⟨Value.ref (s.heap.objs.size + 1) :: us, []⟩ (Value.ref (s.heap.objs.size + 1) :: (us ++ ds)) _ _ (E σ) (hr.make C us [])
    (I2.env0.make C us []) (hb _ (Value.ref (s.heap.objs.size + 1) :: us) I2.kIn hl) r2 hq) fun r s' hq' => ?_))
  cases r with
  | error e => exact hx pins _ _ e s' I2 hq'
  | ok fl =>
    cases fl with
    | ret u =>
      obtain ⟨v, H', I3, rv, ev, q3⟩ := I2.after hq'
      subst ev
      exact ⟨rv, ⟨V.ref (s.heap.objs.size + 1), H', I3, rfl, q3⟩⟩
    | next => exact False.elim hq'
    | brk => exact False.elim hq'
    | cont => exact False.elim hq'
/-- a making whose __init__ may raise, around which errors are taken -/
theorem pe_makeS (M : Mk X.K C f) (F : FnOk X.prog X.w X.K X.mg X.base CX k f fd ps sp) (hr : Room (k + 1) X.A) (hg : Gl X x) (hm : X.mg x = some (.ref C)) (hb : Binds X.K fd ps ds) (hd : Vals dvs ds) (hx : ∀ σ, PassesAt CX X σ (E σ))
    (ha : PA X (e :: es) t) (hdb : (x == ("__debug__" : Str)) = false := by decide) (he : starEach (e :: es) X.env = (false, eval e X.env) :: starEach es X.env := by rfl) (hpl : (backTo pos (starEach es X.env)).any (·.1) = false := by rfl) :
    PE X (.Call (.Name x p) (e :: es) [] pos) (tMakeS C sp dvs E t) := by
  refine ⟨fun pins s σ H Q I h => ?_⟩
  refine wpAny_Call_Name_kw (ld_glob I hg hm ?_ hdb)
  refine PySem.W.callWith_K (h₀ := X.base) I.ok.mod.kin M.kp (thn (ha.run pos pins s σ H _ I h) fun us s1 ⟨vs, H1, I1, r, q⟩ => ⟨I1.kIn, ?_⟩) he hpl
  exact run_makeS M F hr hb hd (hx σ) I1 r q
end
theorem call_isEg {X : Cx} {a : Addr} {oe : Obj} {pn : List (Addr × Obj)} {cls : Value} {d : Option Addr} (hz : Zc cls d oe) (hf : ∃ vs, oe.data = .fields vs) :
    CallR (X.suite a ((a, oe) :: pn)) (.builtin "isinstance") (fun xs H Q => ∃ D, cls = .ref D ∧ d = none ∧ ExcC X.K D ∧ rIsE X.K D a xs H Q) := by
  intro pins s σ H xs us Q I r h
  obtain ⟨D, rfl, rfl, C, h⟩ := h
  exact call_isE C hz hf pins s σ H xs us Q I r h
theorem kit_own {K : PySem.W.Frag} {t : Value} {C : Addr} {b : Bool} (h1 : PySem.W.isClsIn K C = true) (h2 : PySem.W.typeIn K (.ref C) = some (.type "type")) (h3 : PySem.W.subIn K t (.ref C) = some b) (hb : t = .ref C → b = true) : PySem.W.kitOne K t (.ref C) = some b := by
  unfold PySem.W.kitOne
  by_cases e : (t == Value.ref C) = true
  · rw [if_pos e, hb (eq_of_beq e)]
  · rw [if_neg e]
    have q : ((PySem.W.clsIn K C).isSome && PySem.W.typeIn K (.ref C) == some (.type "type")) = true := by
      have h1' : (PySem.W.clsIn K C).isSome = true := h1
      rw [h1', h2] <;> rfl
    show (if ((PySem.W.clsIn K C).isSome && PySem.W.typeIn K (.ref C) == some (.type "type")) = true then PySem.W.subIn K t (.ref C) else none) = some b
    rw [if_pos q]
    exact h3
/-- an error of an own class is one of that class -/
theorem exm_own {K : PySem.W.Frag} {D : Addr} (b : PySem.W.subIn K (.ref D) (.type "BaseException") = some true) (c : PySem.W.isClsIn K D = true) (t : PySem.W.typeIn K (.ref D) = some (.type "type")) (q : PySem.W.subIn K (.ref D) (.ref D) = some true) :
    PySem.W.exmOne K (.ref D) (.ref D) = some true := by
  have c' : (PySem.W.clsIn K D).isSome = true := c
  unfold PySem.W.exmOne
  simp [b, c', t, q, PySem.W.kitCls]
theorem exm_no {K : PySem.W.Frag} {D D' : Addr} (b : PySem.W.subIn K (.ref D) (.type "BaseException") = some true) (c : PySem.W.isClsIn K D = true) (t : PySem.W.typeIn K (.ref D) = some (.type "type")) (q : PySem.W.subIn K (.ref D') (.ref D) = some false) :
    PySem.W.exmOne K (.ref D') (.ref D) = some false := by
  have c' : (PySem.W.clsIn K D).isSome = true := c
  unfold PySem.W.exmOne
  simp [b, c', t, q, PySem.W.kitCls]
def OutP (K : PySem.W.Frag) (H : Hp) (sg : List Nat) (as : List Arc) (n : Nat) (y x : V) (r : List V) : Prop :=
  (BadSt K H y ∧ r = [.str "state", .bl true]) ∨ ∃ g : Nat, y = .int (g : Int) ∧ g ≤ 63 ∧ ((n ≤ 2 ∧ BadTx K sg H x ∧ r = [.str "text", .bl true]) ∨ ∃ t : List Nat, x = .str (SX.S t) ∧ t.length ≤ 2000 ∧ (∀ c ∈ t, c ∈ sg) ∧
    ((n = 0 ∧ 200 < (rdg as g t).length ∧ r = [.str "many", .int 200]) ∨ ((n = 0 → (rdg as g t).length ≤ 200) ∧ r = [.str "let", .non])))
def spCall (K : PySem.W.Frag) (C CS CT CL : Addr) : Sp := fun vs H Q E => ∃ (n : Nat) (q : Addr) (sg : List Nat) (us : List V) (as : List Arc) (y x : V), vs = [.int (n : Int), .ref q, y, x] ∧ n ≤ 3 ∧ LoomAt C H q sg us as ∧
  ((BadSt K H y ∧ ∀ H', Same H H' → E (.ref CS) none H') ∨ (∃ g : Nat, y = .int (g : Int) ∧ g ≤ 63 ∧ ((n ≤ 2 ∧ BadTx K sg H x ∧ ∀ H', Same H H' → E (.ref CT) none H') ∨ (∃ t : List Nat, x = .str (SX.S t) ∧ t.length ≤ 2000 ∧ (∀ c ∈ t, c ∈ sg) ∧
    ((n = 0 ∧ 200 < (rdg as g t).length ∧ ∀ H' e, Same H H' → H' e = some (.xd (fs_LimitExceeded (.int 200))) → E (.ref CL) (some e) H') ∨
     ((n = 0 → (rdg as g t).length ≤ 200) ∧ ∀ H' v, Same H H' → Q v H'))))))
section
variable {P : Program} {w : World} {K : PySem.W.Frag} {mg : Str → Option Value} {base : Heap}
theorem ok_l_call (T : Tx K mg) : FnOk P w K mg base (L2.CX P w) 6 T.f_l_call T.fd_l_call P_l_call (spCall K T.C_Loom T.C_UnknownState T.C_InvalidText T.C_LimitExceeded) := by
  have G_readings : FnOk P w K mg base (L2.CX P w) 5 T.f_readings T.fd_readings P_readings (spReadings3 K T.C_Loom T.C_UnknownState T.C_InvalidText T.C_LimitExceeded) := ok_readings T
  have G_sure : FnOk P w K mg base (L2.CX P w) 5 T.f_sure T.fd_sure P_sure (spSure3 K T.C_Loom T.C_UnknownState T.C_InvalidText) := ok_sure T
  have G_count : FnOk P w K mg base (L2.CX P w) 5 T.f_count T.fd_count P_count (spCount3 K T.C_Loom T.C_UnknownState T.C_InvalidText) := ok_count T
  have G_Reader_init : FnOk P w K mg base (L2.CX P w) 4 T.f_Reader_init T.fd_Reader_init P_Reader_init (spReader3 K T.C_Loom T.C_Reader T.C_UnknownState) := ok_Reader_init3 T
  refine T.F_l_call.okX sc_l_call (fun vs H Q E h => ?_) (fun cdv A outer s H vs Q E hr h => ?_)
  · obtain ⟨n, q, sg, us, as, y, x, rfl, _⟩ := h
    rfl
  · obtain ⟨n, q, sg, us, as, y, x, rfl, hn, hL, h⟩ := h
    refine ⟨_, (pss_cons (ps_if (pt_cmpR op_eq (pv 0) pe_int (nomark _)) (pss_one (ps_ret (pe_callS G_readings (hr.mono (by decide)) rfl T.m_readings T.F_readings.kp T.b_readings (fun σ => passAt (takes_of rfl rfl rfl rfl) σ) (pa_cons (pv 1) (pa_cons (pv 2) (pa_cons (pv 3) pa_nil)))))) pss_nil)
        (pss_cons (ps_if (pt_cmpR op_eq (pv 0) pe_int (nomark _)) (pss_one (ps_ret (pe_callS G_count (hr.mono (by decide)) rfl T.m_count T.F_count.kp T.b_count (fun σ => passAt (takes_of rfl rfl rfl rfl) σ) (pa_cons (pv 1) (pa_cons (pv 2) (pa_cons (pv 3) pa_nil)))))) pss_nil)
        (pss_cons (ps_if (pt_cmpR op_eq (pv 0) pe_int (nomark _)) (pss_one (ps_ret (pe_callS G_sure (hr.mono (by decide)) rfl T.m_sure T.F_sure.kp T.b_sure (fun σ => passAt (takes_of rfl rfl rfl rfl) σ) (pa_cons (pv 1) (pa_cons (pv 2) (pa_cons (pv 3) pa_nil)))))) pss_nil)
        (pss_one (ps_ret (pe_makeS T.M_Reader G_Reader_init (hr.mono (by decide)) rfl T.g_Reader T.b_Reader_init .nil (fun σ => passAt (takes_of rfl rfl rfl rfl) σ) (pa_cons (pv 1) (pa_cons (pv 2) pa_nil)))))))), ?_⟩
    refine ⟨_, rfl, rfl, _, rfl, ite2 (fun c0 => ?_) fun c0 => ?_⟩
    · have n0 : n = 0 := by
        have z := of_decide_eq_true c0
        injection z with z
        omega
      refine ⟨_, rfl, _, rfl, _, rfl, q, sg, us, as, y, x, rfl, hL, ?_⟩
      rcases h with ⟨hb, k⟩ | ⟨g, rfl, hg, h⟩
      · exact .inl ⟨hb, k H (Same.refl _)⟩
      · refine .inr ⟨g, rfl, hg, ?_⟩
        rcases h with ⟨_, hb, k⟩ | ⟨t, rfl, ht, hin, h⟩
        · exact .inl ⟨hb, k⟩
        · refine .inr ⟨t, rfl, ht, hin, ?_⟩
          rcases h with ⟨_, hc, k⟩ | ⟨hc, k⟩
          · exact ⟨fun _ => k, fun z => absurd z (by omega)⟩
          · exact ⟨fun z => absurd (hc n0) (by omega), fun _ H' fr vs s1 _ _ _ => k H' _ s1⟩
    have n0 : n ≠ 0 := fun e => c0 (decide_eq_true (by rw [e]; rfl))
    refine ⟨_, rfl, rfl, _, rfl, ite2 (fun c1 => ?_) fun c1 => ?_⟩
    · refine ⟨_, rfl, _, rfl, _, rfl, q, sg, us, as, y, x, rfl, hL, ?_⟩
      rcases h with ⟨hb, k⟩ | ⟨g, rfl, hg, h⟩
      · exact .inl ⟨hb, k H (Same.refl _)⟩
      · refine .inr ⟨g, rfl, hg, ?_⟩
        rcases h with ⟨_, hb, k⟩ | ⟨t, rfl, ht, hin, h⟩
        · exact .inl ⟨hb, k⟩
        · refine .inr ⟨t, rfl, ht, hin, fun H' s1 => ?_⟩
          rcases h with ⟨z, _, _⟩ | ⟨_, k⟩
          · exact absurd z n0
          · exact k H' _ s1
    have n1 : n ≠ 1 := fun e => c1 (decide_eq_true (by rw [e]; rfl))
    refine ⟨_, rfl, rfl, _, rfl, ite2 (fun c2 => ?_) fun c2 => ?_⟩
    · refine ⟨_, rfl, _, rfl, _, rfl, q, sg, us, as, y, x, rfl, hL, ?_⟩
      rcases h with ⟨hb, k⟩ | ⟨g, rfl, hg, h⟩
      · exact .inl ⟨hb, k H (Same.refl _)⟩
      · refine .inr ⟨g, rfl, hg, ?_⟩
        rcases h with ⟨_, hb, k⟩ | ⟨t, rfl, ht, hin, h⟩
        · exact .inl ⟨hb, k⟩
        · refine .inr ⟨t, rfl, ht, hin, fun _ _ H' s1 => ?_, fun _ H' p row s1 _ _ _ => ?_⟩
          · rcases h with ⟨z, _, _⟩ | ⟨_, k⟩
            · exact absurd z n0
            · exact k H' _ s1
          · rcases h with ⟨z, _, _⟩ | ⟨_, k⟩
            · exact absurd z n0
            · exact k H' _ s1
    · have n2 : n ≠ 2 := fun e => c2 (decide_eq_true (by rw [e]; rfl))
      refine ⟨_, rfl, _, rfl, fun p dx hp hdx hne => ?_⟩
      have s0 : Same H (upd (upd H dx (.own p)) p (.ins T.C_Reader dx [])) := (Same.new _ hdx).trans (Same.new _ (by rw [upd_ne hne.symm]; exact hp))
      refine ⟨p, dx, q, sg, us, as, y, rfl, upd_same, hL.same s0, ?_⟩
      rcases h with ⟨hb, k⟩ | ⟨g, rfl, hg, h⟩
      · exact .inl ⟨⟨hb.1.same s0, hb.2⟩, k _ s0⟩
      · refine .inr ⟨g, rfl, hg, fun H' x1 => ⟨rfl, ?_⟩⟩
        have sa : Same H H' := fun b o e => x1 _ _ (ne_of_none e hp) (s0 _ _ e)
        rcases h with ⟨z, _, _⟩ | ⟨t, rfl, ht, hin, h⟩
        · omega
        · rcases h with ⟨z, _, _⟩ | ⟨_, k⟩
          · exact absurd z n0
          · exact k H' _ sa
end
def spTold8 (K : PySem.W.Frag) (C : Addr) : Sp := fun vs H Q _ => ∃ (n : Nat) (q : Addr) (sg : List Nat) (us : List V) (as : List Arc) (y x : V) (r : List V), vs = [.int (n : Int), .ref q, y, x] ∧ n ≤ 3 ∧ LoomAt C H q sg us as ∧ OutP K H sg as n y x r ∧
  ∀ (H' : Hp) (a : Addr), Same H H' → H a = none → H' a = some (.tup r) → Q (.ref a) H'
section
variable {P : Program} {w : World} {K : PySem.W.Frag} {mg : Str → Option Value} {base : Heap}
theorem ok_l_told (T : Tx K mg) : FnOk P w K mg base CX0 7 T.f_l_told T.fd_l_told P_l_told (spTold8 K T.C_Loom) := by
  have G_l_call : FnOk P w K mg base (L2.CX P w) 6 T.f_l_call T.fd_l_call P_l_call (spCall K T.C_Loom T.C_UnknownState T.C_InvalidText T.C_LimitExceeded) := ok_l_call T
  refine T.F_l_told.ok sc_l_told (fun vs H Q E h => ?_) (fun cdv A outer s H vs Q E hr h => ?_)
  · obtain ⟨n, q, sg, us, as, y, x, r, rfl, _⟩ := h
    rfl
  · obtain ⟨n, q, sg, us, as, y, x, r, rfl, hn, hL, ho, k⟩ := h
    have xL : XfC K T.C_LimitExceeded := ⟨T.E_LimitExceeded.hg, T.E_LimitExceeded.hk, T.E_LimitExceeded.hs, T.E_LimitExceeded.hd⟩
    refine ⟨_, pss_cons (ps_try_cls (Wout := fun _ _ _ _ => False) rfl rfl takes0
      (fun W pn xe tk _ => pss_one (ps_expr (by exact (pe_callS G_l_call (hr.mono (by decide)) rfl T.m_l_call T.F_l_call.kp T.b_l_call (fun σ => passAt tk σ) (pa_cons (pv 0) (pa_cons (pv 1) (pa_cons (pv 2) (pa_cons (pv 3) pa_nil))))))))
      (.named (i := 4) ⟨rfl, by decide, Or.inl T.g_UnknownState⟩ sc_l_told.nd rfl rfl (fun g oe cls d pn hz hf => pss_one (ps_ret (by exact (pe_tup (pa_cons pe_str (pa_cons (pe_callB (call_isEg hz hf) rfl T.n_isinstance (by decide +kernel) (by exact (pa_cons (pv 4) (pa_cons (pe_glob (v := V.ref T.C_ReadError) rfl T.g_ReadError rfl) pa_nil)))) pa_nil))))))
      (.named (i := 4) ⟨rfl, by decide, Or.inl T.g_InvalidText⟩ sc_l_told.nd rfl rfl (fun g oe cls d pn hz hf => pss_one (ps_ret (by exact (pe_tup (pa_cons pe_str (pa_cons (pe_callB (call_isEg hz hf) rfl T.n_isinstance (by decide +kernel) (by exact (pa_cons (pv 4) (pa_cons (pe_glob (v := V.ref T.C_ReadError) rfl T.g_ReadError rfl) pa_nil)))) pa_nil))))))
      (.named (i := 4) ⟨rfl, by decide, Or.inl T.g_LimitExceeded⟩ sc_l_told.nd rfl rfl (fun g oe cls d pn hz hf => pss_one (ps_ret (by exact (pe_tup (pa_cons pe_str (pa_cons (pe_xf xL T.nx_LimitExceeded_limit hz hf (pv 4)) pa_nil)))))) .nil))))
      (pss_one (ps_ret (pe_tup (pa_cons pe_str (pa_cons pe_non pa_nil))))), ?_⟩
    refine ⟨_, rfl, _, rfl, _, rfl, _, rfl, n, q, sg, us, as, y, x, rfl, hn, hL, ?_⟩
    rcases ho with ⟨hb, rfl⟩ | ⟨g, rfl, hg, ho⟩
    · refine .inl ⟨hb, fun H1 s1 => ?_⟩
      refine ⟨true, exm_own T.E_UnknownState.hs T.cl_UnknownState T.ty_UnknownState T.su_UnknownState_UnknownState, fun _ a ha => ?_, fun e => Bool.noConfusion e⟩
      refine ⟨_, rfl, T.C_UnknownState, rfl, rfl, T.E_UnknownState, _, .ref T.C_ReadError, true, rfl, fun u r => r, kit_own T.cl_ReadError T.ty_ReadError T.sr_UnknownState (fun _ => rfl), ?_⟩
      exact ⟨le_size (by simp), fun t ht => k _ t (s1.trans (Same.new _ ht)) (s1.free ht) upd_same⟩
    refine .inr ⟨g, rfl, hg, ?_⟩
    rcases ho with ⟨h2, hb, rfl⟩ | ⟨t, rfl, ht, hin, ho⟩
    · refine .inl ⟨h2, hb, fun H1 s1 => ?_⟩
      refine ⟨false, exm_no T.E_UnknownState.hs T.cl_UnknownState T.ty_UnknownState T.su_InvalidText_UnknownState, fun e => Bool.noConfusion e, fun _ => ?_⟩
      refine ⟨true, exm_own T.E_InvalidText.hs T.cl_InvalidText T.ty_InvalidText T.su_InvalidText_InvalidText, fun _ a ha => ?_, fun e => Bool.noConfusion e⟩
      refine ⟨_, rfl, T.C_InvalidText, rfl, rfl, T.E_InvalidText, _, .ref T.C_ReadError, true, rfl, fun u r => r, kit_own T.cl_ReadError T.ty_ReadError T.sr_InvalidText (fun _ => rfl), ?_⟩
      exact ⟨le_size (by simp), fun t ht => k _ t (s1.trans (Same.new _ ht)) (s1.free ht) upd_same⟩
    refine .inr ⟨t, rfl, ht, hin, ?_⟩
    rcases ho with ⟨h0, hbig, rfl⟩ | ⟨hc, rfl⟩
    · refine .inl ⟨h0, hbig, fun H1 e s1 he => ?_⟩
      refine ⟨false, exm_no T.E_UnknownState.hs T.cl_UnknownState T.ty_UnknownState T.su_LimitExceeded_UnknownState, fun e => Bool.noConfusion e, fun _ => ?_⟩
      refine ⟨false, exm_no T.E_InvalidText.hs T.cl_InvalidText T.ty_InvalidText T.su_LimitExceeded_InvalidText, fun e => Bool.noConfusion e, fun _ => ?_⟩
      refine ⟨true, exm_own T.E_LimitExceeded.hs T.cl_LimitExceeded T.ty_LimitExceeded T.su_LimitExceeded_LimitExceeded, fun _ g hg => ?_, fun e => Bool.noConfusion e⟩
      refine ⟨_, rfl, rfl, rfl, e, _, _, rfl, he, rfl, ?_⟩
      exact ⟨le_size (by simp), fun t ht => k _ t (s1.trans (Same.new _ ht)) (s1.free ht) upd_same⟩
    · refine .inr ⟨hc, fun H1 v s1 => ?_⟩
      exact ⟨le_size (by simp), fun t ht => k _ t (s1.trans (Same.new _ ht)) (s1.free ht) upd_same⟩
end
end J


set_option Elab.async false
set_option linter.all false
set_option maxRecDepth 100000
set_option maxHeartbeats 4000000
namespace J
open PySem L2
def wdA (as : List Arc) (i : Nat) : List Nat := (as.getD i (0, [], 0)).2.1
def txA (as : List Arc) (r : List Nat) : List Nat := (r.map (wdA as)).flatten
theorem txA_nil (as : List Arc) : txA as [] = [] := rfl
theorem txA_cons (as : List Arc) (i : Nat) (r : List Nat) : txA as (i :: r) = wdA as i ++ txA as r := by
  unfold txA
  rw [List.map_cons, List.flatten_cons]
theorem wdA_at {as : List Arc} {i : Nat} {a : Arc} (h : as[i]? = some a) : wdA as i = a.2.1 := by
  unfold wdA
  rw [List.getD_eq_getElem?_getD, h]
  rfl
inductive Rw (as : List Arc) : Nat → List Nat → Prop
  | nil (g : Nat) : Rw as g []
  | cons {i : Nat} {a : Arc} {r : List Nat} : as[i]? = some a → Rw as a.2.2 r → Rw as a.1 (i :: r)
theorem Rw.of {as : List Arc} {g i : Nat} {r : List Nat} (h : Rw as g (i :: r)) : ∃ a, as[i]? = some a ∧ a.1 = g ∧ Rw as a.2.2 r := by
  cases h with
  | cons h t => exact ⟨_, h, rfl, t⟩
theorem Rw.mk {as : List Arc} {g i : Nat} {a : Arc} {r : List Nat} (h : as[i]? = some a) (e : a.1 = g) (t : Rw as a.2.2 r) : Rw as g (i :: r) := e ▸ Rw.cons h t
def WdA (as : List Arc) : Prop := ∀ a ∈ as, 1 ≤ a.2.1.length
theorem txA_nil_of {as : List Arc} (hw : WdA as) {g : Nat} {r : List Nat} (h : Rw as g r) (e : txA as r = []) : r = [] := by
  cases h with
  | nil => rfl
  | cons h t =>
    rw [txA_cons, wdA_at h] at e
    have h1 := hw _ (List.mem_of_getElem? h)
    rw [(List.append_eq_nil_iff.mp e).1] at h1
    exact absurd h1 (by decide)
theorem pre_app {u v w : List Nat} : u ++ v <+: u ++ w ↔ v <+: w := List.prefix_append_right_inj u
theorem pre_two {u v x y : List Nat} (h : u ++ x <+: v ++ y) : u <+: v ∨ v <+: u :=
  List.prefix_or_prefix_of_prefix ((List.prefix_append u x).trans h) (List.prefix_append v y)
theorem cat_drop {u v : List Nat} (h : u <+: v) : u ++ v.drop u.length = v := by
  obtain ⟨t, rfl⟩ := h
  rw [List.drop_left]

theorem mem_leav {as : List Arc} {g i : Nat} : i ∈ leav as g ↔ ∃ a, as[i]? = some a ∧ a.1 = g := by
  refine ⟨leav_mem, fun ⟨a, ha, e⟩ => ?_⟩
  unfold leav leavTo
  exact List.mem_filter.mpr ⟨List.mem_range.mpr (List.getElem?_eq_some_iff.mp ha).1, by rw [ha, decide_eq_true_eq]; exact congrArg some e⟩

def spJoined : Sp := fun vs H Q _ => ∃ (a r : Addr) (as : List Arc) (row : List Nat), vs = [.ref a, .ref r] ∧ ArcL H a as ∧ OkAll as ∧ H r = some (.lst (nats row)) ∧ RowIn as row ∧ row.length ≤ 10000 ∧
  ∀ H' : Hp, Same H H' → Q (.str (SX.S (rowText as row))) H'
def spEnd : Sp := fun vs H Q _ => ∃ (a r : Addr) (as : List Arc) (g : Nat) (row : List Nat), vs = [.ref a, .int (g : Int), .ref r] ∧ ArcL H a as ∧ H r = some (.lst (nats row)) ∧ RowIn as row ∧
  Q (.int (rowEnd as g row : Nat)) H

theorem wordAt_wdA (as : List Arc) : wordAt as = wdA as := by
  funext i
  unfold wordAt wdA
  rw [List.getD_eq_getElem?_getD]
  cases as[i]? <;> rfl
theorem rowText_txA (as : List Arc) (r : List Nat) : rowText as r = txA as r := by
  unfold rowText txA
  rw [wordAt_wdA]
theorem Rw.rowIn {as : List Arc} {g : Nat} {r : List Nat} (h : Rw as g r) : RowIn as r := by
  induction h with
  | nil => exact fun i hi => (nomatch hi)
  | cons h _ ih =>
    intro i hi
    rcases List.mem_cons.mp hi with rfl | q
    · exact (List.getElem?_eq_some_iff.mp h).1
    · exact ih i q
theorem rowEnd_cons {as : List Arc} {g i : Nat} {a : Arc} (h : as[i]? = some a) (r : List Nat) : rowEnd as g (i :: r) = rowEnd as a.2.2 r := by
  unfold rowEnd
  cases r with
  | nil => exact goalAt_eq h
  | cons j r =>
    rw [List.getLast?_cons_cons]
    cases e : (j :: r).getLast? with
    | none => simp at e
    | some k => rfl
theorem Rw.snoc_iff {as : List Arc} {j : Nat} : ∀ {r : List Nat} {g : Nat}, Rw as g (r ++ [j]) ↔ Rw as g r ∧ j ∈ leav as (rowEnd as g r)
  | [], g => by
    rw [mem_leav]
    constructor
    · intro h
      obtain ⟨a, h1, h2, _⟩ := Rw.of (i := j) (r := []) h
      exact ⟨Rw.nil g, a, h1, h2⟩
    · rintro ⟨_, a, h1, h2⟩
      exact Rw.mk h1 h2 (Rw.nil _)
  | i :: r, g => by
    constructor
    · intro h
      obtain ⟨a, h1, h2, h3⟩ := Rw.of (i := i) (r := r ++ [j]) h
      obtain ⟨h4, h5⟩ := Rw.snoc_iff.mp h3
      exact ⟨Rw.mk h1 h2 h4, by rw [rowEnd_cons h1]; exact h5⟩
    · rintro ⟨h, h5⟩
      obtain ⟨a, h1, h2, h3⟩ := h.of
      rw [rowEnd_cons h1] at h5
      exact Rw.mk (r := r ++ [j]) h1 h2 (Rw.snoc_iff.mpr ⟨h3, h5⟩)

section
variable {P : Program} {w : World} {K : PySem.W.Frag} {mg : Str → Option Value} {base : Heap}
end
end J


set_option Elab.async false
set_option linter.all false
set_option maxRecDepth 100000
set_option maxHeartbeats 4000000
namespace J
open PySem L2
theorem rd_rw {as : List Arc} {g : Nat} {u r : List Nat} : Rd as g u r ↔ Rw as g r ∧ u = txA as r := by
  constructor
  · intro h
    induction h with
    | nil => exact ⟨.nil _, rfl⟩
    | @cons g i a u r h e p t ih =>
      refine ⟨Rw.mk h e ih.1, ?_⟩
      rw [txA_cons, wdA_at h, ← ih.2]
      exact (List.prefix_iff_eq_append.mp p).symm
  · rintro ⟨h, rfl⟩
    induction h with
    | nil => exact .nil
    | @cons i a r h t ih =>
      refine .cons h rfl ?_ ?_
      · rw [txA_cons, wdA_at h]
        exact List.prefix_append _ _
      · rw [txA_cons, wdA_at h, List.drop_left]
        exact ih
theorem Rw.same {as : List Arc} {g g' i : Nat} {r : List Nat} (h : Rw as g (i :: r)) (h' : Rw as g' (i :: r)) : g = g' := by
  obtain ⟨a, h1, h2, _⟩ := h.of
  obtain ⟨b, e1, e2, _⟩ := h'.of
  rw [h1] at e1
  cases e1
  rw [← h2, ← e2]
theorem end_nil (as : List Arc) (g : Nat) : rowEnd as g [] = g := rfl
theorem rowEnd_le {as : List Arc} (oka : OkAll as) {g : Nat} (hg : g ≤ 63) (r : List Nat) : rowEnd as g r ≤ 63 := by
  unfold rowEnd
  split
  · exact goalAt_le oka _
  · exact hg
end J


set_option Elab.async false
set_option linter.all false
set_option maxRecDepth 100000
set_option maxHeartbeats 4000000
namespace J
open PySem L2
/-! ### count tells the number of the readings -/
def Sg (f : Nat → Int) (i : Nat) : Nat → Int
  | 0 => 0
  | m + 1 => f i + Sg f (i + 1) m
theorem Sg_congr {f g : Nat → Int} : ∀ (i m : Nat), (∀ j, i ≤ j → j < i + m → f j = g j) → Sg f i m = Sg g i m
  | i, 0, _ => rfl
  | i, m + 1, h => by
    show f i + Sg f (i + 1) m = g i + Sg g (i + 1) m
    rw [h i (Nat.le_refl _) (by omega), Sg_congr (i + 1) m fun j h1 h2 => h j (by omega) (by omega)]
theorem Sg_add (f g : Nat → Int) : ∀ (i m : Nat), Sg (fun j => f j + g j) i m = Sg f i m + Sg g i m
  | _, 0 => rfl
  | i, m + 1 => by
    show f i + g i + Sg _ (i + 1) m = f i + Sg f (i + 1) m + (g i + Sg g (i + 1) m)
    rw [Sg_add f g (i + 1) m]
    omega
theorem Sg_zero (f : Nat → Int) : ∀ (i m : Nat), (∀ j, i ≤ j → j < i + m → f j = 0) → Sg f i m = 0
  | _, 0, _ => rfl
  | i, m + 1, h => by
    show f i + Sg f (i + 1) m = 0
    rw [h i (Nat.le_refl _) (by omega), Sg_zero f (i + 1) m fun j h1 h2 => h j (by omega) (by omega)]
    rfl
theorem Sg_one (k : Nat) (v : Int) : ∀ (i m : Nat), i ≤ k → k < i + m → Sg (fun j => if j = k then v else 0) i m = v
  | i, 0, h1, h2 => by omega
  | i, m + 1, h1, h2 => by
    show (if i = k then v else 0) + Sg _ (i + 1) m = v
    by_cases c : i = k
    · rw [if_pos c, Sg_zero _ _ _ fun j a b => if_neg (by omega)]
      omega
    · rw [if_neg c, Sg_one k v (i + 1) m (by omega) (by omega)]
      omega
/-- sums over the states -/
def S64 (f : Nat → Int) : Int := ((List.range 64).map f).sum
theorem S64_congr {f g : Nat → Int} (h : ∀ s, f s = g s) : S64 f = S64 g := by
  unfold S64
  rw [show f = g from funext h]
theorem S64_add (f g : Nat → Int) : S64 (fun s => f s + g s) = S64 f + S64 g := sum_add _ f g
theorem S64_zero (f : Nat → Int) (h : ∀ s, f s = 0) : S64 f = 0 := sum_zero _ _ fun s _ => h s
theorem S64_one (k : Nat) (v : Int) (hk : k < 64) : S64 (fun s => if s = k then v else 0) = v := sum_single 64 k v hk
/-- what one arc hands on -/
def hand (x : List Nat) (F B : Nat → Nat → Int) (i : Nat) (a : Arc) : Int := if matchAt x a.2.1 i = true then F i a.1 * B (i + a.2.1.length) a.2.2 else 0
theorem hand_one {x : List Nat} {F B : Nat → Nat → Int} {i m : Nat} {a : Arc} (hg : a.2.2 < 64) (h1 : 1 ≤ a.2.1.length) (hi : i ≤ x.length) (hm : x.length + 1 = i + 1 + m) : Sg (fun j => S64 fun h => con x i F j h a * B j h) (i + 1) m = hand x F B i a := by
  unfold hand
  by_cases c : matchAt x a.2.1 i = true
  · rw [if_pos c]
    have hl := matchAt_le c hi
    rw [Sg_congr (g := fun j => if j = i + a.2.1.length then F i a.1 * B (i + a.2.1.length) a.2.2 else 0) _ _ fun j _ _ => ?_]
    · exact Sg_one _ _ _ _ (by omega) (by omega)
    · by_cases d : j = i + a.2.1.length
      · rw [if_pos d]
        rw [S64_congr (g := fun h => if h = a.2.2 then F i a.1 * B (i + a.2.1.length) a.2.2 else 0) fun h => ?_]
        · exact S64_one _ _ hg
        · unfold con
          by_cases e : h = a.2.2
          · rw [if_pos ⟨c, d, e⟩, if_pos e, d, e]
          · rw [if_neg (fun z => e z.2.2), if_neg e, Int.zero_mul]
      · rw [if_neg d]
        refine S64_zero _ fun h => ?_
        unfold con
        rw [if_neg (fun z => d z.2.1), Int.zero_mul]
  · rw [if_neg c]
    refine Sg_zero _ _ _ fun j _ _ => S64_zero _ fun h => ?_
    unfold con
    rw [if_neg (fun z => c z.1), Int.zero_mul]
theorem hand_all {x : List Nat} {F B : Nat → Nat → Int} {i m : Nat} (hi : i ≤ x.length) (hm : x.length + 1 = i + 1 + m) : ∀ as : List Arc, (∀ a ∈ as, a.2.2 < 64 ∧ 1 ≤ a.2.1.length) → Sg (fun j => S64 fun h => (as.map (con x i F j h)).sum * B j h) (i + 1) m = (as.map (hand x F B i)).sum
  | [], _ => Sg_zero _ _ _ fun j _ _ => S64_zero _ fun h => Int.zero_mul _
  | a :: as, h => by
    have e : ∀ j h, ((a :: as).map (con x i F j h)).sum * B j h = con x i F j h a * B j h + (as.map (con x i F j h)).sum * B j h := fun j h => by
      rw [List.map_cons, List.sum_cons, Int.add_mul]
    rw [Sg_congr _ _ fun j _ _ => (S64_congr (e j)).trans (S64_add _ _), Sg_add, hand_one (h a (by simp)).1 (h a (by simp)).2 hi hm, hand_all hi hm as fun b hb => h b (List.mem_cons_of_mem _ hb), List.map_cons, List.sum_cons]
/-- the other way: a place's ways on, arc by arc -/
theorem hand_back {x : List Nat} {F B : Nat → Nat → Int} {i : Nat} : ∀ as : List Arc, (∀ a ∈ as, a.1 < 64) → S64 (fun h => F i h * (as.map fun a : Arc => if a.1 = h ∧ matchAt x a.2.1 i = true then B (i + a.2.1.length) a.2.2 else 0).sum) = (as.map (hand x F B i)).sum
  | [], _ => S64_zero _ fun h => Int.mul_zero _
  | a :: as, h => by
    have e : ∀ s, F i s * ((a :: as).map fun a : Arc => if a.1 = s ∧ matchAt x a.2.1 i = true then B (i + a.2.1.length) a.2.2 else 0).sum = (if s = a.1 then hand x F B i a else 0) + F i s * (as.map fun a : Arc => if a.1 = s ∧ matchAt x a.2.1 i = true then B (i + a.2.1.length) a.2.2 else 0).sum := fun s => by
      rw [List.map_cons, List.sum_cons, Int.mul_add]
      congr 1
      unfold hand
      by_cases c : s = a.1
      · by_cases d : matchAt x a.2.1 i = true
        · rw [if_pos ⟨c.symm, d⟩, if_pos c, if_pos d, c]
        · rw [if_neg (fun z => d z.2), if_pos c, if_neg d, Int.mul_zero]
      · rw [if_neg (fun z => c z.1.symm), if_neg c, Int.mul_zero]
    rw [S64_congr e, S64_add, S64_one _ _ (h a (by simp)), hand_back as fun b hb => h b (List.mem_cons_of_mem _ hb), List.map_cons, List.sum_cons]
theorem flat_len {α β : Type} (f : α → List β) (l : List α) : ((l.flatMap f).length : Int) = (l.map fun a => ((f a).length : Int)).sum := by
  induction l with
  | nil => rfl
  | cons a l ih => rw [List.flatMap_cons, List.length_append, List.map_cons, List.sum_cons, ← ih]; omega
theorem sum_filter {α : Type} (p : α → Bool) (f : α → Int) (l : List α) (h : ∀ a ∈ l, p a = false → f a = 0) : ((l.filter p).map f).sum = (l.map f).sum := by
  induction l with
  | nil => rfl
  | cons a l ih =>
    have ih2 := ih fun b hb => h b (List.mem_cons_of_mem _ hb)
    by_cases c : p a = true
    · rw [List.filter_cons_of_pos c, List.map_cons, List.map_cons, List.sum_cons, List.sum_cons, ih2]
    · rw [List.filter_cons_of_neg c, List.map_cons, List.sum_cons, ih2, h a (by simp) (by simpa using c)]
      omega
theorem range_map {α : Type} (as : List α) (f : Option α → Int) : (List.range as.length).map (fun i => f as[i]?) = as.map fun a => f (some a) := by
  refine List.ext_getElem (by simp) fun i h1 h2 => ?_
  simp only [List.length_map, List.length_range] at h1
  simp [List.getElem?_eq_getElem h1]
/-- the number of the rows that read a text, arc by arc -/
theorem rdg_len {as : List Arc} (hw : Wd as) (g : Nat) {u : List Nat} (hu : u ≠ []) : ((rdg as g u).length : Int) = (as.map fun a : Arc => if a.1 = g ∧ a.2.1 <+: u then ((rdg as a.2.2 (u.drop a.2.1.length)).length : Int) else 0).sum := by
  classical
  rw [rdg_step hw g hu, flat_len]
  unfold liv livI
  have ef : ∀ i, ((match as[i]? with | some a => (rdg as a.2.2 (u.drop a.2.1.length)).map (fun r => i :: r) | none => [] : List (List Nat)).length : Int) = (match as[i]? with | some a => ((rdg as a.2.2 (u.drop a.2.1.length)).length : Int) | none => 0) := fun i => by
    cases as[i]? with
    | none => rfl
    | some a => simp
  have e1 : ∀ l : List Nat, (l.map fun i => ((match as[i]? with | some a => (rdg as a.2.2 (u.drop a.2.1.length)).map (fun r => i :: r) | none => [] : List (List Nat)).length : Int)) = l.map fun i => (match as[i]? with | some a => ((rdg as a.2.2 (u.drop a.2.1.length)).length : Int) | none => 0) := fun l => List.map_congr_left fun i _ => ef i
  refine Eq.trans (congrArg List.sum (e1 _)) ?_
  have e2 : ∀ i ∈ List.range as.length, decide (Lvv as false u g i) = true → (match as[i]? with | some a => ((rdg as a.2.2 (u.drop a.2.1.length)).length : Int) | none => 0) = (match as[i]? with | some a => (if a.1 = g ∧ a.2.1 <+: u then ((rdg as a.2.2 (u.drop a.2.1.length)).length : Int) else 0) | none => 0) := fun i _ hl => by
    obtain ⟨a, ha, ea, tk⟩ := of_decide_eq_true hl
    rw [ha]
    dsimp only
    rw [if_pos ⟨ea, (tk_false.mp tk).1⟩]
  rw [List.map_congr_left (g := fun i => (match as[i]? with | some a => (if a.1 = g ∧ a.2.1 <+: u then ((rdg as a.2.2 (u.drop a.2.1.length)).length : Int) else 0) | none => 0)) fun i hi => e2 i (List.mem_filter.mp hi).1 (List.mem_filter.mp hi).2]
  rw [sum_filter _ _ _ fun i _ hn => ?_]
  · exact congrArg List.sum (range_map as fun o => match o with | some a => (if a.1 = g ∧ a.2.1 <+: u then ((rdg as a.2.2 (u.drop a.2.1.length)).length : Int) else 0) | none => 0)
  · cases ha : as[i]? with
    | none => rfl
    | some a =>
      dsimp only
      split
      · rename_i c
        have hz : rdg as a.2.2 (u.drop a.2.1.length) = [] := Classical.byContradiction fun z => by
          have := rdg_ne hw |>.mp z
          exact absurd (decide_eq_true (show Lvv as false u g i from ⟨a, ha, c.1, tk_false.mpr ⟨c.2, this⟩⟩)) (by rw [hn]; decide)
        rw [hz]
        rfl
      · rfl
noncomputable def waysB (as : List Arc) (x : List Nat) (j h : Nat) : Int := ((rdg as h (x.drop j)).length : Int)
theorem waysB_step {as : List Arc} (hw : Wd as) {x : List Nat} {i : Nat} (hi : i < x.length) (h : Nat) : waysB as x i h = (as.map fun a : Arc => if a.1 = h ∧ matchAt x a.2.1 i = true then waysB as x (i + a.2.1.length) a.2.2 else 0).sum := by
  unfold waysB
  rw [rdg_len hw h (u := x.drop i) fun z => by
    have := congrArg List.length z
    rw [List.length_drop, List.length_nil] at this
    omega]
  refine congrArg List.sum (List.map_congr_left fun a _ => ?_)
  rw [List.drop_drop]
  by_cases c : a.2.1 <+: x.drop i
  · by_cases d : a.1 = h
    · rw [if_pos ⟨d, c⟩, if_pos ⟨d, matchAt_iff.mpr c⟩]
    · rw [if_neg (fun z => d z.1), if_neg (fun z => d z.1)]
  · rw [if_neg (fun z => c z.2), if_neg (fun z => c (matchAt_iff.mp z.2))]
theorem run_ways {as : List Arc} (hw : Wd as) (ha : ∀ a ∈ as, a.1 < 64 ∧ a.2.2 < 64) {s : Nat} (hs : s < 64) (x : List Nat) : ∀ i, i ≤ x.length → Sg (fun j => S64 fun h => run as s x i j h * waysB as x j h) i (x.length + 1 - i) = waysB as x 0 s
  | 0, _ => by
    rw [Sg_congr (g := fun j => if j = 0 then waysB as x 0 s else 0) _ _ fun j _ _ => ?_]
    · exact Sg_one 0 _ 0 _ (Nat.le_refl _) (by omega)
    · by_cases c : j = 0
      · subst c
        rw [if_pos rfl, S64_congr (g := fun h => if h = s then waysB as x 0 s else 0) fun h => ?_]
        · exact S64_one _ _ hs
        · show (if 0 = 0 ∧ h = s then (1 : Int) else 0) * _ = _
          by_cases d : h = s
          · rw [if_pos ⟨rfl, d⟩, if_pos d, d, Int.one_mul]
          · rw [if_neg (fun z => d z.2), if_neg d, Int.zero_mul]
      · rw [if_neg c]
        refine S64_zero _ fun h => ?_
        show (if j = 0 ∧ h = s then (1 : Int) else 0) * _ = _
        rw [if_neg (fun z => c z.1), Int.zero_mul]
  | i + 1, hi => by
    have ih := run_ways hw ha hs x i (by omega)
    rw [show x.length + 1 - i = (x.length - i) + 1 by omega] at ih
    have ih2 : (S64 fun h => run as s x i i h * waysB as x i h) + Sg (fun j => S64 fun h => run as s x i j h * waysB as x j h) (i + 1) (x.length - i) = waysB as x 0 s := ih
    have e : ∀ j, (S64 fun h => run as s x (i + 1) j h * waysB as x j h) = (S64 fun h => run as s x i j h * waysB as x j h) + S64 fun h => (as.map (con x i (run as s x i) j h)).sum * waysB as x j h := fun j => by
      rw [← S64_add]
      refine S64_congr fun h => ?_
      show (run as s x i j h + (as.map (con x i (run as s x i) j h)).sum) * _ = _
      rw [Int.add_mul]
    rw [show x.length + 1 - (i + 1) = x.length - i by omega, Sg_congr _ _ fun j _ _ => e j, Sg_add, hand_all (by omega) (by omega) as fun a h => ⟨(ha a h).2, hw a h⟩, ← hand_back as fun a h => (ha a h).1]
    rw [S64_congr fun h => by rw [waysB_step hw (by omega) h]] at ih2
    omega
/-- count tells the number of all readings -/
theorem cnt_rdg {as : List Arc} (oka : OkAll as) (hw : Wd as) {s : Nat} (hs : s ≤ 63) (x : List Nat) : cnt as s x = ((rdg as s x).length : Int) := by
  have ha : ∀ a ∈ as, a.1 < 64 ∧ a.2.2 < 64 := fun a h => by
    obtain ⟨h1, _, _, h4⟩ := oka.2 a h
    exact ⟨by omega, by omega⟩
  have e := run_ways hw ha (show s < 64 by omega) x x.length (Nat.le_refl _)
  rw [show x.length + 1 - x.length = 0 + 1 by omega] at e
  have e2 : (S64 fun h => run as s x x.length x.length h * waysB as x x.length h) + 0 = waysB as x 0 s := e
  have e3 : ∀ h, run as s x x.length x.length h * waysB as x x.length h = run as s x x.length x.length h := fun h => by
    unfold waysB
    rw [List.drop_of_length_le (Nat.le_refl _), rdg_nil]
    exact Int.mul_one _
  rw [S64_congr e3] at e2
  unfold waysB at e2
  rw [List.drop_zero] at e2
  unfold cnt
  unfold S64 at e2
  omega
end J


set_option Elab.async false
set_option linter.all false
set_option maxRecDepth 100000
set_option maxHeartbeats 4000000
namespace J
open PySem L2
def twins (m : Nat) : List Arc := List.replicate m (0, [97], 0)
theorem sum_rep (m : Nat) (x : Int) : (List.replicate m x).sum = m * x := by
  induction m with
  | zero => simp
  | succ m ih => rw [List.replicate_succ, List.sum_cons, ih, Int.natCast_add, Int.add_mul]; omega
theorem twins_wd (m : Nat) : Wd (twins m) := fun a ha => by rw [List.eq_of_mem_replicate ha]; decide
theorem twins_len (m : Nat) : ∀ n, ((rdg (twins m) 0 (List.replicate n 97)).length : Int) = (m : Int) ^ n
  | 0 => by rw [List.replicate_zero, rdg_nil]; rfl
  | n + 1 => by
    rw [rdg_len (twins_wd m) 0 (by simp)]
    unfold twins
    rw [List.map_replicate, sum_rep]
    dsimp only
    rw [if_pos ⟨rfl, by rw [List.replicate_succ]; exact ⟨_, rfl⟩⟩]
    rw [show List.drop ([97] : List Nat).length (List.replicate (n + 1) 97) = List.replicate n 97 from rfl]
    have ih := twins_len m n
    unfold twins at ih
    rw [ih, Int.pow_succ]
    exact Int.mul_comm _ _
end J


set_option Elab.async false
set_option linter.all false
set_option maxRecDepth 100000
set_option maxHeartbeats 4000000
namespace J
open PySem L2
theorem init_make {C : Addr} {H : Hp} {x dx a : Addr} {sg : List Nat} {us : List V} {as : List Arc} {Q : VK} {E : XK} (hx : H x = none) (hdx : H dx = none) (hne : x ≠ dx) (ha : H a = some (.lst us)) (harc : Arcs H us as) (hok : OkW sg as) (hsg : Signs sg)
    (k : ∀ H', Same H H' → LoomAt C H' x sg us as → Q .non H') : spInit C [.ref x, .str (SX.S sg), .ref a] (upd (upd H dx (.own x)) x (.ins C dx [])) Q E := by
  have s2 : Same H (upd (upd H dx (.own x)) x (.ins C dx [])) := (Same.new _ hdx).trans (Same.new _ (by rw [upd_ne hne]; exact hx))
  refine ⟨x, dx, a, sg, us, as, rfl, upd_same, s2 _ _ ha, harc.same s2, hok, hsg, fun H' Tp x3 hTp hTus hx3 => ?_⟩
  have s3 : Same H H' := fun b o e => x3 _ _ (ne_of_none e hx) (s2 _ _ e)
  exact k _ s3 ⟨dx, Tp, hx3, hTus, harc.same s3, hok, hsg⟩
def spInitM (C : Addr) : Sp := fun vs H Q _ => ∃ (x dx a : Addr) (sg : List Nat) (us : List V) (as : List Arc) (H0 : Hp), vs = [.ref x, .str (SX.S sg), .ref a] ∧ H = upd (upd H0 dx (.own x)) x (.ins C dx []) ∧ H0 x = none ∧ H0 dx = none ∧ x ≠ dx ∧ H0 a = some (.lst us) ∧ Arcs H0 us as ∧ OkW sg as ∧ Signs sg ∧
  ∀ H', Same H0 H' → LoomAt C H' x sg us as → Q .non H'
theorem init_tells {C : Addr} {vs : List V} {H : Hp} {Q : VK} {E : XK} (h : spInitM C vs H Q E) : spInit C vs H Q E := by
  obtain ⟨x, dx, a, sg, us, as, H0, rfl, rfl, hx, hdx, hne, ha, harc, hok, hsg, k⟩ := h
  exact init_make hx hdx hne ha harc hok hsg k
theorem mul_S (c n : Nat) (h : 2 ≤ n) : Txt.mul (SX.S [c]) (n : Int) = SX.S (List.replicate n c) := by
  unfold Txt.mul
  rw [if_neg (by omega), if_neg (by simp [SX.S_len]; omega)]
  have e : ∀ (k : Nat) (acc : Array Nat), ((List.replicate k (#[c] : Array Nat)).foldl (· ++ ·) acc) = acc ++ (List.replicate k c).toArray := by
    intro k
    induction k with
    | zero => intro acc; simp
    | succ k ih =>
      intro acc
      rw [List.replicate_succ, List.foldl_cons, ih, List.replicate_succ]
      apply Array.ext'
      simp only [Array.toList_append, List.append_assoc]
      rfl
  show (⟨(List.replicate ((n : Int).toNat) (#[c] : Array Nat)).foldl (· ++ ·) #[]⟩ : Str) = _
  rw [e]
  simp [SX.S]
end J


set_option Elab.async false
set_option linter.all false
set_option maxRecDepth 100000
set_option maxHeartbeats 4000000
namespace J
open PySem L2
def spLaw (K : PySem.W.Frag) : Sp := fun vs H Q _ => ∃ (a : Addr) (ns : List Int), vs = [.ref a] ∧ SqL K H a (ns.map V.int) ∧ ns.length ≤ 63 ∧ ∀ H', Q (.bl true) H'
theorem LoomAt.exS {C : Addr} {H H' : Hp} {p q : Addr} {sg : List Nat} {us : List V} {as : List Arc} {xs : List V} (h : LoomAt C H q sg us as) (hp : H p = some (.lst xs)) (e : Ex p H H') : LoomAt C H' q sg us as := by
  obtain ⟨dx, T, h1, h2, h3, h4, h5⟩ := h
  refine ⟨dx, T, e _ _ ?_ h1, e _ _ ?_ h2, h3.ex e hp, h4, h5⟩
  · intro z; rw [z, hp] at h1; cases h1
  · intro z; rw [z, hp] at h2; cases h2
theorem LoomAt.st {C : Addr} {H H' : Hp} {p l q : Addr} {ns : List Int} {sg : List Nat} {us : List V} {as : List Arc} (h : LoomAt C H q sg us as) (st : StAt ns l H p) (e : Ex p H H') : LoomAt C H' q sg us as := by
  obtain ⟨a, b, c, d, f, h1, h2, h3⟩ := st
  exact h.exS h2 e
theorem ne_state8 {K : PySem.W.Frag} {H : Hp} {a b : Addr} {Q : VK} (ha : H a = some (.tup [.str "state", .bl true])) (hb : H b = some (.tup [.str "state", .bl true])) (q : Q (.bl false) H) : rNeD K (.ref a) (.ref b) H Q :=
  ⟨.tuple [.str "state", .bool true], .tuple [.str "state", .bool true], .tup (SqT.of ha) (.cons (.str _) (.cons (.bl _) .nil)), .tup (SqT.of hb) (.cons (.str _) (.cons (.bl _) .nil)), by decide +kernel, by decide +kernel, by rw [show PyData.eqv (.tuple [.str "state", .bool true]) (.tuple [.str "state", .bool true]) = true from by decide +kernel]; exact q⟩
theorem eq_state8 {K : PySem.W.Frag} {H : Hp} {a b : Addr} {Q : VK} (ha : H a = some (.tup [.str "state", .bl true])) (hb : H b = some (.tup [.str "state", .bl true])) (q : Q (.bl true) H) : rEqD K (.ref a) (.ref b) H Q :=
  ⟨.tuple [.str "state", .bool true], .tuple [.str "state", .bool true], .tup (SqT.of ha) (.cons (.str _) (.cons (.bl _) .nil)), .tup (SqT.of hb) (.cons (.str _) (.cons (.bl _) .nil)), by decide +kernel, by decide +kernel, by rw [show PyData.eqv (.tuple [.str "state", .bool true]) (.tuple [.str "state", .bool true]) = true from by decide +kernel]; exact q⟩
theorem ne_text8 {K : PySem.W.Frag} {H : Hp} {a b : Addr} {Q : VK} (ha : H a = some (.tup [.str "text", .bl true])) (hb : H b = some (.tup [.str "text", .bl true])) (q : Q (.bl false) H) : rNeD K (.ref a) (.ref b) H Q :=
  ⟨.tuple [.str "text", .bool true], .tuple [.str "text", .bool true], .tup (SqT.of ha) (.cons (.str _) (.cons (.bl _) .nil)), .tup (SqT.of hb) (.cons (.str _) (.cons (.bl _) .nil)), by decide +kernel, by decide +kernel, by rw [show PyData.eqv (.tuple [.str "text", .bool true]) (.tuple [.str "text", .bool true]) = true from by decide +kernel]; exact q⟩
theorem eq_text8 {K : PySem.W.Frag} {H : Hp} {a b : Addr} {Q : VK} (ha : H a = some (.tup [.str "text", .bl true])) (hb : H b = some (.tup [.str "text", .bl true])) (q : Q (.bl true) H) : rEqD K (.ref a) (.ref b) H Q :=
  ⟨.tuple [.str "text", .bool true], .tuple [.str "text", .bool true], .tup (SqT.of ha) (.cons (.str _) (.cons (.bl _) .nil)), .tup (SqT.of hb) (.cons (.str _) (.cons (.bl _) .nil)), by decide +kernel, by decide +kernel, by rw [show PyData.eqv (.tuple [.str "text", .bool true]) (.tuple [.str "text", .bool true]) = true from by decide +kernel]; exact q⟩
theorem ne_let8 {K : PySem.W.Frag} {H : Hp} {a b : Addr} {Q : VK} (ha : H a = some (.tup [.str "let", .non])) (hb : H b = some (.tup [.str "let", .non])) (q : Q (.bl false) H) : rNeD K (.ref a) (.ref b) H Q :=
  ⟨.tuple [.str "let", .none], .tuple [.str "let", .none], .tup (SqT.of ha) (.cons (.str _) (.cons .non .nil)), .tup (SqT.of hb) (.cons (.str _) (.cons .non .nil)), by decide +kernel, by decide +kernel, by rw [show PyData.eqv (.tuple [.str "let", .none]) (.tuple [.str "let", .none]) = true from by decide +kernel]; exact q⟩
theorem eq_let8 {K : PySem.W.Frag} {H : Hp} {a b : Addr} {Q : VK} (ha : H a = some (.tup [.str "let", .non])) (hb : H b = some (.tup [.str "let", .non])) (q : Q (.bl true) H) : rEqD K (.ref a) (.ref b) H Q :=
  ⟨.tuple [.str "let", .none], .tuple [.str "let", .none], .tup (SqT.of ha) (.cons (.str _) (.cons .non .nil)), .tup (SqT.of hb) (.cons (.str _) (.cons .non .nil)), by decide +kernel, by decide +kernel, by rw [show PyData.eqv (.tuple [.str "let", .none]) (.tuple [.str "let", .none]) = true from by decide +kernel]; exact q⟩
theorem ne_many8 {K : PySem.W.Frag} {H : Hp} {a b : Addr} {Q : VK} (ha : H a = some (.tup [.str "many", .int 200])) (hb : H b = some (.tup [.str "many", .int 200])) (q : Q (.bl false) H) : rNeD K (.ref a) (.ref b) H Q :=
  ⟨.tuple [.str "many", .int 200], .tuple [.str "many", .int 200], .tup (SqT.of ha) (.cons (.str _) (.cons (.int _) .nil)), .tup (SqT.of hb) (.cons (.str _) (.cons (.int _) .nil)), by decide +kernel, by decide +kernel, by rw [show PyData.eqv (.tuple [.str "many", .int 200]) (.tuple [.str "many", .int 200]) = true from by decide +kernel]; exact q⟩
theorem eq_many8 {K : PySem.W.Frag} {H : Hp} {a b : Addr} {Q : VK} (ha : H a = some (.tup [.str "many", .int 200])) (hb : H b = some (.tup [.str "many", .int 200])) (q : Q (.bl true) H) : rEqD K (.ref a) (.ref b) H Q :=
  ⟨.tuple [.str "many", .int 200], .tuple [.str "many", .int 200], .tup (SqT.of ha) (.cons (.str _) (.cons (.int _) .nil)), .tup (SqT.of hb) (.cons (.str _) (.cons (.int _) .nil)), by decide +kernel, by decide +kernel, by rw [show PyData.eqv (.tuple [.str "many", .int 200]) (.tuple [.str "many", .int 200]) = true from by decide +kernel]; exact q⟩
theorem Signs.cons8 {sg : List Nat} (h : Signs sg) : ∃ c r, sg = c :: r ∧ (∀ x ∈ sg, 97 ≤ x ∧ x ≤ 122) ∧ sg.length ≤ 4 := by
  unfold Signs at h
  simp only [List.mem_cons, List.not_mem_nil, or_false] at h
  rcases h with rfl | rfl | rfl | rfl | rfl | rfl <;> exact ⟨_, _, rfl, by decide, by decide⟩
theorem cat1 (c d : Nat) : (⟨#[c]⟩ : Str) ++ SX.S [d] = SX.S [c, d] := SX.S_cat [c] [d]
theorem mul1 (c : Nat) : Txt.mul (⟨#[c]⟩ : Str) 2001 = SX.S (List.replicate 2001 c) := mul_S c 2001 (by decide)
theorem srr_nil {as : List Arc} {g : Nat} {row : List Nat} (h : Srr as [] 0 g row) : row = [] := by
  cases h with
  | stop _ => rfl
  | go h _ _ _ => exact absurd h (by simp)
theorem liv_none {as : List Arc} {g : Nat} (h : ∀ a ∈ as, a.1 ≠ g) (b : Bool) (u : List Nat) : liv as b u g = [] := by
  rw [List.eq_nil_iff_forall_not_mem]
  intro i hi
  obtain ⟨a, e, e2, _⟩ := mem_liv.mp hi
  exact h a (List.mem_of_getElem? e) e2
theorem rdg_none {as : List Arc} {g : Nat} (h : ∀ a ∈ as, a.1 ≠ g) (c : Nat) (r : List Nat) : rdg as g (c :: r) = [] := by
  unfold rdg
  rw [List.length_cons, rdgF_step _ _ _ (by simp), liv_none h]
  rfl
theorem big_pow {z : Nat} (h : 1 < z) (h2 : z < 4) : 200 < 2 ^ (6 + z) := by
  match z, h, h2 with
  | 2, _, _ => decide
  | 3, _, _ => decide
theorem small_pow {z : Nat} (h : 1 ≥ z) : 2 ^ (6 + z) ≤ 200 := by
  match z, h with
  | 0, _ => decide
  | 1, _ => decide
section
variable {P : Program} {w : World} {K : PySem.W.Frag} {mg : Str → Option Value} {base : Heap}
theorem ok_law (T : Tx K mg) : FnOk P w K mg base CX0 8 T.f_law T.fd_law P_law (spLaw K) := by
  refine T.F_law.ok sc_law (fun vs H Q E h => ?_) (fun cdv A outer s0 H vs Q E hr h => ?_)
  · obtain ⟨a, ns, rfl, _⟩ := h
    rfl
  · obtain ⟨a, ns, rfl, hS, hlen, k⟩ := h
    have G_l_state : FnOk P w K mg base CX0 1 T.f_l_state T.fd_l_state P_l_state (spState K ns) := ok_l_state T ns
    have G_l_draw : FnOk P w K mg base CX0 1 T.f_l_draw T.fd_l_draw P_l_draw (spDraw ns) := ok_l_draw T ns
    have G_l_loom : FnOk P w K mg base CX0 3 T.f_l_loom T.fd_l_loom P_l_loom (spLoom ns) := ok_l_loom T ns
    have G_l_made : FnOk P w K mg base CX0 6 T.f_l_made T.fd_l_made P_l_made (spMade T.C_Loom) := ok_l_made T
    have G_l_odd : FnOk P w K mg base CX0 6 T.f_l_odd T.fd_l_odd P_l_odd (spOdd K ns) := ok_l_odd T ns
    have G_l_told : FnOk P w K mg base CX0 7 T.f_l_told T.fd_l_told P_l_told (spTold8 K T.C_Loom) := ok_l_told T
    have G_count : FnOk P w K mg base (L2.CX P w) 5 T.f_count T.fd_count P_count (spCount3 K T.C_Loom T.C_UnknownState T.C_InvalidText) := ok_count T
    have G_sure : FnOk P w K mg base (L2.CX P w) 5 T.f_sure T.fd_sure P_sure (spSure3 K T.C_Loom T.C_UnknownState T.C_InvalidText) := ok_sure T
    have G_readings : FnOk P w K mg base (L2.CX P w) 5 T.f_readings T.fd_readings P_readings (spReadings3 K T.C_Loom T.C_UnknownState T.C_InvalidText T.C_LimitExceeded) := ok_readings T
    have G_Loom_init : FnOk P w K mg base CX0 4 T.f_Loom_init T.fd_Loom_init P_Loom_init (spInitM T.C_Loom) := (ok_Loom_init T).imp fun _ _ _ _ h => init_tells h
    refine ⟨_, (pss_cons (ps_set (i := 1) sc_law.nd rfl (Or.inl rfl) (pe_call G_l_state (hr.mono (by decide)) rfl T.m_l_state T.F_l_state.kp T.b_l_state .nil pass0 (pa_cons (pv 0) pa_nil)))
        (pss_cons (ps_for PassesOwn.never rfl (pi_range1 rfl T.n_range (pa_cons pe_int pa_nil)) (pg_name (i := 2) sc_law.nd rfl (Or.inl rfl)) (pss_cons (ps_set (i := 3) sc_law.nd rfl (Or.inl rfl) (pe_call G_l_loom (hr.mono (by decide)) rfl T.m_l_loom T.F_l_loom.kp T.b_l_loom .nil pass0 (pa_cons (pv 1) pa_nil)))
        (pss_cons (ps_asg (pv 3) (pg_tup rfl (pgs_cons (pg_name (i := 4) sc_law.nd rfl (Or.inl rfl)) (pgs_cons (pg_name (i := 5) sc_law.nd rfl (Or.inl rfl)) pgs_nil))))
        (pss_cons (ps_set (i := 6) sc_law.nd rfl (Or.inl rfl) (pe_call G_l_made (hr.mono (by decide)) rfl T.m_l_made T.F_l_made.kp T.b_l_made .nil pass0 (pa_cons (pv 3) pa_nil)))
        (pss_cons (ps_for PassesOwn.never rfl (pi_range1 rfl T.n_range (pa_cons pe_int pa_nil)) (pg_name (i := 7) sc_law.nd rfl (Or.inl rfl)) (pss_cons (ps_set (i := 8) sc_law.nd rfl (Or.inl rfl) (pe_call G_l_odd (hr.mono (by decide)) rfl T.m_l_odd T.F_l_odd.kp T.b_l_odd .nil pass0 (pa_cons (pv 1) pa_nil)))
        (pss_one (ps_for PassesOwn.never rfl (pi_range1 rfl T.n_range (pa_cons pe_int pa_nil)) (pg_name (i := 9) sc_law.nd rfl (Or.inl rfl)) (pss_one (ps_if (pt_cmpR (op_neD hr.units) (pe_call G_l_told (hr.mono (by decide)) rfl T.m_l_told T.F_l_told.kp T.b_l_told .nil pass0 (pa_cons (pv 9) (pa_cons (pv 6) (pa_cons (pv 8) (pa_cons (pe_call G_l_odd (hr.mono (by decide)) rfl T.m_l_odd T.F_l_odd.kp T.b_l_odd .nil pass0 (pa_cons (pv 1) pa_nil)) pa_nil))))) (pe_tup (pa_cons pe_str (pa_cons pe_bl pa_nil))) (nomark _)) (pss_one (ps_ret pe_bl)) pss_nil))))))
        (pss_cons (ps_set (i := 10) sc_law.nd rfl (Or.inl rfl) (pe_lst (pa_cons pe_non (pa_cons pe_int (pa_cons pe_bl (pa_cons (pe_lst (pa_cons (pe_ix ix_str (pv 4) pe_int (fun _ _ => rfl)) pa_nil)) (pa_cons (pe_tup (pa_cons (pe_ix ix_str (pv 4) pe_int (fun _ _ => rfl)) pa_nil)) (pa_cons pe_dnewK (pa_cons pe_str (pa_cons pe_str (pa_cons (pe_op op_add_str (pe_ix ix_str (pv 4) pe_int (fun _ _ => rfl)) pe_str) (pa_cons pe_str (pa_cons (pe_op op_add_str (pe_ix ix_str (pv 4) pe_int (fun _ _ => rfl)) pe_str) (pa_cons pe_str (pa_cons (pe_op op_mul_str (pe_ix ix_str (pv 4) pe_int (fun _ _ => rfl)) pe_int) (pa_cons (pv 6) pa_nil))))))))))))))))
        (pss_cons (ps_set (i := 10) sc_law.nd rfl (Or.inl rfl) (pe_op op_cat (pv 10) (pe_lst (pa_cons (pe_lst pa_nil) (pa_cons (pe_tup pa_nil) (pa_cons (pe_lst (pa_cons (pe_lst (pa_cons (pv 4) pa_nil)) pa_nil)) (pa_cons (pe_disp (pps_cons (pe_ix ix_str (pv 4) pe_int (fun _ _ => rfl)) pe_int pps_nil) rfl rfl (by simp) (by decide)) (pa_cons (pe_exc0 PySem.F.excBase_Exception T.in_InvalidText T.g_InvalidText T.kc_InvalidText rfl) (pa_cons (pe_op op_add_str (pe_ix ix_str (pv 4) pe_int (fun _ _ => rfl)) pe_str) (pa_cons (pe_op op_pow pe_int pe_int) pa_nil))))))))))
        (pss_cons (ps_for PassesOwn.never rfl (pi_list (pv 10)) (pg_name (i := 11) sc_law.nd rfl (Or.inl rfl)) (pss_one (ps_for PassesOwn.never rfl (pi_range1 rfl T.n_range (pa_cons pe_int pa_nil)) (pg_name (i := 9) sc_law.nd rfl (Or.inl rfl)) (pss_one (ps_if (pt_cmpR (op_neD hr.units) (pe_call G_l_told (hr.mono (by decide)) rfl T.m_l_told T.F_l_told.kp T.b_l_told .nil pass0 (pa_cons (pv 9) (pa_cons (pv 6) (pa_cons (pe_ix (ix_listK (K := K) rfl) (pe_lst (pa_cons pe_int (pa_cons pe_int pa_nil))) (pe_call G_l_draw (hr.mono (by decide)) rfl T.m_l_draw T.F_l_draw.kp T.b_l_draw .nil pass0 (pa_cons (pv 1) (pa_cons pe_int pa_nil))) (fun _ _ => rfl)) (pa_cons (pv 11) pa_nil))))) (pe_tup (pa_cons pe_str (pa_cons pe_bl pa_nil))) (nomark _)) (pss_one (ps_ret pe_bl)) pss_nil)))))
        (pss_cons (ps_for PassesOwn.never rfl (pi_range1 rfl T.n_range (pa_cons pe_int pa_nil)) (pg_name (i := 9) sc_law.nd rfl (Or.inl rfl)) (pss_one (ps_if (PW.pt (pw_or (pt_cmpR (op_neD hr.units) (pe_call G_l_told (hr.mono (by decide)) rfl T.m_l_told T.F_l_told.kp T.b_l_told .nil pass0 (pa_cons (pv 9) (pa_cons (pv 6) (pa_cons pe_int (pa_cons pe_str pa_nil))))) (pe_tup (pa_cons pe_str (pa_cons pe_non pa_nil))) (nomark _)) (pw_or1 (pt_cmpR op_ne (pe_ix (ix_tupK (K := K) rfl) (pe_call G_l_told (hr.mono (by decide)) rfl T.m_l_told T.F_l_told.kp T.b_l_told .nil pass0 (pa_cons (pv 9) (pa_cons (pv 6) (pa_cons pe_int (pa_cons pe_str pa_nil))))) pe_int (fun _ _ => rfl)) pe_str (nomark _))))) (pss_one (ps_ret pe_bl)) pss_nil)))
        (pss_cons (ps_if (PW.pt (pw_or (pt_cmpR (op_neD hr.units) (pe_call G_readings (hr.mono (by decide)) rfl T.m_readings T.F_readings.kp T.b_readings .nil passL (pa_cons (pv 6) (pa_cons pe_int (pa_cons pe_str pa_nil)))) (pe_lst (pa_cons (pe_lst pa_nil) pa_nil)) (nomark _)) (pw_or (pt_cmpR (op_neD hr.units) (pe_call G_sure (hr.mono (by decide)) rfl T.m_sure T.F_sure.kp T.b_sure .nil passL (pa_cons (pv 6) (pa_cons pe_int (pa_cons pe_str pa_nil)))) (pe_lst pa_nil) (nomark _)) (pw_or1 (pt_cmpR op_ne (pe_call G_count (hr.mono (by decide)) rfl T.m_count T.F_count.kp T.b_count .nil passL (pa_cons (pv 6) (pa_cons pe_int (pa_cons (pe_ix ix_str (pv 4) pe_int (fun _ _ => rfl)) pa_nil)))) pe_int (nomark _)))))) (pss_one (ps_ret pe_bl)) pss_nil)
        (pss_one (ps_if (PW.pt (pw_and (pt_cmpR op_notIn_seq pe_int (pe_lc (own := [("_law_arc", 15)]) (g := (gName 15)) rfl sc_law.nd (pi_list (pv 5)) (blkOk_by (N := N_law) (sc := defScope s_law) (by decide +kernel)) (fun _ _ _ _ _ => (pg_name (i := 15) sc_law.nd rfl (Or.inl rfl))) (fun _ _ _ _ _ => pts_nil) (fun _ _ _ _ _ => (pe_ix (ix_tupK (K := K) rfl) (pv 15) pe_int (fun _ _ => rfl)))) rfl) (pw_and1 (pt_cmpR op_notN (pe_call G_sure (hr.mono (by decide)) rfl T.m_sure T.F_sure.kp T.b_sure .nil passL (pa_cons (pv 6) (pa_cons pe_int (pa_cons (pe_ix ix_str (pv 4) pe_int (fun _ _ => rfl)) pa_nil)))) pe_non (nomark _))))) (pss_one (ps_ret pe_bl)) pss_nil))))))))))))
        (pss_cons (ps_set (i := 12) sc_law.nd rfl (Or.inl rfl) (pe_make T.M_Loom G_Loom_init (hr.mono (by decide)) rfl T.g_Loom T.b_Loom_init .nil pass0 (pa_cons pe_str (pa_cons (pe_lst (pa_cons (pe_tup (pa_cons pe_int (pa_cons pe_str (pa_cons pe_int pa_nil)))) (pa_cons (pe_tup (pa_cons pe_int (pa_cons pe_str (pa_cons pe_int pa_nil)))) pa_nil))) pa_nil))))
        (pss_cons (ps_set (i := 13) sc_law.nd rfl (Or.inl rfl) (pe_op op_add pe_int (pe_call G_l_draw (hr.mono (by decide)) rfl T.m_l_draw T.F_l_draw.kp T.b_l_draw .nil pass0 (pa_cons (pv 1) (pa_cons pe_int pa_nil)))))
        (pss_cons (ps_set (i := 14) sc_law.nd rfl (Or.inl rfl) (pe_ifExp (pt_cmpR op_gt (pv 13) pe_int (nomark _)) (pe_tup (pa_cons pe_str (pa_cons pe_int pa_nil))) (pe_tup (pa_cons pe_str (pa_cons pe_non pa_nil)))))
        (pss_one (ps_ret (pe_and (pe_cmpR (op_eqD hr.units) (pe_call G_l_told (hr.mono (by decide)) rfl T.m_l_told T.F_l_told.kp T.b_l_told .nil pass0 (pa_cons pe_int (pa_cons (pv 12) (pa_cons pe_int (pa_cons (pe_op op_mul_str pe_str (pv 13)) pa_nil))))) (pv 14) (nomark _)) (pe_one (pe_cmpR (op_eqD hr.units) (pe_call G_l_told (hr.mono (by decide)) rfl T.m_l_told T.F_l_told.kp T.b_l_told .nil pass0 (pa_cons pe_int (pa_cons (pv 12) (pa_cons pe_int (pa_cons (pe_op op_add_str (pe_op op_mul_str pe_str (pv 13)) pe_str) pa_nil))))) (pe_tup (pa_cons pe_str (pa_cons pe_bl pa_nil))) (nomark _))))))))))), ?_⟩
    refine ⟨_, rfl, a, rfl, hS, fun H1 p l s1 hp hl st1 => ?_⟩
    refine ⟨4, rfl, by decide, by decide, for_range (lo := 0) (n := 4) (fun i σ H' => ∃ v2 v3 v4 v5 v6 v7 v8 v9 v10 v11 : Option V, σ = [some (.ref a), some (.ref p), v2, v3, v4, v5, v6, v7, v8, v9, v10, v11, none, none, none, none] ∧ StAt ns l H' p) ?_ ?_ ?_⟩
    · exact ⟨none, none, none, none, none, none, none, none, none, none, rfl, st1⟩
    · rintro i σ H2 hi ⟨v2, v3, v4, v5, v6, v7, v8, v9, v10, v11, rfl, st2⟩
      refine ⟨_, rfl, p, l, rfl, st2, fun H3 q r sg us as x3 st3 hq hr0 htup hlst harc hok hsg hny => ?_⟩
      refine ⟨_, rfl, q, _, rfl, SqT.of htup, rfl, _, _, rfl, _, _, rfl, rfl, ?_⟩
      refine ⟨_, rfl, q, r, sg, us, as, rfl, htup, hlst, harc, hok.w, hsg, fun H4 lm s4 hlm hloom => ?_⟩
      have st4 := st3.same s4
      refine ⟨4, rfl, by decide, by decide, for_range (lo := 0) (n := 4) (fun i2 σ H' => ∃ v7 v8 v9 : Option V, σ = [some (.ref a), some (.ref p), some (.int (0 + (i : Int))), some (.ref q), some (.str (SX.S sg)), some (.ref r), some (.ref lm), v7, v8, v9, v10, v11, none, none, none, none] ∧ StAt ns l H' p ∧ Ex p H4 H') ?_ ?_ ?_⟩
      · exact ⟨v7, v8, v9, rfl, st4, Ex.refl _ _⟩
      · rintro i2 σ H5 hi2 ⟨v7, v8, v9, rfl, st5, x5⟩
        refine ⟨_, rfl, p, l, rfl, st5, fun H6 y x6 st6 hy => ?_⟩
        have od6 := hy.odd
        refine ⟨4, rfl, by decide, by decide, for_range (lo := 0) (n := 4) (fun i3 σ H' => ∃ v9 : Option V, σ = [some (.ref a), some (.ref p), some (.int (0 + (i : Int))), some (.ref q), some (.str (SX.S sg)), some (.ref r), some (.ref lm), some (.int (0 + (i2 : Int))), some y, v9, v10, v11, none, none, none, none] ∧ StAt ns l H' p ∧ Ex p H6 H') ?_ ?_ ?_⟩
        · exact ⟨v9, rfl, st6, Ex.refl _ _⟩
        · rintro i3 σ H7 hi3 ⟨v9, rfl, st7, x7⟩
          refine ⟨_, rfl, _, rfl, _, rfl, _, rfl, p, l, rfl, st7, fun H8 x x8 st8 hx => ?_⟩
          have x48 : Ex p H4 H8 := ((x5.trans x6).trans x7).trans x8
          have hb8 : BadSt K H8 y := ⟨(od6.2.choose_spec.choose_spec H8 (x7.trans x8)).1, od6.1⟩
          refine ⟨i3, lm, sg, us, as, y, x, _, by rw [Int.zero_add]; rfl, by omega, hloom.st st4 x48, .inl ⟨hb8, rfl⟩, fun H9 t9 s9 h90 h9 => ?_⟩
          refine ⟨le_size (by simp), fun t10 h10 => ?_⟩
          have e10 := Same.new (.tup [V.str "state", V.bl true]) h10
          refine ne_state8 (e10 _ _ h9) upd_same ⟨_, rfl, iteF ?_⟩
          exact ⟨_, rfl, (st8.same s9).same e10, ((x7.trans x8).trans (Same.ex s9)).trans (Same.ex e10)⟩
        · rintro σ H7 ⟨v9, rfl, st7, x7⟩
          exact ⟨_, _, _, rfl, st7, (x5.trans x6).trans x7⟩
      rintro σ H5 ⟨v7, v8, v9, rfl, st5, x5⟩
      obtain ⟨c0, sr, esg, hcs, hsl⟩ := hsg.cons8
      have zsg : (SX.S sg).length ≤ sizeLine := le_size (by rw [SX.S_len]; omega)
      have hat0 : atI (SX.S sg).cps.toList 0 = some c0 := by rw [esg]; exact atI_nat (xs := c0 :: sr) (j := 0) rfl
      have no65 : 65 ∉ sg := fun h => by have := hcs 65 h; omega
      have no126 : 126 ∉ sg := fun h => by have := hcs 126 h; omega
      have no10 : 10 ∉ sg := fun h => by have := hcs 10 h; omega
      have no32 : 32 ∉ sg := fun h => by have := hcs 32 h; omega
      have no45 : 45 ∉ sg := fun h => by have := hcs 45 h; omega
      have no121 : 121 ∉ sg := hny
      refine ⟨_, rfl, SX.S sg, 0, c0, rfl, rfl, zsg, hat0, ?_⟩
      refine ⟨le_size (by simp), fun b1 hb1 => ?_⟩
      have n1 : b1 ≠ p := (st5.ne hb1).1
      have e1 : Same H5 (upd H5 b1 (.lst [V.str (SX.S [c0])])) := Same.new _ hb1
      have g1 : upd H5 b1 (.lst [V.str (SX.S [c0])]) b1 = some (.lst [V.str (SX.S [c0])]) := upd_same
      have sc1 : Same H5 (upd H5 b1 (.lst [V.str (SX.S [c0])])) := (Same.refl H5).trans e1
      have sg1 : StAt ns l (upd H5 b1 (.lst [V.str (SX.S [c0])])) p := st5.same e1
      generalize upd H5 b1 (.lst [V.str (SX.S [c0])]) = G1 at *
      refine ⟨_, rfl, SX.S sg, 0, c0, rfl, rfl, zsg, hat0, ?_⟩
      refine ⟨le_size (by simp), fun b2 hb2 => ?_⟩
      have n2 : b2 ≠ p := (sg1.ne hb2).1
      have e2 : Same G1 (upd G1 b2 (.tup [V.str (SX.S [c0])])) := Same.new _ hb2
      have g2 : upd G1 b2 (.tup [V.str (SX.S [c0])]) b2 = some (.tup [V.str (SX.S [c0])]) := upd_same
      have sc2 : Same H5 (upd G1 b2 (.tup [V.str (SX.S [c0])])) := sc1.trans e2
      have sg2 : StAt ns l (upd G1 b2 (.tup [V.str (SX.S [c0])])) p := sg1.same e2
      generalize upd G1 b2 (.tup [V.str (SX.S [c0])]) = G2 at *
      refine fun b3 hb3 => ?_
      have n3 : b3 ≠ p := (sg2.ne hb3).1
      have e3 : Same G2 (upd G2 b3 (.dK [])) := Same.new _ hb3
      have g3 : upd G2 b3 (.dK []) b3 = some (.dK []) := upd_same
      have sc3 : Same H5 (upd G2 b3 (.dK [])) := sc2.trans e3
      have sg3 : StAt ns l (upd G2 b3 (.dK [])) p := sg2.same e3
      generalize upd G2 b3 (.dK []) = G3 at *
      refine ⟨_, rfl, SX.S sg, 0, c0, rfl, rfl, zsg, hat0, _, _, rfl, rfl, le_size (by show 1 + 1 ≤ 100000; decide), ?_⟩
      refine ⟨_, rfl, SX.S sg, 0, c0, rfl, rfl, zsg, hat0, _, _, rfl, rfl, le_size (by show 1 + 1 ≤ 100000; decide), ?_⟩
      refine ⟨_, rfl, SX.S sg, 0, c0, rfl, rfl, zsg, hat0, _, _, rfl, rfl, (by show 1 ≤ 16; decide), by decide, by decide, ?_⟩
      refine ⟨_, rfl, ?_⟩
      rw [show Str.ofString "A" = SX.S [65] from rfl, show Str.ofString "y" = SX.S [121] from rfl, show Str.ofString "~" = SX.S [126] from rfl, show Str.ofString "\n" = SX.S [10] from rfl, show Str.ofString " " = SX.S [32] from rfl, cat1, cat1, mul1]
      refine ⟨le_size (by simp), fun b4 hb4 => ?_⟩
      have n4 : b4 ≠ p := (sg3.ne hb4).1
      have e4 : Same G3 (upd G3 b4 (.lst [V.non, V.int 5, V.bl true, V.ref b1, V.ref b2, V.ref b3, V.str (SX.S [65]), V.str (SX.S [121]), V.str (SX.S [c0, 121]), V.str (SX.S [126]), V.str (SX.S [c0, 10]), V.str (SX.S [32]), V.str (SX.S (List.replicate 2001 c0)), V.ref lm])) := Same.new _ hb4
      have g4 : upd G3 b4 (.lst [V.non, V.int 5, V.bl true, V.ref b1, V.ref b2, V.ref b3, V.str (SX.S [65]), V.str (SX.S [121]), V.str (SX.S [c0, 121]), V.str (SX.S [126]), V.str (SX.S [c0, 10]), V.str (SX.S [32]), V.str (SX.S (List.replicate 2001 c0)), V.ref lm]) b4 = some (.lst [V.non, V.int 5, V.bl true, V.ref b1, V.ref b2, V.ref b3, V.str (SX.S [65]), V.str (SX.S [121]), V.str (SX.S [c0, 121]), V.str (SX.S [126]), V.str (SX.S [c0, 10]), V.str (SX.S [32]), V.str (SX.S (List.replicate 2001 c0)), V.ref lm]) := upd_same
      have sc4 : Same H5 (upd G3 b4 (.lst [V.non, V.int 5, V.bl true, V.ref b1, V.ref b2, V.ref b3, V.str (SX.S [65]), V.str (SX.S [121]), V.str (SX.S [c0, 121]), V.str (SX.S [126]), V.str (SX.S [c0, 10]), V.str (SX.S [32]), V.str (SX.S (List.replicate 2001 c0)), V.ref lm])) := sc3.trans e4
      have sg4 : StAt ns l (upd G3 b4 (.lst [V.non, V.int 5, V.bl true, V.ref b1, V.ref b2, V.ref b3, V.str (SX.S [65]), V.str (SX.S [121]), V.str (SX.S [c0, 121]), V.str (SX.S [126]), V.str (SX.S [c0, 10]), V.str (SX.S [32]), V.str (SX.S (List.replicate 2001 c0)), V.ref lm])) p := sg3.same e4
      generalize upd G3 b4 (.lst [V.non, V.int 5, V.bl true, V.ref b1, V.ref b2, V.ref b3, V.str (SX.S [65]), V.str (SX.S [121]), V.str (SX.S [c0, 121]), V.str (SX.S [126]), V.str (SX.S [c0, 10]), V.str (SX.S [32]), V.str (SX.S (List.replicate 2001 c0)), V.ref lm]) = G4 at *
      refine ⟨_, rfl, ?_⟩
      refine ⟨le_size (by simp), fun b5 hb5 => ?_⟩
      have n5 : b5 ≠ p := (sg4.ne hb5).1
      have e5 : Same G4 (upd G4 b5 (.lst [])) := Same.new _ hb5
      have g5 : upd G4 b5 (.lst []) b5 = some (.lst []) := upd_same
      have sc5 : Same H5 (upd G4 b5 (.lst [])) := sc4.trans e5
      have sg5 : StAt ns l (upd G4 b5 (.lst [])) p := sg4.same e5
      generalize upd G4 b5 (.lst []) = G5 at *
      refine ⟨le_size (by simp), fun b6 hb6 => ?_⟩
      have n6 : b6 ≠ p := (sg5.ne hb6).1
      have e6 : Same G5 (upd G5 b6 (.tup [])) := Same.new _ hb6
      have g6 : upd G5 b6 (.tup []) b6 = some (.tup []) := upd_same
      have sc6 : Same H5 (upd G5 b6 (.tup [])) := sc5.trans e6
      have sg6 : StAt ns l (upd G5 b6 (.tup [])) p := sg5.same e6
      generalize upd G5 b6 (.tup []) = G6 at *
      refine ⟨_, rfl, ?_⟩
      refine ⟨le_size (by simp), fun b7 hb7 => ?_⟩
      have n7 : b7 ≠ p := (sg6.ne hb7).1
      have e7 : Same G6 (upd G6 b7 (.lst [V.str (SX.S sg)])) := Same.new _ hb7
      have g7 : upd G6 b7 (.lst [V.str (SX.S sg)]) b7 = some (.lst [V.str (SX.S sg)]) := upd_same
      have sc7 : Same H5 (upd G6 b7 (.lst [V.str (SX.S sg)])) := sc6.trans e7
      have sg7 : StAt ns l (upd G6 b7 (.lst [V.str (SX.S sg)])) p := sg6.same e7
      generalize upd G6 b7 (.lst [V.str (SX.S sg)]) = G7 at *
      refine ⟨le_size (by simp), fun b8 hb8 => ?_⟩
      have n8 : b8 ≠ p := (sg7.ne hb8).1
      have e8 : Same G7 (upd G7 b8 (.lst [V.ref b7])) := Same.new _ hb8
      have g8 : upd G7 b8 (.lst [V.ref b7]) b8 = some (.lst [V.ref b7]) := upd_same
      have sc8 : Same H5 (upd G7 b8 (.lst [V.ref b7])) := sc7.trans e8
      have sg8 : StAt ns l (upd G7 b8 (.lst [V.ref b7])) p := sg7.same e8
      generalize upd G7 b8 (.lst [V.ref b7]) = G8 at *
      refine fun b9 hb9 => ?_
      have n9 : b9 ≠ p := (sg8.ne hb9).1
      refine ⟨_, rfl, SX.S sg, 0, c0, rfl, rfl, zsg, hat0, upd_same, [(.inr (SX.S [c0]), .int 1)], rfl, (by show 1 ≤ 15; decide), ?_⟩
      have e9 : Same G8 (upd (upd G8 b9 (.dK [])) b9 (.dK (mergeK [] [(.inr (SX.S [c0]), .int 1)]))) := (Same.new _ hb9).updNew hb9
      have g9 : upd (upd G8 b9 (.dK [])) b9 (.dK (mergeK [] [(.inr (SX.S [c0]), .int 1)])) b9 = some (.dK (mergeK [] [(.inr (SX.S [c0]), .int 1)])) := upd_same
      have sc9 := sc8.trans e9
      have sg9 := sg8.same e9
      generalize upd (upd G8 b9 (.dK [])) b9 (.dK (mergeK [] [(.inr (SX.S [c0]), .int 1)])) = G9 at *
      refine fun b10 hb10 => ?_
      have n10 : b10 ≠ p := (sg9.ne hb10).1
      have e10 : Same G9 (upd G9 b10 (ExO (.ref T.C_InvalidText) b10)) := Same.new _ hb10
      have g10 : upd G9 b10 (ExO (.ref T.C_InvalidText) b10) b10 = some (ExO (.ref T.C_InvalidText) b10) := upd_same
      have sc10 : Same H5 (upd G9 b10 (ExO (.ref T.C_InvalidText) b10)) := sc9.trans e10
      have sg10 : StAt ns l (upd G9 b10 (ExO (.ref T.C_InvalidText) b10)) p := sg9.same e10
      generalize upd G9 b10 (ExO (.ref T.C_InvalidText) b10) = G10 at *
      refine ⟨_, rfl, SX.S sg, 0, c0, rfl, rfl, zsg, hat0, _, _, rfl, rfl, le_size (by show 1 + 1 ≤ 100000; decide), ?_⟩
      refine ⟨_, _, rfl, rfl, ⟨by decide, by decide, by decide⟩, ?_⟩
      rw [show Str.ofString "-" = SX.S [45] from rfl, cat1]
      refine ⟨le_size (by simp), fun b11 hb11 => ?_⟩
      have n11 : b11 ≠ p := (sg10.ne hb11).1
      have e11 : Same G10 (upd G10 b11 (.lst [V.ref b5, V.ref b6, V.ref b8, V.ref b9, V.ref b10, V.str (SX.S [c0, 45]), V.int (10 ^ (20 : Int).toNat)])) := Same.new _ hb11
      have g11 : upd G10 b11 (.lst [V.ref b5, V.ref b6, V.ref b8, V.ref b9, V.ref b10, V.str (SX.S [c0, 45]), V.int (10 ^ (20 : Int).toNat)]) b11 = some (.lst [V.ref b5, V.ref b6, V.ref b8, V.ref b9, V.ref b10, V.str (SX.S [c0, 45]), V.int (10 ^ (20 : Int).toNat)]) := upd_same
      have sc11 : Same H5 (upd G10 b11 (.lst [V.ref b5, V.ref b6, V.ref b8, V.ref b9, V.ref b10, V.str (SX.S [c0, 45]), V.int (10 ^ (20 : Int).toNat)])) := sc10.trans e11
      have sg11 : StAt ns l (upd G10 b11 (.lst [V.ref b5, V.ref b6, V.ref b8, V.ref b9, V.ref b10, V.str (SX.S [c0, 45]), V.int (10 ^ (20 : Int).toNat)])) p := sg10.same e11
      generalize upd G10 b11 (.lst [V.ref b5, V.ref b6, V.ref b8, V.ref b9, V.ref b10, V.str (SX.S [c0, 45]), V.int (10 ^ (20 : Int).toNat)]) = G11 at *
      refine ⟨b4, b11, _, _, rfl, rfl, (e11 _ _ (e10 _ _ (e9 _ _ (e8 _ _ (e7 _ _ (e6 _ _ (e5 _ _ (g4)))))))), g11, le_size (by show 14 + 7 ≤ 100000; decide), ?_⟩
      refine fun b12 hb12 => ?_
      have n12 : b12 ≠ p := (sg11.ne hb12).1
      have e12 : Same G11 (upd G11 b12 (.lst ([V.non, V.int 5, V.bl true, V.ref b1, V.ref b2, V.ref b3, V.str (SX.S [65]), V.str (SX.S [121]), V.str (SX.S [c0, 121]), V.str (SX.S [126]), V.str (SX.S [c0, 10]), V.str (SX.S [32]), V.str (SX.S (List.replicate 2001 c0)), V.ref lm] ++ [V.ref b5, V.ref b6, V.ref b8, V.ref b9, V.ref b10, V.str (SX.S [c0, 45]), V.int (10 ^ (20 : Int).toNat)]))) := Same.new _ hb12
      have g12 : upd G11 b12 (.lst ([V.non, V.int 5, V.bl true, V.ref b1, V.ref b2, V.ref b3, V.str (SX.S [65]), V.str (SX.S [121]), V.str (SX.S [c0, 121]), V.str (SX.S [126]), V.str (SX.S [c0, 10]), V.str (SX.S [32]), V.str (SX.S (List.replicate 2001 c0)), V.ref lm] ++ [V.ref b5, V.ref b6, V.ref b8, V.ref b9, V.ref b10, V.str (SX.S [c0, 45]), V.int (10 ^ (20 : Int).toNat)])) b12 = some (.lst ([V.non, V.int 5, V.bl true, V.ref b1, V.ref b2, V.ref b3, V.str (SX.S [65]), V.str (SX.S [121]), V.str (SX.S [c0, 121]), V.str (SX.S [126]), V.str (SX.S [c0, 10]), V.str (SX.S [32]), V.str (SX.S (List.replicate 2001 c0)), V.ref lm] ++ [V.ref b5, V.ref b6, V.ref b8, V.ref b9, V.ref b10, V.str (SX.S [c0, 45]), V.int (10 ^ (20 : Int).toNat)])) := upd_same
      have sc12 : Same H5 (upd G11 b12 (.lst ([V.non, V.int 5, V.bl true, V.ref b1, V.ref b2, V.ref b3, V.str (SX.S [65]), V.str (SX.S [121]), V.str (SX.S [c0, 121]), V.str (SX.S [126]), V.str (SX.S [c0, 10]), V.str (SX.S [32]), V.str (SX.S (List.replicate 2001 c0)), V.ref lm] ++ [V.ref b5, V.ref b6, V.ref b8, V.ref b9, V.ref b10, V.str (SX.S [c0, 45]), V.int (10 ^ (20 : Int).toNat)]))) := sc11.trans e12
      have sg12 : StAt ns l (upd G11 b12 (.lst ([V.non, V.int 5, V.bl true, V.ref b1, V.ref b2, V.ref b3, V.str (SX.S [65]), V.str (SX.S [121]), V.str (SX.S [c0, 121]), V.str (SX.S [126]), V.str (SX.S [c0, 10]), V.str (SX.S [32]), V.str (SX.S (List.replicate 2001 c0)), V.ref lm] ++ [V.ref b5, V.ref b6, V.ref b8, V.ref b9, V.ref b10, V.str (SX.S [c0, 45]), V.int (10 ^ (20 : Int).toNat)]))) p := sg11.same e12
      generalize upd G11 b12 (.lst ([V.non, V.int 5, V.bl true, V.ref b1, V.ref b2, V.ref b3, V.str (SX.S [65]), V.str (SX.S [121]), V.str (SX.S [c0, 121]), V.str (SX.S [126]), V.str (SX.S [c0, 10]), V.str (SX.S [32]), V.str (SX.S (List.replicate 2001 c0)), V.ref lm] ++ [V.ref b5, V.ref b6, V.ref b8, V.ref b9, V.ref b10, V.str (SX.S [c0, 45]), V.int (10 ^ (20 : Int).toNat)])) = G12 at *
      have hbad : ∀ v ∈ ([V.non, V.int 5, V.bl true, V.ref b1, V.ref b2, V.ref b3, V.str (SX.S [65]), V.str (SX.S [121]), V.str (SX.S [c0, 121]), V.str (SX.S [126]), V.str (SX.S [c0, 10]), V.str (SX.S [32]), V.str (SX.S (List.replicate 2001 c0)), V.ref lm] ++ [V.ref b5, V.ref b6, V.ref b8, V.ref b9, V.ref b10, V.str (SX.S [c0, 45]), V.int (10 ^ (20 : Int).toNat)] : List V), ∀ H', Ex p G12 H' → BadTx K sg H' v := by
        intro v hv H' xh
        have hloomE : LoomAt T.C_Loom G12 lm sg us as := (hloom.st st4 x5).same sc12
        have hloomH := hloomE.st sg12 xh
        obtain ⟨dxl, Tl, hl1, _⟩ := hloomH
        simp only [List.cons_append, List.nil_append, List.mem_cons, List.not_mem_nil, or_false] at hv
        rcases hv with rfl | rfl | rfl | rfl | rfl | rfl | rfl | rfl | rfl | rfl | rfl | rfl | rfl | rfl | rfl | rfl | rfl | rfl | rfl | rfl | rfl
        · exact .non (.x (.base .non)) (kit_ty (by decide +kernel))
        · exact .non (.x (.base (.int _))) (kit_ty (by decide +kernel))
        · exact .non (.x (.base (.bl _))) (kit_ty (by decide +kernel))
        · exact .non (.x (.base (.lst (xh _ _ n1 (e12 _ _ (e11 _ _ (e10 _ _ (e9 _ _ (e8 _ _ (e7 _ _ (e6 _ _ (e5 _ _ (e4 _ _ (e3 _ _ (e2 _ _ (g1)))))))))))))))) (kit_ty (by decide +kernel))
        · exact .non (.x (.base (.tup (xh _ _ n2 (e12 _ _ (e11 _ _ (e10 _ _ (e9 _ _ (e8 _ _ (e7 _ _ (e6 _ _ (e5 _ _ (e4 _ _ (e3 _ _ (g2))))))))))))))) (kit_ty (by decide +kernel))
        · exact .non (.x (.base (.dK (xh _ _ n3 (e12 _ _ (e11 _ _ (e10 _ _ (e9 _ _ (e8 _ _ (e7 _ _ (e6 _ _ (e5 _ _ (e4 _ _ (g3)))))))))))))) (kit_ty (by decide +kernel))
        · exact .str (by show _ ≤ _; simp) (fun z => no65 (z.2 65 (by simp)))
        · exact .str (by show _ ≤ _; simp) (fun z => no121 (z.2 121 (by simp)))
        · exact .str (by show _ ≤ _; simp) (fun z => no121 (z.2 121 (by simp)))
        · exact .str (by show _ ≤ _; simp) (fun z => no126 (z.2 126 (by simp)))
        · exact .str (by show _ ≤ _; simp) (fun z => no10 (z.2 10 (by simp)))
        · exact .str (by show _ ≤ _; simp) (fun z => no32 (z.2 32 (by simp)))
        · exact .str (by rw [List.length_replicate]; decide) (fun z => absurd z.1 (by rw [List.length_replicate]; decide))
        · exact .non (.x (.base (.ins hl1 T.cl_Loom T.ic_Loom T.ig T.it T.im_Loom))) (kit_cls (by decide +kernel) T.sx_Loom)
        · exact .non (.x (.base (.lst (xh _ _ n5 (e12 _ _ (e11 _ _ (e10 _ _ (e9 _ _ (e8 _ _ (e7 _ _ (e6 _ _ (g5)))))))))))) (kit_ty (by decide +kernel))
        · exact .non (.x (.base (.tup (xh _ _ n6 (e12 _ _ (e11 _ _ (e10 _ _ (e9 _ _ (e8 _ _ (e7 _ _ (g6))))))))))) (kit_ty (by decide +kernel))
        · exact .non (.x (.base (.lst (xh _ _ n8 (e12 _ _ (e11 _ _ (e10 _ _ (e9 _ _ (g8))))))))) (kit_ty (by decide +kernel))
        · exact .non (.x (.base (.dK (xh _ _ n9 (e12 _ _ (e11 _ _ (e10 _ _ (g9)))))))) (kit_ty (by decide +kernel))
        · exact .non (.exo (xh _ _ n10 (e12 _ _ (e11 _ _ (g10)))) T.E_InvalidText) (kit_cls (by decide +kernel) T.sx_InvalidText)
        · exact .str (by show _ ≤ _; simp) (fun z => no45 (z.2 45 (by simp)))
        · exact .non (.x (.base (.int _))) (kit_ty (by decide +kernel))
      have xE : Ex p H4 G12 := x5.trans (Same.ex sc12)
      have hloomE : LoomAt T.C_Loom G12 lm sg us as := hloom.st st4 xE
      refine ⟨_, rfl, b12, rfl, ⟨_, SqL.of g12⟩, ?_⟩
      refine for_list (K := K) (a := b12) (xs := ([V.non, V.int 5, V.bl true, V.ref b1, V.ref b2, V.ref b3, V.str (SX.S [65]), V.str (SX.S [121]), V.str (SX.S [c0, 121]), V.str (SX.S [126]), V.str (SX.S [c0, 10]), V.str (SX.S [32]), V.str (SX.S (List.replicate 2001 c0)), V.ref lm] ++ [V.ref b5, V.ref b6, V.ref b8, V.ref b9, V.ref b10, V.str (SX.S [c0, 45]), V.int (10 ^ (20 : Int).toNat)])) (fun i2 σ H' => ∃ v9 v11 : Option V, σ = [some (.ref a), some (.ref p), some (.int (0 + (i : Int))), some (.ref q), some (.str (SX.S sg)), some (.ref r), some (.ref lm), v7, v8, v9, some (.ref b12), v11, none, none, none, none] ∧ StAt ns l H' p ∧ Ex p G12 H') ?_ ?_ ?_ ?_
      · exact ⟨v9, v11, rfl, sg12, Ex.refl _ _⟩
      · rintro i2 σ H7 _ ⟨_, _, _, _, x7⟩
        exact SqL.of (x7 _ _ n12 g12)
      · rintro i2 v σ H7 hv ⟨v9, v11, rfl, st7, x7⟩
        have hbv := hbad v (List.mem_of_getElem? hv)
        refine ⟨3, rfl, by decide, by decide, for_range (lo := 0) (n := 3) (fun i3 σ H' => ∃ v9 : Option V, σ = [some (.ref a), some (.ref p), some (.int (0 + (i : Int))), some (.ref q), some (.str (SX.S sg)), some (.ref r), some (.ref lm), v7, v8, v9, some (.ref b12), some v, none, none, none, none] ∧ StAt ns l H' p ∧ Ex p G12 H') ?_ ?_ ?_⟩
        · exact ⟨v9, rfl, st7, x7⟩
        · rintro i3 σ H8 hi3 ⟨v9, rfl, st8, x8⟩
          refine ⟨_, rfl, _, rfl, le_size (by simp), fun lp hlp => ?_⟩
          have nlp : lp ≠ p := (st8.ne hlp).1
          have elp := Same.new (.lst [V.int 0, V.int 5]) hlp
          have glp : upd H8 lp (.lst [V.int 0, V.int 5]) lp = some (.lst [V.int 0, V.int 5]) := upd_same
          have st9 := st8.same elp
          have x9 := x8.trans (Same.ex elp)
          generalize upd H8 lp (.lst [V.int 0, V.int 5]) = H9 at *
          refine ⟨_, rfl, p, l, 2, rfl, st9, by decide, by decide, fun H10 r10 xx st10 r100 r101 => ?_⟩
          obtain ⟨vd, hvd, hatd⟩ := atI_mem (xs := [V.int 0, V.int 5]) r100 (by simpa using r101)
          obtain ⟨g, rfl, hg⟩ : ∃ g : Nat, vd = .int (g : Int) ∧ g ≤ 63 := by
            simp only [List.mem_cons, List.not_mem_nil, or_false] at hvd
            rcases hvd with rfl | rfl
            · exact ⟨0, rfl, by decide⟩
            · exact ⟨5, rfl, by decide⟩
          refine ⟨lp, _, _, _, rfl, rfl, SqL.of (xx _ _ nlp glp), hatd, _, rfl, ?_⟩
          have x10 := x9.trans xx
          refine ⟨i3, lm, sg, us, as, _, v, _, by rw [Int.zero_add]; rfl, by omega, hloomE.st sg12 x10, .inr ⟨g, rfl, hg, .inl ⟨by omega, hbv _ x10, rfl⟩⟩, fun H11 t11 s11 h110 h11 => ?_⟩
          refine ⟨le_size (by simp), fun t12 h12 => ?_⟩
          have e12 := Same.new (.tup [V.str "text", V.bl true]) h12
          refine ne_text8 (e12 _ _ h11) upd_same ⟨_, rfl, iteF ?_⟩
          exact ⟨_, rfl, (st10.same s11).same e12, (x10.trans (Same.ex s11)).trans (Same.ex e12)⟩
        · rintro σ H8 ⟨v9, rfl, st8, x8⟩
          exact ⟨_, _, rfl, st8, x8⟩
      rintro σ H7 ⟨v9, v11, rfl, st7, x7⟩
      clear hbad
      have hloom7 := hloomE.st sg12 x7
      -- the ends
      refine ⟨4, rfl, by decide, by decide, for_range (lo := 0) (n := 4) (fun i3 σ H' => ∃ v9 : Option V, σ = [some (.ref a), some (.ref p), some (.int (0 + (i : Int))), some (.ref q), some (.str (SX.S sg)), some (.ref r), some (.ref lm), v7, v8, v9, some (.ref b12), v11, none, none, none, none] ∧ Same H7 H') ?_ ?_ ?_⟩
      · exact ⟨v9, rfl, Same.refl _⟩
      · rintro i3 σ H8 hi3 ⟨v9, rfl, s8⟩
        have outl : ∀ (H' : Hp) (g : Nat), g ≤ 63 → OutP K H' sg as i3 (.int (g : Int)) (.str (SX.S [])) [.str "let", .non] := fun H' g hg => .inr ⟨g, rfl, hg, .inr ⟨[], rfl, by simp, (fun c hc => nomatch hc), .inr ⟨fun _ => by rw [rdg_nil]; decide, rfl⟩⟩⟩
        refine ⟨_, rfl, _, rfl, i3, lm, sg, us, as, _, _, _, by rw [Int.zero_add]; rfl, by omega, hloom7.same s8, outl _ 63 (by decide), fun H9 t9 s9 h90 h9 => ?_⟩
        refine ⟨le_size (by simp), fun t10 h10 => ?_⟩
        have e10 := Same.new (.tup [V.str "let", V.non]) h10
        refine ne_let8 (e10 _ _ h9) upd_same ⟨_, rfl, iteF ?_⟩
        have s10 := (s8.trans s9).trans e10
        generalize upd H9 t10 (.tup [V.str "let", V.non]) = H10 at *
        refine ⟨_, rfl, _, rfl, i3, lm, sg, us, as, _, _, _, by rw [Int.zero_add]; rfl, by omega, hloom7.same s10, outl _ 0 (by decide), fun H11 t11 s11 h110 h11 => ?_⟩
        refine ⟨t11, _, 0, _, rfl, rfl, SqT.of h11, rfl, rfl, _, rfl, ?_⟩
        refine ite2 (fun c => absurd c (by simp)) fun _ => ?_
        exact ⟨_, rfl, s10.trans s11⟩
      rintro σ H8 ⟨v9, rfl, s8⟩
      have hloom8 := hloom7.same s8
      have st8 := st7.same s8
      have hno62 : ∀ a ∈ as, a.1 ≠ 62 := hok.2.2.2.2
      refine ⟨_, rfl, lm, sg, us, as, _, _, rfl, hloom8, .inr ⟨63, rfl, by decide, .inr ⟨[], rfl, by simp, (fun c hc => nomatch hc), fun hb => absurd hb (by rw [rdg_nil]; decide), fun _ H9 fr vs s9 hfr0 hfr hR => ?_⟩⟩⟩
      rw [rdg_nil] at hR
      refine ⟨le_size (by simp), fun w1 hw1 => ?_⟩
      have ew1 := Same.new (.lst []) hw1
      have gw1 : upd H9 w1 (.lst []) w1 = some (.lst []) := upd_same
      replace s9 := s9.trans ew1
      replace hfr := ew1 _ _ hfr
      replace hR : RowsAt (upd H9 w1 (.lst [])) (fun a => a ≠ fr ∧ H8 a = none) vs [[]] := hR.to fun b o _ h => ew1 _ _ h
      generalize upd H9 w1 (.lst []) = H10 at *
      refine ⟨le_size (by simp), fun w2 hw2 => ?_⟩
      have ew2 := Same.new (.lst [V.ref w1]) hw2
      have gw2 : upd H10 w2 (.lst [V.ref w1]) w2 = some (.lst [V.ref w1]) := upd_same
      replace s9 := s9.trans ew2
      replace hfr := ew2 _ _ hfr
      replace gw1 := ew2 _ _ gw1
      replace hR : RowsAt (upd H10 w2 (.lst [V.ref w1])) (fun a => a ≠ fr ∧ H8 a = none) vs [[]] := hR.to fun b o _ h => ew2 _ _ h
      generalize upd H10 w2 (.lst [V.ref w1]) = H11 at *
      obtain ⟨ra, hv0, hra, _⟩ := hR.2 0 [] rfl
      obtain rfl : vs = [.ref ra] := by
        have hl1 : vs.length = 1 := hR.1
        match vs, hl1 with
        | [x], _ => exact congrArg (fun y => [y]) (Option.some.inj hv0)
      refine ⟨.list [.list []], .list [.list []], .lst (SqL.of hfr) (.cons (.lst (SqL.of hra) .nil) .nil), .lst (SqL.of gw2) (.cons (.lst (SqL.of gw1) .nil) .nil), by decide +kernel, by decide +kernel, ?_⟩
      rw [show PyData.eqv (.list [.list []]) (.list [.list []]) = true from by decide +kernel]
      refine ⟨_, rfl, iteF ?_⟩
      -- sure of the empty text
      refine ⟨_, rfl, lm, sg, us, as, _, _, rfl, hloom8.same s9, .inr ⟨62, rfl, by decide, .inr ⟨[], rfl, by simp, (fun c hc => nomatch hc), fun h => absurd rfl h, fun _ H12 pr row s12 hpr0 hpr hS2 => ?_⟩⟩⟩
      rw [srr_nil hS2] at hpr
      refine ⟨le_size (by simp), fun w3 hw3 => ?_⟩
      have ew3 := Same.new (.lst []) hw3
      have gw3 : upd H12 w3 (.lst []) w3 = some (.lst []) := upd_same
      replace s12 := s12.trans ew3
      replace hpr := ew3 _ _ hpr
      generalize upd H12 w3 (.lst []) = H13 at *
      refine ⟨.list [], .list [], .lst (SqL.of hpr) .nil, .lst (SqL.of gw3) .nil, by decide +kernel, by decide +kernel, ?_⟩
      rw [show PyData.eqv (.list []) (.list []) = true from by decide +kernel]
      refine ⟨_, rfl, iteF ?_⟩
      -- count
      have s13 := s9.trans s12
      have hc0 : c0 ∈ sg := by rw [esg]; exact List.mem_cons_self
      refine ⟨_, rfl, _, rfl, SX.S sg, 0, c0, rfl, rfl, zsg, hat0, lm, sg, us, as, _, _, rfl, hloom8.same s13, .inr ⟨62, rfl, by decide, .inr ⟨[c0], rfl, by simp, (fun c hc => by rw [List.mem_singleton.mp hc]; exact hc0), fun H14 s14 => ?_⟩⟩⟩
      rw [cnt_rdg hok.w.all hok.w.wd (by decide), rdg_none hno62]
      refine ⟨rfl, _, rfl, ?_⟩
      refine ite2 (fun c => absurd c (by simp)) fun _ => ?_
      have s14' := s13.trans s14
      have hloom14 := hloom8.same s14'
      have hrp : r ≠ p := (st2.ne hr0).1
      have hlst14 : H14 r = some (.lst us) := s14' _ _ (s8 _ _ (x7 _ _ hrp (xE _ _ hrp (s4 _ _ hlst))))
      have harc14 : Arcs H14 us as := (((((harc.same s4).st st4 xE).st sg12 x7).same s8).same s14')
      refine ⟨_, rfl, r, rfl, ⟨_, SqL.of hlst14⟩, fun D2 hD2 => lc_list (K := K) (a := r) (xs := us) (fun j H' => H' D2 = some (.lst ((as.take j).map fun a : Arc => V.int (a.1 : Int))) ∧ Same H14 H') ⟨upd_same, Same.new _ hD2⟩ (fun j H' _ ⟨_, sm⟩ => SqL.of (sm _ _ hlst14)) ?_ ?_⟩
      · rintro j y H15 hy ⟨hDl, sm⟩
        have hj : j < as.length := by rw [← harc14.1]; exact (List.getElem?_eq_some_iff.mp hy).1
        obtain ⟨t, ht1, ht2⟩ := harc14.2 j as[j] (List.getElem?_eq_getElem hj)
        rw [hy] at ht1
        cases ht1
        have hal := hok.2.1
        refine ⟨rfl, _, rfl, t, _, 0, _, rfl, rfl, SqT.of (sm _ _ ht2), rfl, _, hDl, lt_size (by rw [List.length_map, List.length_take]; omega), ?_, sm.updNew hD2⟩
        rw [upd_same, ← take_snoc (List.getElem?_eq_getElem hj), List.map_append]
        rfl
      rintro H15 ⟨hDl, s15⟩
      rw [harc14.1, List.take_length] at hDl
      refine ⟨D2, _, rfl, .inl (SqL.of hDl), rfl, ?_, ?_⟩
      · rw [List.all_eq_true]
        intro v hv
        obtain ⟨b, _, rfl⟩ := List.mem_map.mp hv
        rfl
      refine ⟨_, rfl, ite2 (fun _ => ?_) fun _ => ?_⟩
      · refine ⟨_, rfl, _, rfl, SX.S sg, 0, c0, rfl, rfl, zsg, hat0, lm, sg, us, as, _, _, rfl, hloom14.same s15, .inr ⟨62, rfl, by decide, .inr ⟨[c0], rfl, by simp, (fun c hc => by rw [List.mem_singleton.mp hc]; exact hc0), fun _ _ H16 s16 => ?_, fun h => (by rcases h with h | h; exact absurd h (by simp); exact absurd (liv_none hno62 _ _) h)⟩⟩⟩
        refine ⟨rfl, _, rfl, ?_⟩
        refine iteF ?_
        exact ⟨_, _, _, _, _, _, _, _, _, _, rfl, ((st8.same s14').same s15).same s16⟩
      · exact iteF ⟨_, _, _, _, _, _, _, _, _, _, rfl, (st8.same s14').same s15⟩
    · rintro σ H2 ⟨v2, v3, v4, v5, v6, v7, v8, v9, v10, v11, rfl, st2⟩
      refine ⟨le_size (by simp), fun t1 ht1 => ?_⟩
      have s5 : Same H2 (upd H2 t1 (.tup [.int 0, .str "a", .int 0])) := Same.new _ ht1
      have g5 : upd H2 t1 (.tup [.int 0, .str "a", .int 0]) t1 = some (arcHO (0, [97], 0)) := upd_same
      have st5 := st2.same s5
      generalize upd H2 t1 (.tup [.int 0, .str "a", .int 0]) = H5 at *
      refine ⟨le_size (by simp), fun t2 ht2 => ?_⟩
      have s6 : Same H5 (upd H5 t2 (.tup [.int 0, .str "a", .int 0])) := Same.new _ ht2
      have g6 : upd H5 t2 (.tup [.int 0, .str "a", .int 0]) t2 = some (arcHO (0, [97], 0)) := upd_same
      have st6 := st5.same s6
      generalize upd H5 t2 (.tup [.int 0, .str "a", .int 0]) = H6 at *
      refine ⟨le_size (by simp), fun l2 hl2 => ?_⟩
      have s7 : Same H6 (upd H6 l2 (.lst [V.ref t1, V.ref t2])) := Same.new _ hl2
      have g7 : upd H6 l2 (.lst [V.ref t1, V.ref t2]) l2 = some (.lst [V.ref t1, V.ref t2]) := upd_same
      have st7 := st6.same s7
      generalize upd H6 l2 (.lst [V.ref t1, V.ref t2]) = H7 at *
      have A7 : Arcs H7 [V.ref t1, V.ref t2] (twins 2) := by
        refine ⟨rfl, fun i b hb => ?_⟩
        match i, hb with
        | 0, hb => cases hb; exact ⟨t1, rfl, s7 _ _ (s6 _ _ g5)⟩
        | 1, hb => cases hb; exact ⟨t2, rfl, s7 _ _ g6⟩
        | n + 2, hb => simp [twins] at hb
      have tok : OkW [97] (twins 2) := by
        refine ⟨by decide, by decide, fun b hb => ?_⟩
        rw [List.eq_of_mem_replicate hb]
        unfold OkArc Word
        decide
      have ha1 : Signs [97] := by unfold Signs; decide
      intro x dx hx hdx hne
      refine ⟨x, dx, l2, [97], _, twins 2, H7, rfl, rfl, hx, hdx, hne.symm, g7, A7, tok, ha1, fun H8 s8 hL8 => ⟨rfl, ?_⟩⟩
      have st8 := st7.same s8
      refine ⟨_, rfl, p, l, 4, rfl, st8, by decide, by decide, fun H9 r9 x9 st9 r90 r91 => ⟨_, _, rfl, rfl, ?_⟩⟩
      obtain ⟨z, rfl⟩ : ∃ z : Nat, r9 = (z : Int) := ⟨r9.toNat, by omega⟩
      have hz : z < 4 := by omega
      have hL9 := hL8.st st8 x9
      dsimp only
      have tl : (List.replicate (6 + z) 97).length ≤ 2000 := by rw [List.length_replicate]; omega
      have tc : ∀ c ∈ List.replicate (6 + z) 97, c ∈ [97] := fun c hc => by rw [List.eq_of_mem_replicate hc]; decide
      have emul : Txt.mul (Str.ofString "a") (6 + (z : Int)) = SX.S (List.replicate (6 + z) 97) := by
        have := mul_S 97 (6 + z) (by omega)
        rw [← this]
        rfl
      have hlen := twins_len 2 (6 + z)
      have hbad : ∀ H' : Hp, BadTx K [97] H' (.str (SX.S (List.replicate (6 + z) 97 ++ [98]))) := fun H' => .str (by rw [List.length_append, List.length_replicate, List.length_singleton]; omega) (fun h => absurd (h.2 98 (by simp)) (by decide))
      have hlenN : (rdg (twins 2) 0 (List.replicate (6 + z) 97)).length = 2 ^ (6 + z) := by
        have e : ((2 : Nat) : Int) ^ (6 + z) = ((2 ^ (6 + z) : Nat) : Int) := by rw [Int.natCast_pow]
        rw [e] at hlen
        exact_mod_cast hlen
      rcases Nat.lt_or_ge 1 z with hz1 | hz1
      · refine ⟨_, rfl, _, _, rfl, rfl, _, rfl, ?_⟩
        refine ite2 (fun _ => ?_) fun c => absurd (decide_eq_true (by omega)) c
        refine ⟨le_size (by simp), fun td htd => ?_⟩
        have etd := Same.new (.tup [.str "many", .int 200]) htd
        have gtd : upd H9 td (.tup [.str "many", .int 200]) td = some (.tup [.str "many", .int 200]) := upd_same
        have hL10 := hL9.same etd
        generalize upd H9 td (.tup [.str "many", .int 200]) = H10 at *
        refine ⟨_, rfl, _, rfl, _, _, rfl, rfl, by decide, by omega, by omega, ?_⟩
        rw [emul]
        refine ⟨0, x, [97], _, twins 2, _, _, _, rfl, by decide, hL10, .inr ⟨0, rfl, by decide, .inr ⟨_, rfl, tl, tc, .inl ⟨rfl, by rw [hlenN]; exact big_pow hz1 hz, rfl⟩⟩⟩, fun H11 t11 s11 h110 h11 => ?_⟩
        refine ⟨_, rfl, eq_many8 h11 (s11 _ _ gtd) ⟨_, rfl, iteT ?_⟩⟩
        refine ⟨_, rfl, _, rfl, _, _, rfl, rfl, by decide, by omega, by omega, ?_⟩
        rw [emul]
        refine ⟨_, _, rfl, rfl, le_size (by show _ + 1 ≤ _; rw [SX.S_len, List.length_replicate]; omega), ?_⟩
        rw [show Str.ofString "b" = SX.S [98] from rfl, SX.S_cat]
        refine ⟨0, x, [97], _, twins 2, _, _, _, rfl, by decide, hL10.same s11, .inr ⟨0, rfl, by decide, .inl ⟨by decide, hbad _, rfl⟩⟩, fun H12 t12 s12 h120 h12 => ?_⟩
        refine ⟨le_size (by simp), fun t13 ht13 => ?_⟩
        have e13 := Same.new (.tup [.str "text", .bl true]) ht13
        exact eq_text8 (e13 _ _ h12) upd_same (k _)
      · refine ⟨_, rfl, _, _, rfl, rfl, _, rfl, ?_⟩
        refine ite2 (fun c => absurd (of_decide_eq_true c) (by omega)) fun _ => ?_
        refine ⟨le_size (by simp), fun td htd => ?_⟩
        have etd := Same.new (.tup [.str "let", .non]) htd
        have gtd : upd H9 td (.tup [.str "let", .non]) td = some (.tup [.str "let", .non]) := upd_same
        have hL10 := hL9.same etd
        generalize upd H9 td (.tup [.str "let", .non]) = H10 at *
        refine ⟨_, rfl, _, rfl, _, _, rfl, rfl, by decide, by omega, by omega, ?_⟩
        rw [emul]
        refine ⟨0, x, [97], _, twins 2, _, _, _, rfl, by decide, hL10, .inr ⟨0, rfl, by decide, .inr ⟨_, rfl, tl, tc, .inr ⟨fun _ => by rw [hlenN]; exact small_pow hz1, rfl⟩⟩⟩, fun H11 t11 s11 h110 h11 => ?_⟩
        refine ⟨_, rfl, eq_let8 h11 (s11 _ _ gtd) ⟨_, rfl, iteT ?_⟩⟩
        refine ⟨_, rfl, _, rfl, _, _, rfl, rfl, by decide, by omega, by omega, ?_⟩
        rw [emul]
        refine ⟨_, _, rfl, rfl, le_size (by show _ + 1 ≤ _; rw [SX.S_len, List.length_replicate]; omega), ?_⟩
        rw [show Str.ofString "b" = SX.S [98] from rfl, SX.S_cat]
        refine ⟨0, x, [97], _, twins 2, _, _, _, rfl, by decide, hL10.same s11, .inr ⟨0, rfl, by decide, .inl ⟨by decide, hbad _, rfl⟩⟩, fun H12 t12 s12 h120 h12 => ?_⟩
        refine ⟨le_size (by simp), fun t13 ht13 => ?_⟩
        have e13 := Same.new (.tup [.str "text", .bl true]) ht13
        exact eq_text8 (e13 _ _ h12) upd_same (k _)
end
end J


set_option Elab.async false
set_option linter.all false
set_option maxRecDepth 100000
set_option maxHeartbeats 4000000
namespace J
open PySem L2
theorem all_mk {l : PySem.W.OpenLaw} {w : World} {K : PySem.W.Frag} {h : Heap} {mg : Str → Option Value} {fa f__wall f_InvalidLoom_init f_LimitExceeded_init f_is_number f_is_sequence f_is_signs f_is_string_over f_is_word f_check_signs f_check_state f_check_text f_goes_on f_live_arcs f_readings f_count f_sure f_is_arc f_Loom_init f_Loom_eq f_Trail_init f_cut f_shared f_numbers_beyond f_arcs_by_beginnings f_Reader_init f_Reader_take f_Reader_told f_Reader_text f_Reader_twin f_Reader__covers f_sure_trail f_ends f_l_state f_l_draw f_l_word f_l_loom f_l_made f_l_odd f_l_call f_l_told f_law C_InvalidLoom C_LimitExceeded C_Loom C_Reader C_Trail C_ReadError C_UnknownState C_InvalidText : Addr} (X : K.In h) (G : h.Ns mainGlobals mg) (hfa : mg "law" = some (.ref fa))
    {od__wall an__wall : Option Addr} {sl__wall : Array (Option Value)} {oc__wall kV__wall dc__wall pm__wall cd__wall ct__wall : Value}
    {od_InvalidLoom_init an_InvalidLoom_init : Option Addr} {sl_InvalidLoom_init : Array (Option Value)} {oc_InvalidLoom_init kV_InvalidLoom_init dc_InvalidLoom_init pm_InvalidLoom_init cd_InvalidLoom_init ct_InvalidLoom_init : Value}
    {od_LimitExceeded_init an_LimitExceeded_init : Option Addr} {sl_LimitExceeded_init : Array (Option Value)} {oc_LimitExceeded_init kV_LimitExceeded_init dc_LimitExceeded_init pm_LimitExceeded_init cd_LimitExceeded_init ct_LimitExceeded_init : Value}
    {od_is_number an_is_number : Option Addr} {sl_is_number : Array (Option Value)} {oc_is_number kV_is_number dc_is_number pm_is_number cd_is_number ct_is_number : Value}
    {od_is_sequence an_is_sequence : Option Addr} {sl_is_sequence : Array (Option Value)} {oc_is_sequence kV_is_sequence dc_is_sequence pm_is_sequence cd_is_sequence ct_is_sequence : Value}
    {od_is_signs an_is_signs : Option Addr} {sl_is_signs : Array (Option Value)} {oc_is_signs kV_is_signs dc_is_signs pm_is_signs cd_is_signs ct_is_signs : Value}
    {od_is_string_over an_is_string_over : Option Addr} {sl_is_string_over : Array (Option Value)} {oc_is_string_over kV_is_string_over dc_is_string_over pm_is_string_over cd_is_string_over ct_is_string_over : Value}
    {od_is_word an_is_word : Option Addr} {sl_is_word : Array (Option Value)} {oc_is_word kV_is_word dc_is_word pm_is_word cd_is_word ct_is_word : Value}
    {od_check_signs an_check_signs : Option Addr} {sl_check_signs : Array (Option Value)} {oc_check_signs kV_check_signs dc_check_signs pm_check_signs cd_check_signs ct_check_signs : Value}
    {od_check_state an_check_state : Option Addr} {sl_check_state : Array (Option Value)} {oc_check_state kV_check_state dc_check_state pm_check_state cd_check_state ct_check_state : Value}
    {od_check_text an_check_text : Option Addr} {sl_check_text : Array (Option Value)} {oc_check_text kV_check_text dc_check_text pm_check_text cd_check_text ct_check_text : Value}
    {od_goes_on an_goes_on : Option Addr} {sl_goes_on : Array (Option Value)} {oc_goes_on kV_goes_on dc_goes_on pm_goes_on cd_goes_on ct_goes_on : Value}
    {od_live_arcs an_live_arcs : Option Addr} {sl_live_arcs : Array (Option Value)} {oc_live_arcs kV_live_arcs dc_live_arcs pm_live_arcs cd_live_arcs ct_live_arcs : Value}
    {od_readings an_readings : Option Addr} {sl_readings : Array (Option Value)} {oc_readings kV_readings dc_readings pm_readings cd_readings ct_readings : Value}
    {od_count an_count : Option Addr} {sl_count : Array (Option Value)} {oc_count kV_count dc_count pm_count cd_count ct_count : Value}
    {od_sure an_sure : Option Addr} {sl_sure : Array (Option Value)} {oc_sure kV_sure dc_sure pm_sure cd_sure ct_sure : Value}
    {od_is_arc an_is_arc : Option Addr} {sl_is_arc : Array (Option Value)} {oc_is_arc kV_is_arc dc_is_arc pm_is_arc cd_is_arc ct_is_arc : Value}
    {od_Loom_init an_Loom_init : Option Addr} {sl_Loom_init : Array (Option Value)} {oc_Loom_init kV_Loom_init dc_Loom_init pm_Loom_init cd_Loom_init ct_Loom_init : Value}
    {od_Loom_eq an_Loom_eq : Option Addr} {sl_Loom_eq : Array (Option Value)} {oc_Loom_eq kV_Loom_eq dc_Loom_eq pm_Loom_eq cd_Loom_eq ct_Loom_eq : Value}
    {od_Trail_init an_Trail_init : Option Addr} {sl_Trail_init : Array (Option Value)} {oc_Trail_init kV_Trail_init dc_Trail_init pm_Trail_init cd_Trail_init ct_Trail_init : Value}
    {od_cut an_cut : Option Addr} {sl_cut : Array (Option Value)} {oc_cut kV_cut dc_cut pm_cut cd_cut ct_cut : Value}
    {od_shared an_shared : Option Addr} {sl_shared : Array (Option Value)} {oc_shared kV_shared dc_shared pm_shared cd_shared ct_shared : Value}
    {od_numbers_beyond an_numbers_beyond : Option Addr} {sl_numbers_beyond : Array (Option Value)} {oc_numbers_beyond kV_numbers_beyond dc_numbers_beyond pm_numbers_beyond cd_numbers_beyond ct_numbers_beyond : Value}
    {od_arcs_by_beginnings an_arcs_by_beginnings : Option Addr} {sl_arcs_by_beginnings : Array (Option Value)} {oc_arcs_by_beginnings kV_arcs_by_beginnings dc_arcs_by_beginnings pm_arcs_by_beginnings cd_arcs_by_beginnings ct_arcs_by_beginnings : Value}
    {od_Reader_init an_Reader_init : Option Addr} {sl_Reader_init : Array (Option Value)} {oc_Reader_init kV_Reader_init dc_Reader_init pm_Reader_init cd_Reader_init ct_Reader_init : Value}
    {od_Reader_take an_Reader_take : Option Addr} {sl_Reader_take : Array (Option Value)} {oc_Reader_take kV_Reader_take dc_Reader_take pm_Reader_take cd_Reader_take ct_Reader_take : Value}
    {od_Reader_told an_Reader_told : Option Addr} {sl_Reader_told : Array (Option Value)} {oc_Reader_told kV_Reader_told dc_Reader_told pm_Reader_told cd_Reader_told ct_Reader_told : Value}
    {od_Reader_text an_Reader_text : Option Addr} {sl_Reader_text : Array (Option Value)} {oc_Reader_text kV_Reader_text dc_Reader_text pm_Reader_text cd_Reader_text ct_Reader_text : Value}
    {od_Reader_twin an_Reader_twin : Option Addr} {sl_Reader_twin : Array (Option Value)} {oc_Reader_twin kV_Reader_twin dc_Reader_twin pm_Reader_twin cd_Reader_twin ct_Reader_twin : Value}
    {od_Reader__covers an_Reader__covers : Option Addr} {sl_Reader__covers : Array (Option Value)} {oc_Reader__covers kV_Reader__covers dc_Reader__covers pm_Reader__covers cd_Reader__covers ct_Reader__covers : Value}
    {od_sure_trail an_sure_trail : Option Addr} {sl_sure_trail : Array (Option Value)} {oc_sure_trail kV_sure_trail dc_sure_trail pm_sure_trail cd_sure_trail ct_sure_trail : Value}
    {od_ends an_ends : Option Addr} {sl_ends : Array (Option Value)} {oc_ends kV_ends dc_ends pm_ends cd_ends ct_ends : Value}
    {od_l_state an_l_state : Option Addr} {sl_l_state : Array (Option Value)} {oc_l_state kV_l_state dc_l_state pm_l_state cd_l_state ct_l_state : Value}
    {od_l_draw an_l_draw : Option Addr} {sl_l_draw : Array (Option Value)} {oc_l_draw kV_l_draw dc_l_draw pm_l_draw cd_l_draw ct_l_draw : Value}
    {od_l_word an_l_word : Option Addr} {sl_l_word : Array (Option Value)} {oc_l_word kV_l_word dc_l_word pm_l_word cd_l_word ct_l_word : Value}
    {od_l_loom an_l_loom : Option Addr} {sl_l_loom : Array (Option Value)} {oc_l_loom kV_l_loom dc_l_loom pm_l_loom cd_l_loom ct_l_loom : Value}
    {od_l_made an_l_made : Option Addr} {sl_l_made : Array (Option Value)} {oc_l_made kV_l_made dc_l_made pm_l_made cd_l_made ct_l_made : Value}
    {od_l_odd an_l_odd : Option Addr} {sl_l_odd : Array (Option Value)} {oc_l_odd kV_l_odd dc_l_odd pm_l_odd cd_l_odd ct_l_odd : Value}
    {od_l_call an_l_call : Option Addr} {sl_l_call : Array (Option Value)} {oc_l_call kV_l_call dc_l_call pm_l_call cd_l_call ct_l_call : Value}
    {od_l_told an_l_told : Option Addr} {sl_l_told : Array (Option Value)} {oc_l_told kV_l_told dc_l_told pm_l_told cd_l_told ct_l_told : Value}
    {od_law an_law : Option Addr} {sl_law : Array (Option Value)} {oc_law kV_law dc_law pm_law cd_law ct_law : Value}
    {nm_InvalidLoom q_InvalidLoom : Str} {ns_InvalidLoom : Addr} {bs_InvalidLoom : List Value} {sn_InvalidLoom : List Str} {sub_InvalidLoom : List Value} {ab_InvalidLoom : Bool} {col_InvalidLoom : Option Bool} {dd_InvalidLoom : Option Addr} {m0_InvalidLoom m1_InvalidLoom m2_InvalidLoom m3_InvalidLoom m5_InvalidLoom : Option Value}
    {nm_LimitExceeded q_LimitExceeded : Str} {ns_LimitExceeded : Addr} {bs_LimitExceeded : List Value} {sn_LimitExceeded : List Str} {sub_LimitExceeded : List Value} {ab_LimitExceeded : Bool} {col_LimitExceeded : Option Bool} {dd_LimitExceeded : Option Addr} {m0_LimitExceeded m1_LimitExceeded m2_LimitExceeded m3_LimitExceeded m5_LimitExceeded : Option Value}
    {t_MOST_SIGNS : Tok}
    {t_LONGEST_WORD : Tok}
    {t_LONGEST_TEXT : Tok}
    {t_LAST_STATE : Tok}
    {t_MOST_READINGS : Tok}
    {t_MOST_ARCS : Tok}
    (a_CInvalidText : PySem.W.nsIn K mainGlobals "InvalidText" = some (some (.ref C_InvalidText)))
    (a_CUnknownState : PySem.W.nsIn K mainGlobals "UnknownState" = some (some (.ref C_UnknownState)))
    (a_CReadError : PySem.W.nsIn K mainGlobals "ReadError" = some (some (.ref C_ReadError)))
    (a_CTrail : PySem.W.nsIn K mainGlobals "Trail" = some (some (.ref C_Trail)))
    (a_CReader : PySem.W.nsIn K mainGlobals "Reader" = some (some (.ref C_Reader)))
    (a_CLoom : PySem.W.nsIn K mainGlobals "Loom" = some (some (.ref C_Loom)))
    (a_CLimitExceeded : PySem.W.nsIn K mainGlobals "LimitExceeded" = some (some (.ref C_LimitExceeded)))
    (a_CInvalidLoom : PySem.W.nsIn K mainGlobals "InvalidLoom" = some (some (.ref C_InvalidLoom)))
    (a__wall : PySem.W.nsIn K mainGlobals "_wall" = some (some (.ref f__wall)))
    (l__wall : K.lookup f__wall = some ⟨oc__wall, od__wall, .func (PySem.W.fnOf "_wall" "_wall" (defArgs s__wall) (defBody s__wall) (defScope s__wall) .none kV__wall dc__wall pm__wall an__wall cd__wall ct__wall), sl__wall⟩)
    (c__wall : PySem.W.codeIn K cd__wall "_wall" = true)
    (k__wall : PySem.W.keepIn K (.ref f__wall) = true)
    (a_InvalidLoom_init : PySem.W.findIn K (.ref C_InvalidLoom) "__init__" = some (some (.ref f_InvalidLoom_init)))
    (i_InvalidLoom_init : PySem.W.isFn K (.ref f_InvalidLoom_init) = true)
    (l_InvalidLoom_init : K.lookup f_InvalidLoom_init = some ⟨oc_InvalidLoom_init, od_InvalidLoom_init, .func (PySem.W.fnOf "__init__" "InvalidLoom.__init__" (defArgs s_InvalidLoom_init) (defBody s_InvalidLoom_init) (defScope s_InvalidLoom_init) .none kV_InvalidLoom_init dc_InvalidLoom_init pm_InvalidLoom_init an_InvalidLoom_init cd_InvalidLoom_init ct_InvalidLoom_init), sl_InvalidLoom_init⟩)
    (c_InvalidLoom_init : PySem.W.codeIn K cd_InvalidLoom_init "InvalidLoom.__init__" = true)
    (k_InvalidLoom_init : PySem.W.keepIn K (.ref f_InvalidLoom_init) = true)
    (a_LimitExceeded_init : PySem.W.findIn K (.ref C_LimitExceeded) "__init__" = some (some (.ref f_LimitExceeded_init)))
    (i_LimitExceeded_init : PySem.W.isFn K (.ref f_LimitExceeded_init) = true)
    (l_LimitExceeded_init : K.lookup f_LimitExceeded_init = some ⟨oc_LimitExceeded_init, od_LimitExceeded_init, .func (PySem.W.fnOf "__init__" "LimitExceeded.__init__" (defArgs s_LimitExceeded_init) (defBody s_LimitExceeded_init) (defScope s_LimitExceeded_init) .none kV_LimitExceeded_init dc_LimitExceeded_init pm_LimitExceeded_init an_LimitExceeded_init cd_LimitExceeded_init ct_LimitExceeded_init), sl_LimitExceeded_init⟩)
    (c_LimitExceeded_init : PySem.W.codeIn K cd_LimitExceeded_init "LimitExceeded.__init__" = true)
    (k_LimitExceeded_init : PySem.W.keepIn K (.ref f_LimitExceeded_init) = true)
    (a_is_number : PySem.W.nsIn K mainGlobals "is_number" = some (some (.ref f_is_number)))
    (l_is_number : K.lookup f_is_number = some ⟨oc_is_number, od_is_number, .func (PySem.W.fnOf "is_number" "is_number" (defArgs s_is_number) (defBody s_is_number) (defScope s_is_number) .none kV_is_number dc_is_number pm_is_number an_is_number cd_is_number ct_is_number), sl_is_number⟩)
    (c_is_number : PySem.W.codeIn K cd_is_number "is_number" = true)
    (k_is_number : PySem.W.keepIn K (.ref f_is_number) = true)
    (a_is_sequence : PySem.W.nsIn K mainGlobals "is_sequence" = some (some (.ref f_is_sequence)))
    (l_is_sequence : K.lookup f_is_sequence = some ⟨oc_is_sequence, od_is_sequence, .func (PySem.W.fnOf "is_sequence" "is_sequence" (defArgs s_is_sequence) (defBody s_is_sequence) (defScope s_is_sequence) .none kV_is_sequence dc_is_sequence pm_is_sequence an_is_sequence cd_is_sequence ct_is_sequence), sl_is_sequence⟩)
    (c_is_sequence : PySem.W.codeIn K cd_is_sequence "is_sequence" = true)
    (k_is_sequence : PySem.W.keepIn K (.ref f_is_sequence) = true)
    (a_is_signs : PySem.W.nsIn K mainGlobals "is_signs" = some (some (.ref f_is_signs)))
    (l_is_signs : K.lookup f_is_signs = some ⟨oc_is_signs, od_is_signs, .func (PySem.W.fnOf "is_signs" "is_signs" (defArgs s_is_signs) (defBody s_is_signs) (defScope s_is_signs) .none kV_is_signs dc_is_signs pm_is_signs an_is_signs cd_is_signs ct_is_signs), sl_is_signs⟩)
    (c_is_signs : PySem.W.codeIn K cd_is_signs "is_signs" = true)
    (k_is_signs : PySem.W.keepIn K (.ref f_is_signs) = true)
    (a_is_string_over : PySem.W.nsIn K mainGlobals "is_string_over" = some (some (.ref f_is_string_over)))
    (l_is_string_over : K.lookup f_is_string_over = some ⟨oc_is_string_over, od_is_string_over, .func (PySem.W.fnOf "is_string_over" "is_string_over" (defArgs s_is_string_over) (defBody s_is_string_over) (defScope s_is_string_over) .none kV_is_string_over dc_is_string_over pm_is_string_over an_is_string_over cd_is_string_over ct_is_string_over), sl_is_string_over⟩)
    (c_is_string_over : PySem.W.codeIn K cd_is_string_over "is_string_over" = true)
    (k_is_string_over : PySem.W.keepIn K (.ref f_is_string_over) = true)
    (a_is_word : PySem.W.nsIn K mainGlobals "is_word" = some (some (.ref f_is_word)))
    (l_is_word : K.lookup f_is_word = some ⟨oc_is_word, od_is_word, .func (PySem.W.fnOf "is_word" "is_word" (defArgs s_is_word) (defBody s_is_word) (defScope s_is_word) .none kV_is_word dc_is_word pm_is_word an_is_word cd_is_word ct_is_word), sl_is_word⟩)
    (c_is_word : PySem.W.codeIn K cd_is_word "is_word" = true)
    (k_is_word : PySem.W.keepIn K (.ref f_is_word) = true)
    (a_check_signs : PySem.W.nsIn K mainGlobals "check_signs" = some (some (.ref f_check_signs)))
    (l_check_signs : K.lookup f_check_signs = some ⟨oc_check_signs, od_check_signs, .func (PySem.W.fnOf "check_signs" "check_signs" (defArgs s_check_signs) (defBody s_check_signs) (defScope s_check_signs) .none kV_check_signs dc_check_signs pm_check_signs an_check_signs cd_check_signs ct_check_signs), sl_check_signs⟩)
    (c_check_signs : PySem.W.codeIn K cd_check_signs "check_signs" = true)
    (k_check_signs : PySem.W.keepIn K (.ref f_check_signs) = true)
    (a_check_state : PySem.W.nsIn K mainGlobals "check_state" = some (some (.ref f_check_state)))
    (l_check_state : K.lookup f_check_state = some ⟨oc_check_state, od_check_state, .func (PySem.W.fnOf "check_state" "check_state" (defArgs s_check_state) (defBody s_check_state) (defScope s_check_state) .none kV_check_state dc_check_state pm_check_state an_check_state cd_check_state ct_check_state), sl_check_state⟩)
    (c_check_state : PySem.W.codeIn K cd_check_state "check_state" = true)
    (k_check_state : PySem.W.keepIn K (.ref f_check_state) = true)
    (a_check_text : PySem.W.nsIn K mainGlobals "check_text" = some (some (.ref f_check_text)))
    (l_check_text : K.lookup f_check_text = some ⟨oc_check_text, od_check_text, .func (PySem.W.fnOf "check_text" "check_text" (defArgs s_check_text) (defBody s_check_text) (defScope s_check_text) .none kV_check_text dc_check_text pm_check_text an_check_text cd_check_text ct_check_text), sl_check_text⟩)
    (c_check_text : PySem.W.codeIn K cd_check_text "check_text" = true)
    (k_check_text : PySem.W.keepIn K (.ref f_check_text) = true)
    (a_goes_on : PySem.W.nsIn K mainGlobals "goes_on" = some (some (.ref f_goes_on)))
    (l_goes_on : K.lookup f_goes_on = some ⟨oc_goes_on, od_goes_on, .func (PySem.W.fnOf "goes_on" "goes_on" (defArgs s_goes_on) (defBody s_goes_on) (defScope s_goes_on) .none kV_goes_on dc_goes_on pm_goes_on an_goes_on cd_goes_on ct_goes_on), sl_goes_on⟩)
    (c_goes_on : PySem.W.codeIn K cd_goes_on "goes_on" = true)
    (k_goes_on : PySem.W.keepIn K (.ref f_goes_on) = true)
    (a_live_arcs : PySem.W.nsIn K mainGlobals "live_arcs" = some (some (.ref f_live_arcs)))
    (l_live_arcs : K.lookup f_live_arcs = some ⟨oc_live_arcs, od_live_arcs, .func (PySem.W.fnOf "live_arcs" "live_arcs" (defArgs s_live_arcs) (defBody s_live_arcs) (defScope s_live_arcs) .none kV_live_arcs dc_live_arcs pm_live_arcs an_live_arcs cd_live_arcs ct_live_arcs), sl_live_arcs⟩)
    (c_live_arcs : PySem.W.codeIn K cd_live_arcs "live_arcs" = true)
    (k_live_arcs : PySem.W.keepIn K (.ref f_live_arcs) = true)
    (a_readings : PySem.W.nsIn K mainGlobals "readings" = some (some (.ref f_readings)))
    (l_readings : K.lookup f_readings = some ⟨oc_readings, od_readings, .func (PySem.W.fnOf "readings" "readings" (defArgs s_readings) (defBody s_readings) (defScope s_readings) .none kV_readings dc_readings pm_readings an_readings cd_readings ct_readings), sl_readings⟩)
    (c_readings : PySem.W.codeIn K cd_readings "readings" = true)
    (k_readings : PySem.W.keepIn K (.ref f_readings) = true)
    (a_count : PySem.W.nsIn K mainGlobals "count" = some (some (.ref f_count)))
    (l_count : K.lookup f_count = some ⟨oc_count, od_count, .func (PySem.W.fnOf "count" "count" (defArgs s_count) (defBody s_count) (defScope s_count) .none kV_count dc_count pm_count an_count cd_count ct_count), sl_count⟩)
    (c_count : PySem.W.codeIn K cd_count "count" = true)
    (k_count : PySem.W.keepIn K (.ref f_count) = true)
    (a_sure : PySem.W.nsIn K mainGlobals "sure" = some (some (.ref f_sure)))
    (l_sure : K.lookup f_sure = some ⟨oc_sure, od_sure, .func (PySem.W.fnOf "sure" "sure" (defArgs s_sure) (defBody s_sure) (defScope s_sure) .none kV_sure dc_sure pm_sure an_sure cd_sure ct_sure), sl_sure⟩)
    (c_sure : PySem.W.codeIn K cd_sure "sure" = true)
    (k_sure : PySem.W.keepIn K (.ref f_sure) = true)
    (a_is_arc : PySem.W.nsIn K mainGlobals "is_arc" = some (some (.ref f_is_arc)))
    (l_is_arc : K.lookup f_is_arc = some ⟨oc_is_arc, od_is_arc, .func (PySem.W.fnOf "is_arc" "is_arc" (defArgs s_is_arc) (defBody s_is_arc) (defScope s_is_arc) .none kV_is_arc dc_is_arc pm_is_arc an_is_arc cd_is_arc ct_is_arc), sl_is_arc⟩)
    (c_is_arc : PySem.W.codeIn K cd_is_arc "is_arc" = true)
    (k_is_arc : PySem.W.keepIn K (.ref f_is_arc) = true)
    (a_Loom_init : PySem.W.findIn K (.ref C_Loom) "__init__" = some (some (.ref f_Loom_init)))
    (i_Loom_init : PySem.W.isFn K (.ref f_Loom_init) = true)
    (l_Loom_init : K.lookup f_Loom_init = some ⟨oc_Loom_init, od_Loom_init, .func (PySem.W.fnOf "__init__" "Loom.__init__" (defArgs s_Loom_init) (defBody s_Loom_init) (defScope s_Loom_init) .none kV_Loom_init dc_Loom_init pm_Loom_init an_Loom_init cd_Loom_init ct_Loom_init), sl_Loom_init⟩)
    (c_Loom_init : PySem.W.codeIn K cd_Loom_init "Loom.__init__" = true)
    (k_Loom_init : PySem.W.keepIn K (.ref f_Loom_init) = true)
    (a_Loom_eq : PySem.W.findIn K (.ref C_Loom) "__eq__" = some (some (.ref f_Loom_eq)))
    (l_Loom_eq : K.lookup f_Loom_eq = some ⟨oc_Loom_eq, od_Loom_eq, .func (PySem.W.fnOf "__eq__" "Loom.__eq__" (defArgs s_Loom_eq) (defBody s_Loom_eq) (defScope s_Loom_eq) .none kV_Loom_eq dc_Loom_eq pm_Loom_eq an_Loom_eq cd_Loom_eq ct_Loom_eq), sl_Loom_eq⟩)
    (c_Loom_eq : PySem.W.codeIn K cd_Loom_eq "Loom.__eq__" = true)
    (k_Loom_eq : PySem.W.keepIn K (.ref f_Loom_eq) = true)
    (a_Trail_init : PySem.W.findIn K (.ref C_Trail) "__init__" = some (some (.ref f_Trail_init)))
    (i_Trail_init : PySem.W.isFn K (.ref f_Trail_init) = true)
    (l_Trail_init : K.lookup f_Trail_init = some ⟨oc_Trail_init, od_Trail_init, .func (PySem.W.fnOf "__init__" "Trail.__init__" (defArgs s_Trail_init) (defBody s_Trail_init) (defScope s_Trail_init) .none kV_Trail_init dc_Trail_init pm_Trail_init an_Trail_init cd_Trail_init ct_Trail_init), sl_Trail_init⟩)
    (c_Trail_init : PySem.W.codeIn K cd_Trail_init "Trail.__init__" = true)
    (k_Trail_init : PySem.W.keepIn K (.ref f_Trail_init) = true)
    (a_cut : PySem.W.nsIn K mainGlobals "cut" = some (some (.ref f_cut)))
    (l_cut : K.lookup f_cut = some ⟨oc_cut, od_cut, .func (PySem.W.fnOf "cut" "cut" (defArgs s_cut) (defBody s_cut) (defScope s_cut) .none kV_cut dc_cut pm_cut an_cut cd_cut ct_cut), sl_cut⟩)
    (c_cut : PySem.W.codeIn K cd_cut "cut" = true)
    (k_cut : PySem.W.keepIn K (.ref f_cut) = true)
    (a_shared : PySem.W.nsIn K mainGlobals "shared" = some (some (.ref f_shared)))
    (l_shared : K.lookup f_shared = some ⟨oc_shared, od_shared, .func (PySem.W.fnOf "shared" "shared" (defArgs s_shared) (defBody s_shared) (defScope s_shared) .none kV_shared dc_shared pm_shared an_shared cd_shared ct_shared), sl_shared⟩)
    (c_shared : PySem.W.codeIn K cd_shared "shared" = true)
    (k_shared : PySem.W.keepIn K (.ref f_shared) = true)
    (a_numbers_beyond : PySem.W.nsIn K mainGlobals "numbers_beyond" = some (some (.ref f_numbers_beyond)))
    (l_numbers_beyond : K.lookup f_numbers_beyond = some ⟨oc_numbers_beyond, od_numbers_beyond, .func (PySem.W.fnOf "numbers_beyond" "numbers_beyond" (defArgs s_numbers_beyond) (defBody s_numbers_beyond) (defScope s_numbers_beyond) .none kV_numbers_beyond dc_numbers_beyond pm_numbers_beyond an_numbers_beyond cd_numbers_beyond ct_numbers_beyond), sl_numbers_beyond⟩)
    (c_numbers_beyond : PySem.W.codeIn K cd_numbers_beyond "numbers_beyond" = true)
    (k_numbers_beyond : PySem.W.keepIn K (.ref f_numbers_beyond) = true)
    (a_arcs_by_beginnings : PySem.W.nsIn K mainGlobals "arcs_by_beginnings" = some (some (.ref f_arcs_by_beginnings)))
    (l_arcs_by_beginnings : K.lookup f_arcs_by_beginnings = some ⟨oc_arcs_by_beginnings, od_arcs_by_beginnings, .func (PySem.W.fnOf "arcs_by_beginnings" "arcs_by_beginnings" (defArgs s_arcs_by_beginnings) (defBody s_arcs_by_beginnings) (defScope s_arcs_by_beginnings) .none kV_arcs_by_beginnings dc_arcs_by_beginnings pm_arcs_by_beginnings an_arcs_by_beginnings cd_arcs_by_beginnings ct_arcs_by_beginnings), sl_arcs_by_beginnings⟩)
    (c_arcs_by_beginnings : PySem.W.codeIn K cd_arcs_by_beginnings "arcs_by_beginnings" = true)
    (k_arcs_by_beginnings : PySem.W.keepIn K (.ref f_arcs_by_beginnings) = true)
    (a_Reader_init : PySem.W.findIn K (.ref C_Reader) "__init__" = some (some (.ref f_Reader_init)))
    (i_Reader_init : PySem.W.isFn K (.ref f_Reader_init) = true)
    (l_Reader_init : K.lookup f_Reader_init = some ⟨oc_Reader_init, od_Reader_init, .func (PySem.W.fnOf "__init__" "Reader.__init__" (defArgs s_Reader_init) (defBody s_Reader_init) (defScope s_Reader_init) .none kV_Reader_init dc_Reader_init pm_Reader_init an_Reader_init cd_Reader_init ct_Reader_init), sl_Reader_init⟩)
    (c_Reader_init : PySem.W.codeIn K cd_Reader_init "Reader.__init__" = true)
    (k_Reader_init : PySem.W.keepIn K (.ref f_Reader_init) = true)
    (a_Reader_take : PySem.W.findIn K (.ref C_Reader) "take" = some (some (.ref f_Reader_take)))
    (l_Reader_take : K.lookup f_Reader_take = some ⟨oc_Reader_take, od_Reader_take, .func (PySem.W.fnOf "take" "Reader.take" (defArgs s_Reader_take) (defBody s_Reader_take) (defScope s_Reader_take) .none kV_Reader_take dc_Reader_take pm_Reader_take an_Reader_take cd_Reader_take ct_Reader_take), sl_Reader_take⟩)
    (c_Reader_take : PySem.W.codeIn K cd_Reader_take "Reader.take" = true)
    (k_Reader_take : PySem.W.keepIn K (.ref f_Reader_take) = true)
    (a_Reader_told : PySem.W.findIn K (.ref C_Reader) "told" = some (some (.ref f_Reader_told)))
    (l_Reader_told : K.lookup f_Reader_told = some ⟨oc_Reader_told, od_Reader_told, .func (PySem.W.fnOf "told" "Reader.told" (defArgs s_Reader_told) (defBody s_Reader_told) (defScope s_Reader_told) .none kV_Reader_told dc_Reader_told pm_Reader_told an_Reader_told cd_Reader_told ct_Reader_told), sl_Reader_told⟩)
    (c_Reader_told : PySem.W.codeIn K cd_Reader_told "Reader.told" = true)
    (k_Reader_told : PySem.W.keepIn K (.ref f_Reader_told) = true)
    (a_Reader_text : PySem.W.findIn K (.ref C_Reader) "text" = some (some (.ref f_Reader_text)))
    (l_Reader_text : K.lookup f_Reader_text = some ⟨oc_Reader_text, od_Reader_text, .func (PySem.W.fnOf "text" "Reader.text" (defArgs s_Reader_text) (defBody s_Reader_text) (defScope s_Reader_text) .none kV_Reader_text dc_Reader_text pm_Reader_text an_Reader_text cd_Reader_text ct_Reader_text), sl_Reader_text⟩)
    (c_Reader_text : PySem.W.codeIn K cd_Reader_text "Reader.text" = true)
    (k_Reader_text : PySem.W.keepIn K (.ref f_Reader_text) = true)
    (a_Reader_twin : PySem.W.findIn K (.ref C_Reader) "twin" = some (some (.ref f_Reader_twin)))
    (l_Reader_twin : K.lookup f_Reader_twin = some ⟨oc_Reader_twin, od_Reader_twin, .func (PySem.W.fnOf "twin" "Reader.twin" (defArgs s_Reader_twin) (defBody s_Reader_twin) (defScope s_Reader_twin) .none kV_Reader_twin dc_Reader_twin pm_Reader_twin an_Reader_twin cd_Reader_twin ct_Reader_twin), sl_Reader_twin⟩)
    (c_Reader_twin : PySem.W.codeIn K cd_Reader_twin "Reader.twin" = true)
    (k_Reader_twin : PySem.W.keepIn K (.ref f_Reader_twin) = true)
    (a_Reader__covers : PySem.W.findIn K (.ref C_Reader) "_covers" = some (some (.ref f_Reader__covers)))
    (l_Reader__covers : K.lookup f_Reader__covers = some ⟨oc_Reader__covers, od_Reader__covers, .func (PySem.W.fnOf "_covers" "Reader._covers" (defArgs s_Reader__covers) (defBody s_Reader__covers) (defScope s_Reader__covers) .none kV_Reader__covers dc_Reader__covers pm_Reader__covers an_Reader__covers cd_Reader__covers ct_Reader__covers), sl_Reader__covers⟩)
    (c_Reader__covers : PySem.W.codeIn K cd_Reader__covers "Reader._covers" = true)
    (k_Reader__covers : PySem.W.keepIn K (.ref f_Reader__covers) = true)
    (a_sure_trail : PySem.W.nsIn K mainGlobals "sure_trail" = some (some (.ref f_sure_trail)))
    (l_sure_trail : K.lookup f_sure_trail = some ⟨oc_sure_trail, od_sure_trail, .func (PySem.W.fnOf "sure_trail" "sure_trail" (defArgs s_sure_trail) (defBody s_sure_trail) (defScope s_sure_trail) .none kV_sure_trail dc_sure_trail pm_sure_trail an_sure_trail cd_sure_trail ct_sure_trail), sl_sure_trail⟩)
    (c_sure_trail : PySem.W.codeIn K cd_sure_trail "sure_trail" = true)
    (k_sure_trail : PySem.W.keepIn K (.ref f_sure_trail) = true)
    (a_ends : PySem.W.nsIn K mainGlobals "ends" = some (some (.ref f_ends)))
    (l_ends : K.lookup f_ends = some ⟨oc_ends, od_ends, .func (PySem.W.fnOf "ends" "ends" (defArgs s_ends) (defBody s_ends) (defScope s_ends) .none kV_ends dc_ends pm_ends an_ends cd_ends ct_ends), sl_ends⟩)
    (c_ends : PySem.W.codeIn K cd_ends "ends" = true)
    (k_ends : PySem.W.keepIn K (.ref f_ends) = true)
    (a_l_state : PySem.W.nsIn K mainGlobals "_law_state" = some (some (.ref f_l_state)))
    (l_l_state : K.lookup f_l_state = some ⟨oc_l_state, od_l_state, .func (PySem.W.fnOf "_law_state" "_law_state" (defArgs s_l_state) (defBody s_l_state) (defScope s_l_state) .none kV_l_state dc_l_state pm_l_state an_l_state cd_l_state ct_l_state), sl_l_state⟩)
    (c_l_state : PySem.W.codeIn K cd_l_state "_law_state" = true)
    (k_l_state : PySem.W.keepIn K (.ref f_l_state) = true)
    (a_l_draw : PySem.W.nsIn K mainGlobals "_law_draw" = some (some (.ref f_l_draw)))
    (l_l_draw : K.lookup f_l_draw = some ⟨oc_l_draw, od_l_draw, .func (PySem.W.fnOf "_law_draw" "_law_draw" (defArgs s_l_draw) (defBody s_l_draw) (defScope s_l_draw) .none kV_l_draw dc_l_draw pm_l_draw an_l_draw cd_l_draw ct_l_draw), sl_l_draw⟩)
    (c_l_draw : PySem.W.codeIn K cd_l_draw "_law_draw" = true)
    (k_l_draw : PySem.W.keepIn K (.ref f_l_draw) = true)
    (a_l_word : PySem.W.nsIn K mainGlobals "_law_word" = some (some (.ref f_l_word)))
    (l_l_word : K.lookup f_l_word = some ⟨oc_l_word, od_l_word, .func (PySem.W.fnOf "_law_word" "_law_word" (defArgs s_l_word) (defBody s_l_word) (defScope s_l_word) .none kV_l_word dc_l_word pm_l_word an_l_word cd_l_word ct_l_word), sl_l_word⟩)
    (c_l_word : PySem.W.codeIn K cd_l_word "_law_word" = true)
    (k_l_word : PySem.W.keepIn K (.ref f_l_word) = true)
    (a_l_loom : PySem.W.nsIn K mainGlobals "_law_loom" = some (some (.ref f_l_loom)))
    (l_l_loom : K.lookup f_l_loom = some ⟨oc_l_loom, od_l_loom, .func (PySem.W.fnOf "_law_loom" "_law_loom" (defArgs s_l_loom) (defBody s_l_loom) (defScope s_l_loom) .none kV_l_loom dc_l_loom pm_l_loom an_l_loom cd_l_loom ct_l_loom), sl_l_loom⟩)
    (c_l_loom : PySem.W.codeIn K cd_l_loom "_law_loom" = true)
    (k_l_loom : PySem.W.keepIn K (.ref f_l_loom) = true)
    (a_l_made : PySem.W.nsIn K mainGlobals "_law_made" = some (some (.ref f_l_made)))
    (l_l_made : K.lookup f_l_made = some ⟨oc_l_made, od_l_made, .func (PySem.W.fnOf "_law_made" "_law_made" (defArgs s_l_made) (defBody s_l_made) (defScope s_l_made) .none kV_l_made dc_l_made pm_l_made an_l_made cd_l_made ct_l_made), sl_l_made⟩)
    (c_l_made : PySem.W.codeIn K cd_l_made "_law_made" = true)
    (k_l_made : PySem.W.keepIn K (.ref f_l_made) = true)
    (a_l_odd : PySem.W.nsIn K mainGlobals "_law_odd" = some (some (.ref f_l_odd)))
    (l_l_odd : K.lookup f_l_odd = some ⟨oc_l_odd, od_l_odd, .func (PySem.W.fnOf "_law_odd" "_law_odd" (defArgs s_l_odd) (defBody s_l_odd) (defScope s_l_odd) .none kV_l_odd dc_l_odd pm_l_odd an_l_odd cd_l_odd ct_l_odd), sl_l_odd⟩)
    (c_l_odd : PySem.W.codeIn K cd_l_odd "_law_odd" = true)
    (k_l_odd : PySem.W.keepIn K (.ref f_l_odd) = true)
    (a_l_call : PySem.W.nsIn K mainGlobals "_law_call" = some (some (.ref f_l_call)))
    (l_l_call : K.lookup f_l_call = some ⟨oc_l_call, od_l_call, .func (PySem.W.fnOf "_law_call" "_law_call" (defArgs s_l_call) (defBody s_l_call) (defScope s_l_call) .none kV_l_call dc_l_call pm_l_call an_l_call cd_l_call ct_l_call), sl_l_call⟩)
    (c_l_call : PySem.W.codeIn K cd_l_call "_law_call" = true)
    (k_l_call : PySem.W.keepIn K (.ref f_l_call) = true)
    (a_l_told : PySem.W.nsIn K mainGlobals "_law_told" = some (some (.ref f_l_told)))
    (l_l_told : K.lookup f_l_told = some ⟨oc_l_told, od_l_told, .func (PySem.W.fnOf "_law_told" "_law_told" (defArgs s_l_told) (defBody s_l_told) (defScope s_l_told) .none kV_l_told dc_l_told pm_l_told an_l_told cd_l_told ct_l_told), sl_l_told⟩)
    (c_l_told : PySem.W.codeIn K cd_l_told "_law_told" = true)
    (k_l_told : PySem.W.keepIn K (.ref f_l_told) = true)
    (a_law : PySem.W.nsIn K mainGlobals "law" = some (some (.ref f_law)))
    (l_law : K.lookup f_law = some ⟨oc_law, od_law, .func (PySem.W.fnOf "law" "law" (defArgs s_law) (defBody s_law) (defScope s_law) .none kV_law dc_law pm_law an_law cd_law ct_law), sl_law⟩)
    (c_law : PySem.W.codeIn K cd_law "law" = true)
    (k_law : PySem.W.keepIn K (.ref f_law) = true)
    (pg_Loom : PySem.W.plainGet K C_Loom Str.empty = true)
    (hd_Loom : PySem.W.hasDictIn K C_Loom = true)
    (po_Loom : PySem.W.plainOver K C_Loom = true)
    (sa_Loom : PySem.W.findIn K (.ref C_Loom) "__setattr__" = some (some (.builtin "object.__setattr__")))
    (mk_Loom : PySem.W.makesIn K C_Loom = true)
    (kc_Loom : PySem.W.keepIn K (.ref C_Loom) = true)
    (na_Loom_signs : PySem.W.findIn K (.ref C_Loom) "signs" = some none)
    (na_Loom_arcs : PySem.W.findIn K (.ref C_Loom) "arcs" = some none)
    (pg_Trail : PySem.W.plainGet K C_Trail Str.empty = true)
    (hd_Trail : PySem.W.hasDictIn K C_Trail = true)
    (po_Trail : PySem.W.plainOver K C_Trail = true)
    (sa_Trail : PySem.W.findIn K (.ref C_Trail) "__setattr__" = some (some (.builtin "object.__setattr__")))
    (mk_Trail : PySem.W.makesIn K C_Trail = true)
    (kc_Trail : PySem.W.keepIn K (.ref C_Trail) = true)
    (na_Trail_ahead : PySem.W.findIn K (.ref C_Trail) "ahead" = some none)
    (na_Trail_number : PySem.W.findIn K (.ref C_Trail) "number" = some none)
    (na_Trail_many : PySem.W.findIn K (.ref C_Trail) "many" = some none)
    (na_Trail_jump : PySem.W.findIn K (.ref C_Trail) "jump" = some none)
    (pg_Reader : PySem.W.plainGet K C_Reader Str.empty = true)
    (hd_Reader : PySem.W.hasDictIn K C_Reader = true)
    (po_Reader : PySem.W.plainOver K C_Reader = true)
    (sa_Reader : PySem.W.findIn K (.ref C_Reader) "__setattr__" = some (some (.builtin "object.__setattr__")))
    (mk_Reader : PySem.W.makesIn K C_Reader = true)
    (kc_Reader : PySem.W.keepIn K (.ref C_Reader) = true)
    (na_Reader__loom : PySem.W.findIn K (.ref C_Reader) "_loom" = some none)
    (na_Reader__state : PySem.W.findIn K (.ref C_Reader) "_state" = some none)
    (na_Reader__arcs : PySem.W.findIn K (.ref C_Reader) "_arcs" = some none)
    (na_Reader__text : PySem.W.findIn K (.ref C_Reader) "_text" = some none)
    (na_Reader__told : PySem.W.findIn K (.ref C_Reader) "_told" = some none)
    (na_Reader__places : PySem.W.findIn K (.ref C_Reader) "_places" = some none)
    (kc_ReadError : PySem.W.keepIn K (.ref C_ReadError) = true)
    (e1_ReadError : PySem.W.findIn K (.ref C_ReadError) "__getattribute__" = some (some (.builtin "BaseException.__getattribute__")))
    (e2_ReadError : PySem.W.findIn K (.ref C_ReadError) "__getattr__" = some none)
    (e3_ReadError : PySem.W.subIn K (.ref C_ReadError) (.type "BaseException") = some true)
    (e4_ReadError : PySem.W.hasDictIn K C_ReadError = true)
    (e5_ReadError : PySem.W.findIn K (.ref C_ReadError) "__class__" = some (some (.builtin "object.__class__")))
    (e8_ReadError : PySem.W.mroIn K C_ReadError (.type "object") = some true)
    (ty_ReadError : PySem.W.typeIn K (.ref C_ReadError) = some (.type "type"))
    (in_ReadError : PySem.W.excIn K C_ReadError [.type "Exception", .type "BaseException", .type "object"] "Exception.__new__" = true)
    (kc_InvalidLoom : PySem.W.keepIn K (.ref C_InvalidLoom) = true)
    (e1_InvalidLoom : PySem.W.findIn K (.ref C_InvalidLoom) "__getattribute__" = some (some (.builtin "BaseException.__getattribute__")))
    (e2_InvalidLoom : PySem.W.findIn K (.ref C_InvalidLoom) "__getattr__" = some none)
    (e3_InvalidLoom : PySem.W.subIn K (.ref C_InvalidLoom) (.type "BaseException") = some true)
    (e4_InvalidLoom : PySem.W.hasDictIn K C_InvalidLoom = true)
    (e5_InvalidLoom : PySem.W.findIn K (.ref C_InvalidLoom) "__class__" = some (some (.builtin "object.__class__")))
    (e8_InvalidLoom : PySem.W.mroIn K C_InvalidLoom (.type "object") = some true)
    (ty_InvalidLoom : PySem.W.typeIn K (.ref C_InvalidLoom) = some (.type "type"))
    (xi_InvalidLoom : K.lookup C_InvalidLoom = some (excClassObj nm_InvalidLoom q_InvalidLoom C_InvalidLoom ns_InvalidLoom bs_InvalidLoom [.ref C_ReadError, .type "Exception", .type "BaseException", .type "object"] true sn_InvalidLoom sub_InvalidLoom ab_InvalidLoom col_InvalidLoom dd_InvalidLoom m0_InvalidLoom m1_InvalidLoom m2_InvalidLoom m3_InvalidLoom m5_InvalidLoom "Exception.__new__"))
    (tf_InvalidLoom : PySem.W.typeIn K (.ref f_InvalidLoom_init) = some (.type "function"))
    (sa_InvalidLoom : PySem.W.findIn K (.ref C_InvalidLoom) "__setattr__" = some (some (.builtin "object.__setattr__")))
    (no_InvalidLoom_part : PySem.W.findIn K (.ref C_InvalidLoom) "part" = some none)
    (no_InvalidLoom_at : PySem.W.findIn K (.ref C_InvalidLoom) "at" = some none)
    (kc_LimitExceeded : PySem.W.keepIn K (.ref C_LimitExceeded) = true)
    (e1_LimitExceeded : PySem.W.findIn K (.ref C_LimitExceeded) "__getattribute__" = some (some (.builtin "BaseException.__getattribute__")))
    (e2_LimitExceeded : PySem.W.findIn K (.ref C_LimitExceeded) "__getattr__" = some none)
    (e3_LimitExceeded : PySem.W.subIn K (.ref C_LimitExceeded) (.type "BaseException") = some true)
    (e4_LimitExceeded : PySem.W.hasDictIn K C_LimitExceeded = true)
    (e5_LimitExceeded : PySem.W.findIn K (.ref C_LimitExceeded) "__class__" = some (some (.builtin "object.__class__")))
    (e8_LimitExceeded : PySem.W.mroIn K C_LimitExceeded (.type "object") = some true)
    (ty_LimitExceeded : PySem.W.typeIn K (.ref C_LimitExceeded) = some (.type "type"))
    (xi_LimitExceeded : K.lookup C_LimitExceeded = some (excClassObj nm_LimitExceeded q_LimitExceeded C_LimitExceeded ns_LimitExceeded bs_LimitExceeded [.ref C_ReadError, .type "Exception", .type "BaseException", .type "object"] true sn_LimitExceeded sub_LimitExceeded ab_LimitExceeded col_LimitExceeded dd_LimitExceeded m0_LimitExceeded m1_LimitExceeded m2_LimitExceeded m3_LimitExceeded m5_LimitExceeded "Exception.__new__"))
    (tf_LimitExceeded : PySem.W.typeIn K (.ref f_LimitExceeded_init) = some (.type "function"))
    (sa_LimitExceeded : PySem.W.findIn K (.ref C_LimitExceeded) "__setattr__" = some (some (.builtin "object.__setattr__")))
    (no_LimitExceeded_limit : PySem.W.findIn K (.ref C_LimitExceeded) "limit" = some none)
    (kc_UnknownState : PySem.W.keepIn K (.ref C_UnknownState) = true)
    (e1_UnknownState : PySem.W.findIn K (.ref C_UnknownState) "__getattribute__" = some (some (.builtin "BaseException.__getattribute__")))
    (e2_UnknownState : PySem.W.findIn K (.ref C_UnknownState) "__getattr__" = some none)
    (e3_UnknownState : PySem.W.subIn K (.ref C_UnknownState) (.type "BaseException") = some true)
    (e4_UnknownState : PySem.W.hasDictIn K C_UnknownState = true)
    (e5_UnknownState : PySem.W.findIn K (.ref C_UnknownState) "__class__" = some (some (.builtin "object.__class__")))
    (e8_UnknownState : PySem.W.mroIn K C_UnknownState (.type "object") = some true)
    (ty_UnknownState : PySem.W.typeIn K (.ref C_UnknownState) = some (.type "type"))
    (in_UnknownState : PySem.W.excIn K C_UnknownState [.type "Exception", .type "BaseException", .type "object"] "Exception.__new__" = true)
    (kc_InvalidText : PySem.W.keepIn K (.ref C_InvalidText) = true)
    (e1_InvalidText : PySem.W.findIn K (.ref C_InvalidText) "__getattribute__" = some (some (.builtin "BaseException.__getattribute__")))
    (e2_InvalidText : PySem.W.findIn K (.ref C_InvalidText) "__getattr__" = some none)
    (e3_InvalidText : PySem.W.subIn K (.ref C_InvalidText) (.type "BaseException") = some true)
    (e4_InvalidText : PySem.W.hasDictIn K C_InvalidText = true)
    (e5_InvalidText : PySem.W.findIn K (.ref C_InvalidText) "__class__" = some (some (.builtin "object.__class__")))
    (e8_InvalidText : PySem.W.mroIn K C_InvalidText (.type "object") = some true)
    (ty_InvalidText : PySem.W.typeIn K (.ref C_InvalidText) = some (.type "type"))
    (in_InvalidText : PySem.W.excIn K C_InvalidText [.type "Exception", .type "BaseException", .type "object"] "Exception.__new__" = true)
    (e6 : PySem.W.specialIn K (.builtin "object.__class__") "__get__" = some (some (.builtin "getset_descriptor.__get__")))
    (e7 : PySem.W.takesIn K (.builtin "object.__class__") = some true)
    (ic_Loom : PySem.W.findIn K (.ref C_Loom) "__class__" = some (some (.builtin "object.__class__")))
    (ig : PySem.W.specialIn K (.builtin "object.__class__") "__get__" = some (some (.builtin "getset_descriptor.__get__")))
    (it : PySem.W.takesIn K (.builtin "object.__class__") = some true)
    (im_Loom : PySem.W.mroIn K C_Loom (.type "object") = some true)
    (si_InvalidLoom : PySem.W.subIn K (.ref C_InvalidLoom) (.type "int") = some false)
    (si_Loom : PySem.W.subIn K (.ref C_Loom) (.type "int") = some false)
    (sl_InvalidLoom : PySem.W.subIn K (.ref C_InvalidLoom) (.type "list") = some false)
    (st_InvalidLoom : PySem.W.subIn K (.ref C_InvalidLoom) (.type "tuple") = some false)
    (sl_Loom : PySem.W.subIn K (.ref C_Loom) (.type "list") = some false)
    (st_Loom : PySem.W.subIn K (.ref C_Loom) (.type "tuple") = some false)
    (cl_UnknownState : PySem.W.isClsIn K C_UnknownState = true)
    (cl_InvalidText : PySem.W.isClsIn K C_InvalidText = true)
    (cl_LimitExceeded : PySem.W.isClsIn K C_LimitExceeded = true)
    (cl_ReadError : PySem.W.isClsIn K C_ReadError = true)
    (su_UnknownState_UnknownState : PySem.W.subIn K (.ref C_UnknownState) (.ref C_UnknownState) = some true)
    (su_UnknownState_InvalidText : PySem.W.subIn K (.ref C_UnknownState) (.ref C_InvalidText) = some false)
    (su_UnknownState_LimitExceeded : PySem.W.subIn K (.ref C_UnknownState) (.ref C_LimitExceeded) = some false)
    (sr_UnknownState : PySem.W.subIn K (.ref C_UnknownState) (.ref C_ReadError) = some true)
    (su_InvalidText_UnknownState : PySem.W.subIn K (.ref C_InvalidText) (.ref C_UnknownState) = some false)
    (su_InvalidText_InvalidText : PySem.W.subIn K (.ref C_InvalidText) (.ref C_InvalidText) = some true)
    (su_InvalidText_LimitExceeded : PySem.W.subIn K (.ref C_InvalidText) (.ref C_LimitExceeded) = some false)
    (sr_InvalidText : PySem.W.subIn K (.ref C_InvalidText) (.ref C_ReadError) = some true)
    (su_LimitExceeded_UnknownState : PySem.W.subIn K (.ref C_LimitExceeded) (.ref C_UnknownState) = some false)
    (su_LimitExceeded_InvalidText : PySem.W.subIn K (.ref C_LimitExceeded) (.ref C_InvalidText) = some false)
    (su_LimitExceeded_LimitExceeded : PySem.W.subIn K (.ref C_LimitExceeded) (.ref C_LimitExceeded) = some true)
    (sr_LimitExceeded : PySem.W.subIn K (.ref C_LimitExceeded) (.ref C_ReadError) = some true)
    (nx_LimitExceeded_limit : PySem.W.findIn K (.ref C_LimitExceeded) "limit" = some none)
    (sx_Loom : PySem.W.subIn K (.ref C_Loom) (.type "str") = some false)
    (sx_InvalidText : PySem.W.subIn K (.ref C_InvalidText) (.type "str") = some false)
    (z_all : PySem.W.nsIn K mainGlobals "all" = some none)
    (z_bool : PySem.W.nsIn K mainGlobals "bool" = some none)
    (z_enumerate : PySem.W.nsIn K mainGlobals "enumerate" = some none)
    (z_int : PySem.W.nsIn K mainGlobals "int" = some none)
    (z_isinstance : PySem.W.nsIn K mainGlobals "isinstance" = some none)
    (z_len : PySem.W.nsIn K mainGlobals "len" = some none)
    (z_list : PySem.W.nsIn K mainGlobals "list" = some none)
    (z_range : PySem.W.nsIn K mainGlobals "range" = some none)
    (z_reversed : PySem.W.nsIn K mainGlobals "reversed" = some none)
    (z_str : PySem.W.nsIn K mainGlobals "str" = some none)
    (z_sum : PySem.W.nsIn K mainGlobals "sum" = some none)
    (z_tuple : PySem.W.nsIn K mainGlobals "tuple" = some none)
    (z_zip : PySem.W.nsIn K mainGlobals "zip" = some none)
    (g_MOST_SIGNS : PySem.W.nsIn K mainGlobals "MOST_SIGNS" = some (some (.int 4 t_MOST_SIGNS)))
    (g_LONGEST_WORD : PySem.W.nsIn K mainGlobals "LONGEST_WORD" = some (some (.int 12 t_LONGEST_WORD)))
    (g_LONGEST_TEXT : PySem.W.nsIn K mainGlobals "LONGEST_TEXT" = some (some (.int 2000 t_LONGEST_TEXT)))
    (g_LAST_STATE : PySem.W.nsIn K mainGlobals "LAST_STATE" = some (some (.int 63 t_LAST_STATE)))
    (g_MOST_READINGS : PySem.W.nsIn K mainGlobals "MOST_READINGS" = some (some (.int 200 t_MOST_READINGS)))
    (g_MOST_ARCS : PySem.W.nsIn K mainGlobals "MOST_ARCS" = some (some (.int 200 t_MOST_ARCS)))
    : ∃ fd : FuncData, (∀ (s : Shared) (v : Value), BindsTo s fd ⟨[v], []⟩ [("_law_script", v)]) ∧ ∀ base : Heap, K.In base → base.Ns mainGlobals mg → FnOk l.prog w K mg base CX0 8 fa fd P_law (spLaw K) := by
  have e := hfa.symm.trans (PySem.W.mg_of X G a_law)
  cases e
  have F__wall := fun_mk (st := s__wall) l__wall c__wall k__wall
  have b__wall := F__wall.binds (ps := P__wall) fun _ _ _ _ _ _ us hl => match us, hl with | [_], _ => rfl
  have F_InvalidLoom_init := fun_mk (st := s_InvalidLoom_init) l_InvalidLoom_init c_InvalidLoom_init k_InvalidLoom_init
  have b_InvalidLoom_init := F_InvalidLoom_init.binds (ps := P_InvalidLoom_init) fun _ _ _ _ _ _ us hl => match us, hl with | [_, _, _], _ => rfl
  have F_LimitExceeded_init := fun_mk (st := s_LimitExceeded_init) l_LimitExceeded_init c_LimitExceeded_init k_LimitExceeded_init
  have b_LimitExceeded_init := F_LimitExceeded_init.binds (ps := P_LimitExceeded_init) fun _ _ _ _ _ _ us hl => match us, hl with | [_, _], _ => rfl
  have F_is_number := fun_mk (st := s_is_number) l_is_number c_is_number k_is_number
  have b_is_number := F_is_number.binds (ps := P_is_number) fun _ _ _ _ _ _ us hl => match us, hl with | [_, _, _], _ => rfl
  have F_is_sequence := fun_mk (st := s_is_sequence) l_is_sequence c_is_sequence k_is_sequence
  have b_is_sequence := F_is_sequence.binds (ps := P_is_sequence) fun _ _ _ _ _ _ us hl => match us, hl with | [_, _, _], _ => rfl
  have F_is_signs := fun_mk (st := s_is_signs) l_is_signs c_is_signs k_is_signs
  have b_is_signs := F_is_signs.binds (ps := P_is_signs) fun _ _ _ _ _ _ us hl => match us, hl with | [_], _ => rfl
  have F_is_string_over := fun_mk (st := s_is_string_over) l_is_string_over c_is_string_over k_is_string_over
  have b_is_string_over := F_is_string_over.binds (ps := P_is_string_over) fun _ _ _ _ _ _ us hl => match us, hl with | [_, _, _, _], _ => rfl
  have F_is_word := fun_mk (st := s_is_word) l_is_word c_is_word k_is_word
  have b_is_word := F_is_word.binds (ps := P_is_word) fun _ _ _ _ _ _ us hl => match us, hl with | [_, _], _ => rfl
  have F_check_signs := fun_mk (st := s_check_signs) l_check_signs c_check_signs k_check_signs
  have b_check_signs := F_check_signs.binds (ps := P_check_signs) fun _ _ _ _ _ _ us hl => match us, hl with | [_], _ => rfl
  have F_check_state := fun_mk (st := s_check_state) l_check_state c_check_state k_check_state
  have b_check_state := F_check_state.binds (ps := P_check_state) fun _ _ _ _ _ _ us hl => match us, hl with | [_], _ => rfl
  have F_check_text := fun_mk (st := s_check_text) l_check_text c_check_text k_check_text
  have b_check_text := F_check_text.binds (ps := P_check_text) fun _ _ _ _ _ _ us hl => match us, hl with | [_, _], _ => rfl
  have F_goes_on := fun_mk (st := s_goes_on) l_goes_on c_goes_on k_goes_on
  have b_goes_on := F_goes_on.binds (ps := P_goes_on) fun _ _ _ _ _ _ us hl => match us, hl with | [_, _, _, _, _], _ => rfl
  have F_live_arcs := fun_mk (st := s_live_arcs) l_live_arcs c_live_arcs k_live_arcs
  have b_live_arcs := F_live_arcs.binds (ps := P_live_arcs) fun _ _ _ _ _ _ us hl => match us, hl with | [_, _, _], _ => rfl
  have F_readings := fun_mk (st := s_readings) l_readings c_readings k_readings
  have b_readings := F_readings.binds (ps := P_readings) fun _ _ _ _ _ _ us hl => match us, hl with | [_, _, _], _ => rfl
  have F_count := fun_mk (st := s_count) l_count c_count k_count
  have b_count := F_count.binds (ps := P_count) fun _ _ _ _ _ _ us hl => match us, hl with | [_, _, _], _ => rfl
  have F_sure := fun_mk (st := s_sure) l_sure c_sure k_sure
  have b_sure := F_sure.binds (ps := P_sure) fun _ _ _ _ _ _ us hl => match us, hl with | [_, _, _], _ => rfl
  have F_is_arc := fun_mk (st := s_is_arc) l_is_arc c_is_arc k_is_arc
  have b_is_arc := F_is_arc.binds (ps := P_is_arc) fun _ _ _ _ _ _ us hl => match us, hl with | [_, _], _ => rfl
  have F_Loom_init := fun_mk (st := s_Loom_init) l_Loom_init c_Loom_init k_Loom_init
  have b_Loom_init := F_Loom_init.binds (ps := P_Loom_init) fun _ _ _ _ _ _ us hl => match us, hl with | [_, _, _], _ => rfl
  have F_Loom_eq := fun_mk (st := s_Loom_eq) l_Loom_eq c_Loom_eq k_Loom_eq
  have b_Loom_eq := F_Loom_eq.binds (ps := P_Loom_eq) fun _ _ _ _ _ _ us hl => match us, hl with | [_, _], _ => rfl
  have F_Trail_init := fun_mk (st := s_Trail_init) l_Trail_init c_Trail_init k_Trail_init
  have b_Trail_init := F_Trail_init.binds (ps := P_Trail_init) fun _ _ _ _ _ _ us hl => match us, hl with | [_, _, _], _ => rfl
  have F_cut := fun_mk (st := s_cut) l_cut c_cut k_cut
  have b_cut := F_cut.binds (ps := P_cut) fun _ _ _ _ _ _ us hl => match us, hl with | [_, _], _ => rfl
  have F_shared := fun_mk (st := s_shared) l_shared c_shared k_shared
  have b_shared := F_shared.binds (ps := P_shared) fun _ _ _ _ _ _ us hl => match us, hl with | [_, _], _ => rfl
  have F_numbers_beyond := fun_mk (st := s_numbers_beyond) l_numbers_beyond c_numbers_beyond k_numbers_beyond
  have b_numbers_beyond := F_numbers_beyond.binds (ps := P_numbers_beyond) fun _ _ _ _ _ _ us hl => match us, hl with | [_, _], _ => rfl
  have F_arcs_by_beginnings := fun_mk (st := s_arcs_by_beginnings) l_arcs_by_beginnings c_arcs_by_beginnings k_arcs_by_beginnings
  have b_arcs_by_beginnings := F_arcs_by_beginnings.binds (ps := P_arcs_by_beginnings) fun _ _ _ _ _ _ us hl => match us, hl with | [_], _ => rfl
  have F_Reader_init := fun_mk (st := s_Reader_init) l_Reader_init c_Reader_init k_Reader_init
  have b_Reader_init := F_Reader_init.binds (ps := P_Reader_init) fun _ _ _ _ _ _ us hl => match us, hl with | [_, _, _], _ => rfl
  have F_Reader_take := fun_mk (st := s_Reader_take) l_Reader_take c_Reader_take k_Reader_take
  have b_Reader_take := F_Reader_take.binds (ps := P_Reader_take) fun _ _ _ _ _ _ us hl => match us, hl with | [_, _], _ => rfl
  have F_Reader_told := fun_mk (st := s_Reader_told) l_Reader_told c_Reader_told k_Reader_told
  have b_Reader_told := F_Reader_told.binds (ps := P_Reader_told) fun _ _ _ _ _ _ us hl => match us, hl with | [_], _ => rfl
  have F_Reader_text := fun_mk (st := s_Reader_text) l_Reader_text c_Reader_text k_Reader_text
  have b_Reader_text := F_Reader_text.binds (ps := P_Reader_text) fun _ _ _ _ _ _ us hl => match us, hl with | [_], _ => rfl
  have F_Reader_twin := fun_mk (st := s_Reader_twin) l_Reader_twin c_Reader_twin k_Reader_twin
  have b_Reader_twin := F_Reader_twin.binds (ps := P_Reader_twin) fun _ _ _ _ _ _ us hl => match us, hl with | [_], _ => rfl
  have F_Reader__covers := fun_mk (st := s_Reader__covers) l_Reader__covers c_Reader__covers k_Reader__covers
  have b_Reader__covers := F_Reader__covers.binds (ps := P_Reader__covers) fun _ _ _ _ _ _ us hl => match us, hl with | [_, _], _ => rfl
  have F_sure_trail := fun_mk (st := s_sure_trail) l_sure_trail c_sure_trail k_sure_trail
  have b_sure_trail := F_sure_trail.binds (ps := P_sure_trail) fun _ _ _ _ _ _ us hl => match us, hl with | [_], _ => rfl
  have F_ends := fun_mk (st := s_ends) l_ends c_ends k_ends
  have b_ends := F_ends.binds (ps := P_ends) fun _ _ _ _ _ _ us hl => match us, hl with | [_], _ => rfl
  have F_l_state := fun_mk (st := s_l_state) l_l_state c_l_state k_l_state
  have b_l_state := F_l_state.binds (ps := P_l_state) fun _ _ _ _ _ _ us hl => match us, hl with | [_], _ => rfl
  have F_l_draw := fun_mk (st := s_l_draw) l_l_draw c_l_draw k_l_draw
  have b_l_draw := F_l_draw.binds (ps := P_l_draw) fun _ _ _ _ _ _ us hl => match us, hl with | [_, _], _ => rfl
  have F_l_word := fun_mk (st := s_l_word) l_l_word c_l_word k_l_word
  have b_l_word := F_l_word.binds (ps := P_l_word) fun _ _ _ _ _ _ us hl => match us, hl with | [_, _, _], _ => rfl
  have F_l_loom := fun_mk (st := s_l_loom) l_l_loom c_l_loom k_l_loom
  have b_l_loom := F_l_loom.binds (ps := P_l_loom) fun _ _ _ _ _ _ us hl => match us, hl with | [_], _ => rfl
  have F_l_made := fun_mk (st := s_l_made) l_l_made c_l_made k_l_made
  have b_l_made := F_l_made.binds (ps := P_l_made) fun _ _ _ _ _ _ us hl => match us, hl with | [_], _ => rfl
  have F_l_odd := fun_mk (st := s_l_odd) l_l_odd c_l_odd k_l_odd
  have b_l_odd := F_l_odd.binds (ps := P_l_odd) fun _ _ _ _ _ _ us hl => match us, hl with | [_], _ => rfl
  have F_l_call := fun_mk (st := s_l_call) l_l_call c_l_call k_l_call
  have b_l_call := F_l_call.binds (ps := P_l_call) fun _ _ _ _ _ _ us hl => match us, hl with | [_, _, _, _], _ => rfl
  have F_l_told := fun_mk (st := s_l_told) l_l_told c_l_told k_l_told
  have b_l_told := F_l_told.binds (ps := P_l_told) fun _ _ _ _ _ _ us hl => match us, hl with | [_, _, _, _], _ => rfl
  have F_law := fun_mk (st := s_law) l_law c_law k_law
  have b_law := F_law.binds (ps := P_law) fun _ _ _ _ _ _ us hl => match us, hl with | [_], _ => rfl
  exact ⟨_, fun s v => .of_eq rfl, fun base _ _ => ok_law {
    f__wall := _
    fd__wall := _
    F__wall := F__wall
    b__wall := b__wall
    m__wall := PySem.W.mg_of X G a__wall
    f_InvalidLoom_init := _
    fd_InvalidLoom_init := _
    F_InvalidLoom_init := F_InvalidLoom_init
    b_InvalidLoom_init := b_InvalidLoom_init
    f_LimitExceeded_init := _
    fd_LimitExceeded_init := _
    F_LimitExceeded_init := F_LimitExceeded_init
    b_LimitExceeded_init := b_LimitExceeded_init
    f_is_number := _
    fd_is_number := _
    F_is_number := F_is_number
    b_is_number := b_is_number
    m_is_number := PySem.W.mg_of X G a_is_number
    f_is_sequence := _
    fd_is_sequence := _
    F_is_sequence := F_is_sequence
    b_is_sequence := b_is_sequence
    m_is_sequence := PySem.W.mg_of X G a_is_sequence
    f_is_signs := _
    fd_is_signs := _
    F_is_signs := F_is_signs
    b_is_signs := b_is_signs
    m_is_signs := PySem.W.mg_of X G a_is_signs
    f_is_string_over := _
    fd_is_string_over := _
    F_is_string_over := F_is_string_over
    b_is_string_over := b_is_string_over
    m_is_string_over := PySem.W.mg_of X G a_is_string_over
    f_is_word := _
    fd_is_word := _
    F_is_word := F_is_word
    b_is_word := b_is_word
    m_is_word := PySem.W.mg_of X G a_is_word
    f_check_signs := _
    fd_check_signs := _
    F_check_signs := F_check_signs
    b_check_signs := b_check_signs
    m_check_signs := PySem.W.mg_of X G a_check_signs
    f_check_state := _
    fd_check_state := _
    F_check_state := F_check_state
    b_check_state := b_check_state
    m_check_state := PySem.W.mg_of X G a_check_state
    f_check_text := _
    fd_check_text := _
    F_check_text := F_check_text
    b_check_text := b_check_text
    m_check_text := PySem.W.mg_of X G a_check_text
    f_goes_on := _
    fd_goes_on := _
    F_goes_on := F_goes_on
    b_goes_on := b_goes_on
    m_goes_on := PySem.W.mg_of X G a_goes_on
    f_live_arcs := _
    fd_live_arcs := _
    F_live_arcs := F_live_arcs
    b_live_arcs := b_live_arcs
    m_live_arcs := PySem.W.mg_of X G a_live_arcs
    f_readings := _
    fd_readings := _
    F_readings := F_readings
    b_readings := b_readings
    m_readings := PySem.W.mg_of X G a_readings
    f_count := _
    fd_count := _
    F_count := F_count
    b_count := b_count
    m_count := PySem.W.mg_of X G a_count
    f_sure := _
    fd_sure := _
    F_sure := F_sure
    b_sure := b_sure
    m_sure := PySem.W.mg_of X G a_sure
    f_is_arc := _
    fd_is_arc := _
    F_is_arc := F_is_arc
    b_is_arc := b_is_arc
    m_is_arc := PySem.W.mg_of X G a_is_arc
    f_Loom_init := _
    fd_Loom_init := _
    F_Loom_init := F_Loom_init
    b_Loom_init := b_Loom_init
    f_Loom_eq := _
    fd_Loom_eq := _
    F_Loom_eq := F_Loom_eq
    b_Loom_eq := b_Loom_eq
    f_Trail_init := _
    fd_Trail_init := _
    F_Trail_init := F_Trail_init
    b_Trail_init := b_Trail_init
    f_cut := _
    fd_cut := _
    F_cut := F_cut
    b_cut := b_cut
    m_cut := PySem.W.mg_of X G a_cut
    f_shared := _
    fd_shared := _
    F_shared := F_shared
    b_shared := b_shared
    m_shared := PySem.W.mg_of X G a_shared
    f_numbers_beyond := _
    fd_numbers_beyond := _
    F_numbers_beyond := F_numbers_beyond
    b_numbers_beyond := b_numbers_beyond
    m_numbers_beyond := PySem.W.mg_of X G a_numbers_beyond
    f_arcs_by_beginnings := _
    fd_arcs_by_beginnings := _
    F_arcs_by_beginnings := F_arcs_by_beginnings
    b_arcs_by_beginnings := b_arcs_by_beginnings
    m_arcs_by_beginnings := PySem.W.mg_of X G a_arcs_by_beginnings
    f_Reader_init := _
    fd_Reader_init := _
    F_Reader_init := F_Reader_init
    b_Reader_init := b_Reader_init
    f_Reader_take := _
    fd_Reader_take := _
    F_Reader_take := F_Reader_take
    b_Reader_take := b_Reader_take
    f_Reader_told := _
    fd_Reader_told := _
    F_Reader_told := F_Reader_told
    b_Reader_told := b_Reader_told
    f_Reader_text := _
    fd_Reader_text := _
    F_Reader_text := F_Reader_text
    b_Reader_text := b_Reader_text
    f_Reader_twin := _
    fd_Reader_twin := _
    F_Reader_twin := F_Reader_twin
    b_Reader_twin := b_Reader_twin
    f_Reader__covers := _
    fd_Reader__covers := _
    F_Reader__covers := F_Reader__covers
    b_Reader__covers := b_Reader__covers
    f_sure_trail := _
    fd_sure_trail := _
    F_sure_trail := F_sure_trail
    b_sure_trail := b_sure_trail
    m_sure_trail := PySem.W.mg_of X G a_sure_trail
    f_ends := _
    fd_ends := _
    F_ends := F_ends
    b_ends := b_ends
    m_ends := PySem.W.mg_of X G a_ends
    f_l_state := _
    fd_l_state := _
    F_l_state := F_l_state
    b_l_state := b_l_state
    m_l_state := PySem.W.mg_of X G a_l_state
    f_l_draw := _
    fd_l_draw := _
    F_l_draw := F_l_draw
    b_l_draw := b_l_draw
    m_l_draw := PySem.W.mg_of X G a_l_draw
    f_l_word := _
    fd_l_word := _
    F_l_word := F_l_word
    b_l_word := b_l_word
    m_l_word := PySem.W.mg_of X G a_l_word
    f_l_loom := _
    fd_l_loom := _
    F_l_loom := F_l_loom
    b_l_loom := b_l_loom
    m_l_loom := PySem.W.mg_of X G a_l_loom
    f_l_made := _
    fd_l_made := _
    F_l_made := F_l_made
    b_l_made := b_l_made
    m_l_made := PySem.W.mg_of X G a_l_made
    f_l_odd := _
    fd_l_odd := _
    F_l_odd := F_l_odd
    b_l_odd := b_l_odd
    m_l_odd := PySem.W.mg_of X G a_l_odd
    f_l_call := _
    fd_l_call := _
    F_l_call := F_l_call
    b_l_call := b_l_call
    m_l_call := PySem.W.mg_of X G a_l_call
    f_l_told := _
    fd_l_told := _
    F_l_told := F_l_told
    b_l_told := b_l_told
    m_l_told := PySem.W.mg_of X G a_l_told
    f_law := _
    fd_law := _
    F_law := F_law
    b_law := b_law
    m_law := PySem.W.mg_of X G a_law
    n_all := PySem.W.mg_none_of X G z_all
    n_bool := PySem.W.mg_none_of X G z_bool
    n_enumerate := PySem.W.mg_none_of X G z_enumerate
    n_int := PySem.W.mg_none_of X G z_int
    n_isinstance := PySem.W.mg_none_of X G z_isinstance
    n_len := PySem.W.mg_none_of X G z_len
    n_list := PySem.W.mg_none_of X G z_list
    n_range := PySem.W.mg_none_of X G z_range
    n_reversed := PySem.W.mg_none_of X G z_reversed
    n_str := PySem.W.mg_none_of X G z_str
    n_sum := PySem.W.mg_none_of X G z_sum
    n_tuple := PySem.W.mg_none_of X G z_tuple
    n_zip := PySem.W.mg_none_of X G z_zip
    t_MOST_SIGNS := t_MOST_SIGNS
    g_MOST_SIGNS := PySem.W.mg_of X G g_MOST_SIGNS
    t_LONGEST_WORD := t_LONGEST_WORD
    g_LONGEST_WORD := PySem.W.mg_of X G g_LONGEST_WORD
    t_LONGEST_TEXT := t_LONGEST_TEXT
    g_LONGEST_TEXT := PySem.W.mg_of X G g_LONGEST_TEXT
    t_LAST_STATE := t_LAST_STATE
    g_LAST_STATE := PySem.W.mg_of X G g_LAST_STATE
    t_MOST_READINGS := t_MOST_READINGS
    g_MOST_READINGS := PySem.W.mg_of X G g_MOST_READINGS
    t_MOST_ARCS := t_MOST_ARCS
    g_MOST_ARCS := PySem.W.mg_of X G g_MOST_ARCS
    C_Loom := C_Loom
    M_Loom := ⟨mk_Loom, a_Loom_init, i_Loom_init, kc_Loom⟩
    cl_Loom := ⟨pg_Loom, hd_Loom, po_Loom, sa_Loom⟩
    g_Loom := PySem.W.mg_of X G a_CLoom
    na_Loom_signs := na_Loom_signs
    na_Loom_arcs := na_Loom_arcs
    C_Trail := C_Trail
    M_Trail := ⟨mk_Trail, a_Trail_init, i_Trail_init, kc_Trail⟩
    cl_Trail := ⟨pg_Trail, hd_Trail, po_Trail, sa_Trail⟩
    g_Trail := PySem.W.mg_of X G a_CTrail
    na_Trail_ahead := na_Trail_ahead
    na_Trail_number := na_Trail_number
    na_Trail_many := na_Trail_many
    na_Trail_jump := na_Trail_jump
    C_Reader := C_Reader
    M_Reader := ⟨mk_Reader, a_Reader_init, i_Reader_init, kc_Reader⟩
    cl_Reader := ⟨pg_Reader, hd_Reader, po_Reader, sa_Reader⟩
    g_Reader := PySem.W.mg_of X G a_CReader
    na_Reader__loom := na_Reader__loom
    na_Reader__state := na_Reader__state
    na_Reader__arcs := na_Reader__arcs
    na_Reader__text := na_Reader__text
    na_Reader__told := na_Reader__told
    na_Reader__places := na_Reader__places
    C_ReadError := C_ReadError
    g_ReadError := PySem.W.mg_of X G a_CReadError
    kc_ReadError := kc_ReadError
    E_ReadError := ⟨e1_ReadError, e2_ReadError, e3_ReadError, e4_ReadError, e5_ReadError, e6, e7, e8_ReadError⟩
    ty_ReadError := ty_ReadError
    in_ReadError := in_ReadError
    C_InvalidLoom := C_InvalidLoom
    g_InvalidLoom := PySem.W.mg_of X G a_CInvalidLoom
    kc_InvalidLoom := kc_InvalidLoom
    E_InvalidLoom := ⟨e1_InvalidLoom, e2_InvalidLoom, e3_InvalidLoom, e4_InvalidLoom, e5_InvalidLoom, e6, e7, e8_InvalidLoom⟩
    ty_InvalidLoom := ty_InvalidLoom
    X_InvalidLoom := { gC := PySem.W.mg_of X G a_CInvalidLoom, cls := ⟨_, _, _, _, _, _, _, _, _, _, _, _, _, _, _, xi_InvalidLoom, by first | rfl | decide +kernel⟩, sa := sa_InvalidLoom, ga := e1_InvalidLoom, gg := e2_InvalidLoom, no := fun f hf => by simp only [List.mem_cons, List.not_mem_nil, or_false] at hf; rcases hf with rfl | rfl <;> assumption, iC := a_InvalidLoom_init, tC := tf_InvalidLoom, kC := kc_InvalidLoom, exC := e3_InvalidLoom, tyC := ty_InvalidLoom, hdC := e4_InvalidLoom, fn := ⟨_, _, _, _, _, _, _, _, _, l_InvalidLoom_init, c_InvalidLoom_init⟩ }
    C_LimitExceeded := C_LimitExceeded
    g_LimitExceeded := PySem.W.mg_of X G a_CLimitExceeded
    kc_LimitExceeded := kc_LimitExceeded
    E_LimitExceeded := ⟨e1_LimitExceeded, e2_LimitExceeded, e3_LimitExceeded, e4_LimitExceeded, e5_LimitExceeded, e6, e7, e8_LimitExceeded⟩
    ty_LimitExceeded := ty_LimitExceeded
    X_LimitExceeded := { gC := PySem.W.mg_of X G a_CLimitExceeded, cls := ⟨_, _, _, _, _, _, _, _, _, _, _, _, _, _, _, xi_LimitExceeded, by first | rfl | decide +kernel⟩, sa := sa_LimitExceeded, ga := e1_LimitExceeded, gg := e2_LimitExceeded, no := fun f hf => by rw [List.mem_singleton.mp hf]; assumption, iC := a_LimitExceeded_init, tC := tf_LimitExceeded, kC := kc_LimitExceeded, exC := e3_LimitExceeded, tyC := ty_LimitExceeded, hdC := e4_LimitExceeded, fn := ⟨_, _, _, _, _, _, _, _, _, l_LimitExceeded_init, c_LimitExceeded_init⟩ }
    C_UnknownState := C_UnknownState
    g_UnknownState := PySem.W.mg_of X G a_CUnknownState
    kc_UnknownState := kc_UnknownState
    E_UnknownState := ⟨e1_UnknownState, e2_UnknownState, e3_UnknownState, e4_UnknownState, e5_UnknownState, e6, e7, e8_UnknownState⟩
    ty_UnknownState := ty_UnknownState
    in_UnknownState := in_UnknownState
    C_InvalidText := C_InvalidText
    g_InvalidText := PySem.W.mg_of X G a_CInvalidText
    kc_InvalidText := kc_InvalidText
    E_InvalidText := ⟨e1_InvalidText, e2_InvalidText, e3_InvalidText, e4_InvalidText, e5_InvalidText, e6, e7, e8_InvalidText⟩
    ty_InvalidText := ty_InvalidText
    in_InvalidText := in_InvalidText
    ic_Loom := ic_Loom
    ig := ig
    it := it
    im_Loom := im_Loom
    si_InvalidLoom := si_InvalidLoom
    si_Loom := si_Loom
    sl_InvalidLoom := sl_InvalidLoom
    st_InvalidLoom := st_InvalidLoom
    sl_Loom := sl_Loom
    st_Loom := st_Loom
    cl_UnknownState := cl_UnknownState
    cl_InvalidText := cl_InvalidText
    cl_LimitExceeded := cl_LimitExceeded
    cl_ReadError := cl_ReadError
    su_UnknownState_UnknownState := su_UnknownState_UnknownState
    su_UnknownState_InvalidText := su_UnknownState_InvalidText
    su_UnknownState_LimitExceeded := su_UnknownState_LimitExceeded
    sr_UnknownState := sr_UnknownState
    su_InvalidText_UnknownState := su_InvalidText_UnknownState
    su_InvalidText_InvalidText := su_InvalidText_InvalidText
    su_InvalidText_LimitExceeded := su_InvalidText_LimitExceeded
    sr_InvalidText := sr_InvalidText
    su_LimitExceeded_UnknownState := su_LimitExceeded_UnknownState
    su_LimitExceeded_InvalidText := su_LimitExceeded_InvalidText
    su_LimitExceeded_LimitExceeded := su_LimitExceeded_LimitExceeded
    sr_LimitExceeded := sr_LimitExceeded
    nx_LimitExceeded_limit := nx_LimitExceeded_limit
    sx_Loom := sx_Loom
    sx_InvalidText := sx_InvalidText }⟩
theorem walk {l : PySem.W.OpenLaw} {q : Program} {loose : List Str} {XP : (Str → Option Value) → Heap → Prop} {YP : World → Heap → Prop} {d : DefRec} {K : Params → PySem.W.Frag} (hn : l.most = some 63) (hdf : d.params.defaults = [])
    (hY : ∀ (w : World) (h : Heap), YP w h → (K w.params).In h)
    (F : ∀ (w : World) (mg : Str → Option Value) (fa : Addr) (h : Heap), (K w.params).In h → h.Ns mainGlobals mg → mg d.name = some (.ref fa) →
      ∃ fd : FuncData, (∀ (s : Shared) (u : Value), BindsTo s fd ⟨[u], []⟩ [("_law_script", u)]) ∧ ∀ base : Heap, (K w.params).In base → base.Ns mainGlobals mg → FnOk l.prog w (K w.params) mg base CX0 8 fa fd P_law (spLaw (K w.params))) :
    PySem.W.WalkO q loose XP YP l.row.toRowW d [] (fun f vs => PySem.call f vs) :=
  L2.walk_of (n := 63) (k := 8) (x := "_law_script") (CX := fun _ => CX0) (sp := fun w => spLaw (K w.params)) hn (by decide) hdf ⟨rfl, by decide, by decide⟩ hY F (fun _ _ a ns hl _ hS => ⟨a, ns, rfl, hS, hl, fun _ => rfl⟩) fun _ _ _ _ _ z => z
end J

open PySem PySem.W PyProof.Rows in
set_option maxRecDepth 100000 in
set_option maxHeartbeats 0 in
theorem PySem.Challenge.cw_onewayread_k08_texts_and_states_refused_holds : PySem.Challenge.rw_onewayread_k08_texts_and_states_refused.Holds := by
  w_on; o_law; k_head; (case hw => w_witness2)
  k_fill
  refine J.walk (l := PySem.Challenge.rw_onewayread_k08_texts_and_states_refused) rfl rfl (fun w h Y => PySem.W.kIn_of Y) ?F
  case F =>
    intro w mg fa h KX G hmg
    refine' J.all_mk KX G hmg ?a_CInvalidText ?a_CUnknownState ?a_CReadError ?a_CTrail ?a_CReader ?a_CLoom ?a_CLimitExceeded ?a_CInvalidLoom ?a__wall ?l__wall ?c__wall ?k__wall ?a_InvalidLoom_init ?i_InvalidLoom_init ?l_InvalidLoom_init ?c_InvalidLoom_init ?k_InvalidLoom_init ?a_LimitExceeded_init ?i_LimitExceeded_init ?l_LimitExceeded_init ?c_LimitExceeded_init ?k_LimitExceeded_init ?a_is_number ?l_is_number ?c_is_number ?k_is_number ?a_is_sequence ?l_is_sequence ?c_is_sequence ?k_is_sequence ?a_is_signs ?l_is_signs ?c_is_signs ?k_is_signs ?a_is_string_over ?l_is_string_over ?c_is_string_over ?k_is_string_over ?a_is_word ?l_is_word ?c_is_word ?k_is_word ?a_check_signs ?l_check_signs ?c_check_signs ?k_check_signs ?a_check_state ?l_check_state ?c_check_state ?k_check_state ?a_check_text ?l_check_text ?c_check_text ?k_check_text ?a_goes_on ?l_goes_on ?c_goes_on ?k_goes_on ?a_live_arcs ?l_live_arcs ?c_live_arcs ?k_live_arcs ?a_readings ?l_readings ?c_readings ?k_readings ?a_count ?l_count ?c_count ?k_count ?a_sure ?l_sure ?c_sure ?k_sure ?a_is_arc ?l_is_arc ?c_is_arc ?k_is_arc ?a_Loom_init ?i_Loom_init ?l_Loom_init ?c_Loom_init ?k_Loom_init ?a_Loom_eq ?l_Loom_eq ?c_Loom_eq ?k_Loom_eq ?a_Trail_init ?i_Trail_init ?l_Trail_init ?c_Trail_init ?k_Trail_init ?a_cut ?l_cut ?c_cut ?k_cut ?a_shared ?l_shared ?c_shared ?k_shared ?a_numbers_beyond ?l_numbers_beyond ?c_numbers_beyond ?k_numbers_beyond ?a_arcs_by_beginnings ?l_arcs_by_beginnings ?c_arcs_by_beginnings ?k_arcs_by_beginnings ?a_Reader_init ?i_Reader_init ?l_Reader_init ?c_Reader_init ?k_Reader_init ?a_Reader_take ?l_Reader_take ?c_Reader_take ?k_Reader_take ?a_Reader_told ?l_Reader_told ?c_Reader_told ?k_Reader_told ?a_Reader_text ?l_Reader_text ?c_Reader_text ?k_Reader_text ?a_Reader_twin ?l_Reader_twin ?c_Reader_twin ?k_Reader_twin ?a_Reader__covers ?l_Reader__covers ?c_Reader__covers ?k_Reader__covers ?a_sure_trail ?l_sure_trail ?c_sure_trail ?k_sure_trail ?a_ends ?l_ends ?c_ends ?k_ends ?a_l_state ?l_l_state ?c_l_state ?k_l_state ?a_l_draw ?l_l_draw ?c_l_draw ?k_l_draw ?a_l_word ?l_l_word ?c_l_word ?k_l_word ?a_l_loom ?l_l_loom ?c_l_loom ?k_l_loom ?a_l_made ?l_l_made ?c_l_made ?k_l_made ?a_l_odd ?l_l_odd ?c_l_odd ?k_l_odd ?a_l_call ?l_l_call ?c_l_call ?k_l_call ?a_l_told ?l_l_told ?c_l_told ?k_l_told ?a_law ?l_law ?c_law ?k_law ?pg_Loom ?hd_Loom ?po_Loom ?sa_Loom ?mk_Loom ?kc_Loom ?na_Loom_signs ?na_Loom_arcs ?pg_Trail ?hd_Trail ?po_Trail ?sa_Trail ?mk_Trail ?kc_Trail ?na_Trail_ahead ?na_Trail_number ?na_Trail_many ?na_Trail_jump ?pg_Reader ?hd_Reader ?po_Reader ?sa_Reader ?mk_Reader ?kc_Reader ?na_Reader__loom ?na_Reader__state ?na_Reader__arcs ?na_Reader__text ?na_Reader__told ?na_Reader__places ?kc_ReadError ?e1_ReadError ?e2_ReadError ?e3_ReadError ?e4_ReadError ?e5_ReadError ?e8_ReadError ?ty_ReadError ?in_ReadError ?kc_InvalidLoom ?e1_InvalidLoom ?e2_InvalidLoom ?e3_InvalidLoom ?e4_InvalidLoom ?e5_InvalidLoom ?e8_InvalidLoom ?ty_InvalidLoom ?xi_InvalidLoom ?tf_InvalidLoom ?sa_InvalidLoom ?no_InvalidLoom_part ?no_InvalidLoom_at ?kc_LimitExceeded ?e1_LimitExceeded ?e2_LimitExceeded ?e3_LimitExceeded ?e4_LimitExceeded ?e5_LimitExceeded ?e8_LimitExceeded ?ty_LimitExceeded ?xi_LimitExceeded ?tf_LimitExceeded ?sa_LimitExceeded ?no_LimitExceeded_limit ?kc_UnknownState ?e1_UnknownState ?e2_UnknownState ?e3_UnknownState ?e4_UnknownState ?e5_UnknownState ?e8_UnknownState ?ty_UnknownState ?in_UnknownState ?kc_InvalidText ?e1_InvalidText ?e2_InvalidText ?e3_InvalidText ?e4_InvalidText ?e5_InvalidText ?e8_InvalidText ?ty_InvalidText ?in_InvalidText ?e6 ?e7 ?ic_Loom ?ig ?it ?im_Loom ?si_InvalidLoom ?si_Loom ?sl_InvalidLoom ?st_InvalidLoom ?sl_Loom ?st_Loom ?cl_UnknownState ?cl_InvalidText ?cl_LimitExceeded ?cl_ReadError ?su_UnknownState_UnknownState ?su_UnknownState_InvalidText ?su_UnknownState_LimitExceeded ?sr_UnknownState ?su_InvalidText_UnknownState ?su_InvalidText_InvalidText ?su_InvalidText_LimitExceeded ?sr_InvalidText ?su_LimitExceeded_UnknownState ?su_LimitExceeded_InvalidText ?su_LimitExceeded_LimitExceeded ?sr_LimitExceeded ?nx_LimitExceeded_limit ?sx_Loom ?sx_InvalidText ?z_all ?z_bool ?z_enumerate ?z_int ?z_isinstance ?z_len ?z_list ?z_range ?z_reversed ?z_str ?z_sum ?z_tuple ?z_zip ?g_MOST_SIGNS ?g_LONGEST_WORD ?g_LONGEST_TEXT ?g_LAST_STATE ?g_MOST_READINGS ?g_MOST_ARCS
    (case a_CInvalidText => k_is)
    (case a_CUnknownState => k_is)
    (case a_CReadError => k_is)
    (case a_CTrail => k_is)
    (case a_CReader => k_is)
    (case a_CLoom => k_is)
    (case a_CLimitExceeded => k_is)
    (case a_CInvalidLoom => k_is)
    (case a__wall => k_is)
    (case l__wall => k_is)
    (case c__wall => k_is)
    (case k__wall => k_is)
    (case a_InvalidLoom_init => k_is)
    (case i_InvalidLoom_init => k_is)
    (case l_InvalidLoom_init => k_is)
    (case c_InvalidLoom_init => k_is)
    (case k_InvalidLoom_init => k_is)
    (case a_LimitExceeded_init => k_is)
    (case i_LimitExceeded_init => k_is)
    (case l_LimitExceeded_init => k_is)
    (case c_LimitExceeded_init => k_is)
    (case k_LimitExceeded_init => k_is)
    (case a_is_number => k_is)
    (case l_is_number => k_is)
    (case c_is_number => k_is)
    (case k_is_number => k_is)
    (case a_is_sequence => k_is)
    (case l_is_sequence => k_is)
    (case c_is_sequence => k_is)
    (case k_is_sequence => k_is)
    (case a_is_signs => k_is)
    (case l_is_signs => k_is)
    (case c_is_signs => k_is)
    (case k_is_signs => k_is)
    (case a_is_string_over => k_is)
    (case l_is_string_over => k_is)
    (case c_is_string_over => k_is)
    (case k_is_string_over => k_is)
    (case a_is_word => k_is)
    (case l_is_word => k_is)
    (case c_is_word => k_is)
    (case k_is_word => k_is)
    (case a_check_signs => k_is)
    (case l_check_signs => k_is)
    (case c_check_signs => k_is)
    (case k_check_signs => k_is)
    (case a_check_state => k_is)
    (case l_check_state => k_is)
    (case c_check_state => k_is)
    (case k_check_state => k_is)
    (case a_check_text => k_is)
    (case l_check_text => k_is)
    (case c_check_text => k_is)
    (case k_check_text => k_is)
    (case a_goes_on => k_is)
    (case l_goes_on => k_is)
    (case c_goes_on => k_is)
    (case k_goes_on => k_is)
    (case a_live_arcs => k_is)
    (case l_live_arcs => k_is)
    (case c_live_arcs => k_is)
    (case k_live_arcs => k_is)
    (case a_readings => k_is)
    (case l_readings => k_is)
    (case c_readings => k_is)
    (case k_readings => k_is)
    (case a_count => k_is)
    (case l_count => k_is)
    (case c_count => k_is)
    (case k_count => k_is)
    (case a_sure => k_is)
    (case l_sure => k_is)
    (case c_sure => k_is)
    (case k_sure => k_is)
    (case a_is_arc => k_is)
    (case l_is_arc => k_is)
    (case c_is_arc => k_is)
    (case k_is_arc => k_is)
    (case a_Loom_init => k_is)
    (case i_Loom_init => k_is)
    (case l_Loom_init => k_is)
    (case c_Loom_init => k_is)
    (case k_Loom_init => k_is)
    (case a_Loom_eq => k_is)
    (case l_Loom_eq => k_is)
    (case c_Loom_eq => k_is)
    (case k_Loom_eq => k_is)
    (case a_Trail_init => k_is)
    (case i_Trail_init => k_is)
    (case l_Trail_init => k_is)
    (case c_Trail_init => k_is)
    (case k_Trail_init => k_is)
    (case a_cut => k_is)
    (case l_cut => k_is)
    (case c_cut => k_is)
    (case k_cut => k_is)
    (case a_shared => k_is)
    (case l_shared => k_is)
    (case c_shared => k_is)
    (case k_shared => k_is)
    (case a_numbers_beyond => k_is)
    (case l_numbers_beyond => k_is)
    (case c_numbers_beyond => k_is)
    (case k_numbers_beyond => k_is)
    (case a_arcs_by_beginnings => k_is)
    (case l_arcs_by_beginnings => k_is)
    (case c_arcs_by_beginnings => k_is)
    (case k_arcs_by_beginnings => k_is)
    (case a_Reader_init => k_is)
    (case i_Reader_init => k_is)
    (case l_Reader_init => k_is)
    (case c_Reader_init => k_is)
    (case k_Reader_init => k_is)
    (case a_Reader_take => k_is)
    (case l_Reader_take => k_is)
    (case c_Reader_take => k_is)
    (case k_Reader_take => k_is)
    (case a_Reader_told => k_is)
    (case l_Reader_told => k_is)
    (case c_Reader_told => k_is)
    (case k_Reader_told => k_is)
    (case a_Reader_text => k_is)
    (case l_Reader_text => k_is)
    (case c_Reader_text => k_is)
    (case k_Reader_text => k_is)
    (case a_Reader_twin => k_is)
    (case l_Reader_twin => k_is)
    (case c_Reader_twin => k_is)
    (case k_Reader_twin => k_is)
    (case a_Reader__covers => k_is)
    (case l_Reader__covers => k_is)
    (case c_Reader__covers => k_is)
    (case k_Reader__covers => k_is)
    (case a_sure_trail => k_is)
    (case l_sure_trail => k_is)
    (case c_sure_trail => k_is)
    (case k_sure_trail => k_is)
    (case a_ends => k_is)
    (case l_ends => k_is)
    (case c_ends => k_is)
    (case k_ends => k_is)
    (case a_l_state => k_is)
    (case l_l_state => k_is)
    (case c_l_state => k_is)
    (case k_l_state => k_is)
    (case a_l_draw => k_is)
    (case l_l_draw => k_is)
    (case c_l_draw => k_is)
    (case k_l_draw => k_is)
    (case a_l_word => k_is)
    (case l_l_word => k_is)
    (case c_l_word => k_is)
    (case k_l_word => k_is)
    (case a_l_loom => k_is)
    (case l_l_loom => k_is)
    (case c_l_loom => k_is)
    (case k_l_loom => k_is)
    (case a_l_made => k_is)
    (case l_l_made => k_is)
    (case c_l_made => k_is)
    (case k_l_made => k_is)
    (case a_l_odd => k_is)
    (case l_l_odd => k_is)
    (case c_l_odd => k_is)
    (case k_l_odd => k_is)
    (case a_l_call => k_is)
    (case l_l_call => k_is)
    (case c_l_call => k_is)
    (case k_l_call => k_is)
    (case a_l_told => k_is)
    (case l_l_told => k_is)
    (case c_l_told => k_is)
    (case k_l_told => k_is)
    (case a_law => k_is)
    (case l_law => k_is)
    (case c_law => k_is)
    (case k_law => k_is)
    (case pg_Loom => k_is)
    (case hd_Loom => k_is)
    (case po_Loom => k_is)
    (case sa_Loom => k_is)
    (case mk_Loom => k_is)
    (case kc_Loom => k_is)
    (case na_Loom_signs => k_is)
    (case na_Loom_arcs => k_is)
    (case pg_Trail => k_is)
    (case hd_Trail => k_is)
    (case po_Trail => k_is)
    (case sa_Trail => k_is)
    (case mk_Trail => k_is)
    (case kc_Trail => k_is)
    (case na_Trail_ahead => k_is)
    (case na_Trail_number => k_is)
    (case na_Trail_many => k_is)
    (case na_Trail_jump => k_is)
    (case pg_Reader => k_is)
    (case hd_Reader => k_is)
    (case po_Reader => k_is)
    (case sa_Reader => k_is)
    (case mk_Reader => k_is)
    (case kc_Reader => k_is)
    (case na_Reader__loom => k_is)
    (case na_Reader__state => k_is)
    (case na_Reader__arcs => k_is)
    (case na_Reader__text => k_is)
    (case na_Reader__told => k_is)
    (case na_Reader__places => k_is)
    (case kc_ReadError => k_is)
    (case e1_ReadError => k_is)
    (case e2_ReadError => k_is)
    (case e3_ReadError => k_is)
    (case e4_ReadError => k_is)
    (case e5_ReadError => k_is)
    (case e8_ReadError => k_is)
    (case ty_ReadError => k_is)
    (case in_ReadError => k_exc)
    (case kc_InvalidLoom => k_is)
    (case e1_InvalidLoom => k_is)
    (case e2_InvalidLoom => k_is)
    (case e3_InvalidLoom => k_is)
    (case e4_InvalidLoom => k_is)
    (case e5_InvalidLoom => k_is)
    (case e8_InvalidLoom => k_is)
    (case ty_InvalidLoom => k_is)
    (case xi_InvalidLoom => k_is)
    (case tf_InvalidLoom => k_is)
    (case sa_InvalidLoom => k_is)
    (case no_InvalidLoom_part => k_is)
    (case no_InvalidLoom_at => k_is)
    (case kc_LimitExceeded => k_is)
    (case e1_LimitExceeded => k_is)
    (case e2_LimitExceeded => k_is)
    (case e3_LimitExceeded => k_is)
    (case e4_LimitExceeded => k_is)
    (case e5_LimitExceeded => k_is)
    (case e8_LimitExceeded => k_is)
    (case ty_LimitExceeded => k_is)
    (case xi_LimitExceeded => k_is)
    (case tf_LimitExceeded => k_is)
    (case sa_LimitExceeded => k_is)
    (case no_LimitExceeded_limit => k_is)
    (case kc_UnknownState => k_is)
    (case e1_UnknownState => k_is)
    (case e2_UnknownState => k_is)
    (case e3_UnknownState => k_is)
    (case e4_UnknownState => k_is)
    (case e5_UnknownState => k_is)
    (case e8_UnknownState => k_is)
    (case ty_UnknownState => k_is)
    (case in_UnknownState => k_exc)
    (case kc_InvalidText => k_is)
    (case e1_InvalidText => k_is)
    (case e2_InvalidText => k_is)
    (case e3_InvalidText => k_is)
    (case e4_InvalidText => k_is)
    (case e5_InvalidText => k_is)
    (case e8_InvalidText => k_is)
    (case ty_InvalidText => k_is)
    (case in_InvalidText => k_exc)
    (case e6 => k_is)
    (case e7 => k_is)
    (case ic_Loom => k_is)
    (case ig => k_is)
    (case it => k_is)
    (case im_Loom => k_is)
    (case si_InvalidLoom => k_is)
    (case si_Loom => k_is)
    (case sl_InvalidLoom => k_is)
    (case st_InvalidLoom => k_is)
    (case sl_Loom => k_is)
    (case st_Loom => k_is)
    (case cl_UnknownState => k_is)
    (case cl_InvalidText => k_is)
    (case cl_LimitExceeded => k_is)
    (case cl_ReadError => k_is)
    (case su_UnknownState_UnknownState => k_is)
    (case su_UnknownState_InvalidText => k_is)
    (case su_UnknownState_LimitExceeded => k_is)
    (case sr_UnknownState => k_is)
    (case su_InvalidText_UnknownState => k_is)
    (case su_InvalidText_InvalidText => k_is)
    (case su_InvalidText_LimitExceeded => k_is)
    (case sr_InvalidText => k_is)
    (case su_LimitExceeded_UnknownState => k_is)
    (case su_LimitExceeded_InvalidText => k_is)
    (case su_LimitExceeded_LimitExceeded => k_is)
    (case sr_LimitExceeded => k_is)
    (case nx_LimitExceeded_limit => k_is)
    (case sx_Loom => k_is)
    (case sx_InvalidText => k_is)
    (case z_all => k_is)
    (case z_bool => k_is)
    (case z_enumerate => k_is)
    (case z_int => k_is)
    (case z_isinstance => k_is)
    (case z_len => k_is)
    (case z_list => k_is)
    (case z_range => k_is)
    (case z_reversed => k_is)
    (case z_str => k_is)
    (case z_sum => k_is)
    (case z_tuple => k_is)
    (case z_zip => k_is)
    (case g_MOST_SIGNS => k_is)
    (case g_LONGEST_WORD => k_is)
    (case g_LONGEST_TEXT => k_is)
    (case g_LAST_STATE => k_is)
    (case g_MOST_READINGS => k_is)
    (case g_MOST_ARCS => k_is)

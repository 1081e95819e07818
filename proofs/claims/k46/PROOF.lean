import PyProof.Rows.All
import Wide.All
import OpenK.AllK
import Wide.FinOn
import HandS.ForMost
import HandS.Walk
import KE.GoesEnum
import HandS.ForExc
import HandS.ExcValue
import HandS.ExcIs
import HandS.ExcInit
import HandS.IsInst
import HandS.OwnEq
import HandS.More
import KE.KExcInit
import HandS.Defaults
import KE.KxIndex
import HandS.StrMore
import HandS.Conv
import HandS.Codes
import HandS.Style
import HandS.SortRule
import HandS.Replace
import KE.GoesMore
import PyProof.P3Eq
import PyProof.Rows.StrJoinRep
import PySem.Challenge.RW_onewayread_k46_books_of_lengths
set_option Elab.async false
set_option linter.all false
set_option maxRecDepth 100000
set_option maxHeartbeats 4000000
/-! enumerate of a tuple -/
namespace PySem
open Sem (wp)
open PySem.Spec PyProof.Rows
theorem meets_enumerate_newB1 {v : Value} {o : Obj} {H : Heap → Prop} (B : Begins v o H) :
    Meets (Builtin.«enumerate.__new__» ⟨[.type "enumerate", v], []⟩) (fun _ R s => H s.heap ∧
      R (.ok (.ret (.ref (s.heap.push o).objs.size))) { s with heap := (s.heap.push o).push { cls := .type "enumerate", data := .fields #[.none, .bool false, .ref s.heap.objs.size, rawInt 0, .none, .none] } }) :=
  .of_wp fun prog w A R s h => by
    obtain ⟨hp, g, d, tk, os⟩ := s; obtain ⟨h1, h⟩ := h
    have hsub := sub_enumerate
    have q1 : ∀ {A' : Around} {E : Value → Shared → Prop} {Q : Value → Shared → Prop}, Q (.ref hp.objs.size) ⟨hp.push o, g, d, tk, os⟩ → wpAny (model prog w) A' (pyIter v) Q E ⟨hp, g, d, tk, os⟩ :=
      fun q => B.iter prog w _ _ ⟨hp, g, d, tk, os⟩ _ h1 q
    wp_walk using q1
    refine wpAny_stack_any fun st => wpAny_pure ?_
    split
    · rename_i c _ _ _ _ _
      cases (c == Value.type "enumerate")
      · wp_walk using q1
        exact ⟨_, rfl, h⟩
      · wp_walk using q1
        exact ⟨_, rfl, h⟩
    · wp_walk using q1
      exact ⟨_, rfl, h⟩
section
variable {prog : Program} {w : World} {A : Around} {E : Value → Shared → Prop} {s : Shared}
theorem enum_begins1 {v : Value} {o : Obj} {H : Heap → Prop} {Q : Value → Shared → Prop} (B : Begins v o H) (h1 : H s.heap)
    (h : ∀ h', IsEnum h' (s.heap.objs.size + 1) s.heap.objs.size 0 .none → h'.get? s.heap.objs.size = some o → h'.objs.size = s.heap.objs.size + 2 →
      (∀ b o, s.heap.get? b = some o → h'.get? b = some o) → Q (.ref (s.heap.objs.size + 1)) { s with heap := h' }) :
    wpAny (model prog w) A (call (.type "enumerate") [v]) Q E s := by
  refine callType_new F.called_enumerate (by decide) (F.typeCall_enumerate_1 _) (F.newCall_enumerate_1 _) (fun obj => F.args_object_init_2 obj _) F.entry_enumerate_new
    (meets_enumerate_newB1 B) ⟨h1, ?_⟩
  have hz : (s.heap.push o).objs.size = s.heap.objs.size + 1 := Heap.size_push ..
  show _ ∧ _
  rw [hz]
  have he : IsEnum ((s.heap.push o).push { cls := .type "enumerate", data := .fields #[.none, .bool false, .ref s.heap.objs.size, rawInt 0, .none, .none] }) (s.heap.objs.size + 1) s.heap.objs.size 0 .none := by
    have := Heap.get?_push_size (s.heap.push o) (o := { cls := .type "enumerate", data := .fields #[.none, .bool false, .ref s.heap.objs.size, rawInt 0, .none, .none] }) rfl
    rw [hz] at this; exact this
  refine ⟨⟨_, he, rfl⟩, h _ he (Heap.get?_push_of_some _ (Heap.get?_push_size _ B.free)) (by rw [Heap.size_push, hz]) fun b o x => Heap.get?_push_of_some _ (Heap.get?_push_of_some _ x)⟩
end
end PySem
namespace L2
open PySem PySem.Spec PyProof.Rows
/-- the tuple at a, each item in a new pair -/
def IteT (K : PySem.W.Frag) (a : Addr) : It :=
  ⟨fun i H => ∃ (xs : List V) (x : V), SqT K H a xs ∧ xs[i]? = some x, fun i H v H' => ∃ T x, v = .ref T ∧ H T = none ∧ H' = upd H T (.tup [.int (i : Nat), x]) ∧ ∀ xs, SqT K H a xs → xs[i]? = some x, fun i H => ∃ xs : List V, SqT K H a xs ∧ xs.length = i⟩
theorem turn_enumT {P : Program} {w : World} {K : PySem.W.Frag} {elts : List Expr} {kk : Nat} {tpos : Pos} (a e it : Addr) (hn : e ≠ it) (hae : a ≠ e) (hai : a ≠ it) :
    Turn P w K (.Tuple elts kk tpos) (IteT K a) [e, it] e (fun i h => (∃ old, IsEnum h e it ((i : Nat) : Int) old) ∧ h.IsTupleIter it a i) where
  mem := by simp
  obj := fun i h st b hb => by
    obtain ⟨⟨old, he⟩, ⟨o, ho, hc, hd⟩⟩ := st
    have e' : b = e ∨ b = it := by simpa using hb
    rcases e' with z | z
    · rw [z]; exact ⟨_, he, fun v q => nomatch q⟩
    · rw [z]; exact ⟨o, ho, fun v q => by rw [hd] at q; cases q⟩
  keep := fun i h h' st k => by
    obtain ⟨⟨old, he⟩, ⟨o, ho, r⟩⟩ := st
    exact ⟨⟨old, k e (by simp) _ he⟩, ⟨o, k it (by simp) _ ho, r⟩⟩
  item := by
    intro X hP hw hK hc i pins s σ H E I hf st hg
    subst hP hw hK
    obtain ⟨⟨old, he⟩, hit⟩ := st
    obtain ⟨xs, x, hq, hx⟩ := hg
    obtain ⟨its, rv, p, hz⟩ := I.tuple hq
    obtain ⟨u, hu, ru⟩ := rv.get hx
    have hel : e < s.heap.objs.size := Heap.lt_size he
    have hil : it < s.heap.objs.size := by obtain ⟨_, q, _⟩ := hit; exact Heap.lt_size q
    have hlt : i < its.toArray.size := by
      have q := (List.getElem?_eq_some_iff.mp hu).1
      simpa using q
    refine wpAny_pyNext_enum_itemD (Draws.tuple (A := X.A.in1) (I.ok.hd hc) it a hai its.toArray) he ⟨hit, p⟩ hlt hn (by simp [hn]; exact fun z => hae z.symm) fun y h' tk hy ho hst hT hsz hk => ?_
    have hyu : y = u := by
      have q : its.toArray[i]? = some y := hy
      have q2 : its.toArray[i]? = some u := by simpa using hu
      rw [q] at q2
      exact Option.some.inj q2
    subst hyu
    refine ⟨_, rfl, wpAny_letOwnedTupleGo_enum (s := { s with heap := h', toks := tk + 1 }) ho fun h'' he' sb => ?_⟩
    have hT2 : h''.get? s.heap.objs.size = some { cls := .type "tuple", data := .seq #[.int i tk, y] } := (sb.2 _ (Nat.ne_of_gt hel)).trans hT
    have new : ObjOk X.prog X.w (upd H s.heap.objs.size (.tup [.int (i : Nat), x])) h'' s.heap.objs.size (.tup [.int (i : Nat), x]) :=
      ⟨by show 2 ≤ sizeLine; decide, [.int i tk, y], .cons ⟨_, rfl⟩ (.cons ru .nil), ⟨_, hT2, rfl, _, rfl⟩⟩
    have I1 : Inv X pins σ (upd H s.heap.objs.size (.tup [.int (i : Nat), x])) { s with heap := h'', toks := tk + 1 } :=
      I.turnedNew (ch := [e, it]) (fun b ob hb q => (sb.2 b (fun z => hb (by simp [z]))).trans (hk b ob (fun z => hb (by simp [z])) (fun z => hb (by simp [z])) q)) hf (Nat.le_refl _) new
    obtain ⟨oi, hoi, ri⟩ := hst.1
    refine ⟨.ref s.heap.objs.size, _, I1, rfl, ⟨_, x, rfl, I.hok.fresh (Nat.le_refl _), rfl, fun ys hy => by rw [I.tuple_inj hy hq]; exact hx⟩, ⟨⟨y, ?_⟩, ⟨oi, (sb.2 it (Ne.symm hn)).trans hoi, ri⟩⟩, fun b hb => ?_⟩
    · have e1 : ((i + 1 : Nat) : Int) = (i : Int) + 1 := by omega
      rw [e1]; exact he'
    · have hb' : b < s.heap.objs.size := by
        have e' : b = e ∨ b = it := by simpa using hb
        rcases e' with z | z
        · rw [z]; exact hel
        · rw [z]; exact hil
      rw [upd_ne (Nat.ne_of_lt hb')]
      exact (hf b hb).1
  done := by
    intro X hP hw hK hc i pins s σ H E I hf st hg
    subst hP hw hK
    obtain ⟨⟨old, he⟩, hit⟩ := st
    obtain ⟨xs, hq, hx⟩ := hg
    obtain ⟨its, rv, p, hz⟩ := I.tuple hq
    obtain ⟨f0, f1, f2, f3, f4, f5⟩ := hf it (by simp)
    have hl := rv.length
    have hn' : i = its.toArray.size := by simp; omega
    subst hn'
    exact wpAny_pyNext_enum_endD (Draws.tuple (A := X.A.in1) (I.ok.hd hc) it a hai its.toArray) he ⟨hit, p⟩ fun h' eb => ⟨rfl, I.turned (t' := s.toks) (fun b o hb q => eb b o hb q) f0 f1 f3 f4 f5⟩
  self := fun A i s Q E st h => let ⟨⟨_, he⟩, _⟩ := st; wpAny_pyIter_enum he h
def iEnumT (K : PySem.W.Frag) (ta : TA) : TI := fun σ H R => ta σ H fun vs H1 => ∃ a xs, vs = [.ref a] ∧ SqT K H1 a xs ∧ R (IteT K a) H1
theorem pi_enumT {X : Cx} {e : Expr} {ta : TA} {p pos tpos : Pos} {elts : List Expr} {kk : Nat} (hg : Gl X "enumerate") (hm : X.mg "enumerate" = none) (ha : PA X [e] ta) (hs : starEach [e] X.env = [(false, eval e X.env)] := by rfl) :
    PI X (.Tuple elts kk tpos) (.Call (.Name "enumerate" p) [e] [] pos) (iEnumT X.K ta) := by
  refine ⟨fun pins s σ H R I h => ?_⟩
  refine Call_ (ld_blt I hg hm boot_enumerate (PyProof.Rows.callWith_type1 (thn (ha.run pos pins s σ H _ I h) fun us s1 ⟨vs, H1, I1, r1, q1⟩ => ?_) hs rfl))
  obtain ⟨a, xs, ex, hq, q⟩ := q1
  subst ex
  cases r1 with
  | cons r rr =>
    cases rr
    cases r
    obtain ⟨its, rv, p', hz⟩ := I1.tuple hq
    have hal : a < s1.heap.objs.size := by obtain ⟨_, q, _⟩ := p'; exact Heap.lt_size q
    refine enum_begins1 (begins_tuple a its.toArray) (show s1.heap.IsTuple a its.toArray from p') fun h' he hit hsz hk => wpAny_pyIter_enum he ?_
    have I2 : Inv X pins σ H1 { s1 with heap := h' } := I1.kept (t' := s1.toks) hk
    refine ⟨s1.heap.objs.size + 1, [s1.heap.objs.size + 1, s1.heap.objs.size], _, _, H1, rfl, I2, turn_enumT a (s1.heap.objs.size + 1) s1.heap.objs.size (Nat.succ_ne_self _) (Nat.ne_of_lt (Nat.lt_succ_of_lt hal)) (Nat.ne_of_lt hal), ⟨⟨.none, he⟩, ⟨_, hit, rfl, rfl⟩⟩, fun b hb => ?_, q⟩
    have e' : b = s1.heap.objs.size + 1 ∨ b = s1.heap.objs.size := by simpa using hb
    have hle : s1.heap.objs.size ≤ b := by
      rcases e' with z | z
      · rw [z]; exact Nat.le_add_right _ _
      · rw [z]; exact Nat.le_refl _
    exact I1.fpOk hle (I1.hok.fresh hle)
theorem walk_enumT {K : PySem.W.Frag} {a : Addr} {xs : List V} : Walk (IteT K a) xs.length (fun H => SqT K H a xs) (YPair (fun i => some (.int (i : Nat))) (fun i => xs[i]?)) :=
by
  refine ⟨fun i _ hi q => ⟨xs, xs[i], q, by simp [hi]⟩, fun _ q => ⟨xs, q, rfl⟩, fun i H v H' _ q y => ?_⟩
  obtain ⟨T, x, h1, h2, h3, h4⟩ := y
  exact ⟨T, .int (i : Nat), x, h1, h2, h3, rfl, h4 xs q⟩
end L2

set_option Elab.async false
set_option linter.all false
set_option maxRecDepth 100000
set_option maxHeartbeats 4000000
/-! own exceptions without arguments: raised, and as values -/
namespace L2
open PySem PySem.Spec PyProof.Rows
section
variable {X : Cx} {C : Addr} {bmB : List Value} {B newId initId : String}
theorem pmk_own0 {x : Str} {p pos : Pos} (F : ExcBaseFacts B newId initId bmB) (q : PySem.W.excIn X.K C bmB newId = true) (gC : X.mg x = some (.ref C)) (kC : PySem.W.keepIn X.K (.ref C) = true) (r : Raises X (.ref C)) (hg : Gl X x)
    (hdb : (x == ("__debug__" : Str)) = false := by decide) : PMk X (.Call (.Name x p) [] [] pos) (fun _ H Q => Q (.ref C) none H) := by
  intro pins s σ H Q I h
  refine wpAny_Call_Name_kw (ld_glob I hg gC ?_ hdb)
  refine PySem.W.callWith_K0 I.kIn kC ?_
  obtain ⟨bm, N, nm, qn, bs, hdct, sn, sub, ab, col, dd, k0, k1, k2, k3, k5, mN, hC, hN, hni, T⟩ := exc_obj I.kIn q
  refine wpAny_call_exc_subT F T hC hN hni (fun h' e hm => ?_) (by show 0 ≤ sizeLine; exact Nat.zero_le _)
  exact mk_of I hm r h (I.hok.gone hm.new)
/-- X(), as a value -/
theorem pe_exc0 {x : Str} {p pos : Pos} (F : ExcBaseFacts B newId initId bmB) (q : PySem.W.excIn X.K C bmB newId = true) (gC : X.mg x = some (.ref C)) (kC : PySem.W.keepIn X.K (.ref C) = true) (hg : Gl X x)
    (hdb : (x == ("__debug__" : Str)) = false := by decide) : PE X (.Call (.Name x p) [] [] pos) (fun σ H Q => ∀ a, H a = none → Q (.ref a) (upd H a (ExO (.ref C) a))) := by
  refine ⟨fun pins s σ H Q I h => ?_⟩
  refine wpAny_Call_Name_kw (ld_glob I hg gC ?_ hdb)
  refine PySem.W.callWith_K0 I.kIn kC ?_
  obtain ⟨bm, N, nm, qn, bs, hdct, sn, sub, ab, col, dd, k0, k1, k2, k3, k5, mN, hC, hN, hni, T⟩ := exc_obj I.kIn q
  refine wpAny_call_exc_subT F T hC hN hni (fun h' a hm => ?_) (by show 0 ≤ sizeLine; exact Nat.zero_le _)
  have hn : H a = none := I.hok.gone hm.new
  obtain ⟨t, ht, _, _⟩ := hm.there
  exact ⟨.ref a, upd H a (ExO (.ref C) a), I.laidN hm.keeps hm.new hn (exO_ok ht ⟨rfl, rfl⟩ rfl rfl rfl (show 4 < 6 by decide)), rfl, h a hn⟩
end
end L2

set_option Elab.async false
set_option linter.all false
set_option maxRecDepth 100000
set_option maxHeartbeats 4000000
/-! own exceptions with an __init__ of their own that stores its arguments, over Exception: the stores -/
namespace PySem
namespace ExX
open Builtin Builtin.ObjectAttr PySem.W PySem.Calls PyProof.Rows PySem.HandSPX
abbrev exTail : List Value := [.type "Exception", .type "BaseException", .type "object"]
/-- own classes, then Exception's mro -/
def refsEX : List Value → Bool
  | .ref _ :: r => refsEX r
  | l => l == exTail
theorem refsEX_cases : ∀ l : List Value, refsEX l = true → (∃ c r, l = .ref c :: r ∧ refsEX r = true) ∨ l = exTail := by
  intro l e
  unfold refsEX at e
  split at e
  · exact .inl ⟨_, _, rfl, e⟩
  · exact .inr (beq_iff_eq.mp e)
theorem refsEX_pass (self : Value) : ∀ l : List Value, refsEX l = true → refuseLoop self "__setattr__" l = pure () := by
  intro l
  induction l with
  | nil => intro e; exact absurd e (by decide)
  | cons a r ih =>
    intro e
    rcases refsEX_cases (a :: r) e with ⟨c, r', q, h⟩ | q
    · obtain ⟨rfl, rfl⟩ := List.cons.inj q
      rw [refuseLoop_ref]; exact ih h
    · rw [q]; exact F.store_Exception.passes self
theorem refsEX_contains (X : String) : ∀ l : List Value, refsEX l = true → l.contains (.type X) = exTail.contains (.type X) := by
  intro l
  induction l with
  | nil => intro e; exact absurd e (by decide)
  | cons a r ih =>
    intro e
    rcases refsEX_cases (a :: r) e with ⟨c, r', q, h⟩ | q
    · obtain ⟨rfl, rfl⟩ := List.cons.inj q
      rw [List.contains_cons, ih h]; rfl
    · rw [q]
theorem refsEX_ne {l : List Value} (e : refsEX l = true) : l.isEmpty = false := by
  cases l with
  | nil => exact absurd e (by decide)
  | cons _ _ => rfl
section
variable {prog : Program} {w : World} {A : Around} {E : Value → Shared → Prop} {R : Result → Shared → Prop} {hp : Heap} {g : Array GenState} {d : Drawn} {t : Nat} {os : OsState}
theorem osa_new {K : W.Frag} {name : Str} {tk : Tok} {v : Value} {x C : Addr} {fv : Array Value} {cd : ClassData}
    (X : K.In hp) (hx : hp.get? x = some { cls := .ref C, data := .fields fv }) (hcd : W.clsIn K C = some cd) (hm : refsEX cd.mro = true) (hh : cd.hasDict = true) (ha : W.findIn K (.ref C) name = some none)
    (hq : ∀ h' tk' dx, (∀ b o, b ≠ x → hp.get? b = some o → h'.get? b = some o) → hp.objs.size ≤ dx → dx ≠ x → h'.get? x = some { cls := .ref C, dict := some dx, data := .fields fv } →
      h'.Ns1 dx (fun y => if y = name then some v else none) → R (.ok (.ret .none)) ⟨h', g, d, tk', os⟩) :
    codeAny (model prog w) A (.call (.builtin "object.__setattr__") ⟨[.ref x, .str name tk, v], []⟩) R ⟨hp, g, d, t, os⟩ := by
  have I : W.InstAt hp x { cls := .ref C, data := .fields fv } C none := ⟨hx, rfl, rfl, trivial⟩
  have SF := F.store_object
  have ne := refsEX_ne hm
  have hob : cd.mro.contains (.type "object") = true := (refsEX_contains "object" _ hm).trans (by decide +kernel)
  have hxs : x ≠ hp.objs.size := Nat.ne_of_lt (Heap.lt_size hx)
  have sub : W.Looks (model prog w) hp (isInstance (.ref x) (.type "object")) true := I.type.andThen (W.looks_mroIn X (by unfold W.mroIn; rw [hcd, Option.bind_some, if_neg (by rw [ne]; decide), hob]))
  refine codeAny_call_builtin SF.slot.plain SF.entry (@W.check_slot (model prog w) _ _ ⟨hp, g, d, t, os⟩ "object.__setattr__" "object" "__setattr__" (.ref x) [.str name tk, v] [] _ SF.kind SF.split sub (SF.args (.ref x) (.str name tk) v) ?_)
  have hmr : W.Looks (model prog w) hp (mroOf (.ref C)) cd.mro := (W.looks_clsIn X hcd).andThen .now
  have L3 : W.Looks (model prog w) hp (storeTaker? none) none := .now
  have hcls : W.Looks (model prog w) hp (classData C) cd := W.looks_clsIn X hcd
  rw [W.osa_eq, refuse_eq]
  refine wpAny_bind (wpAny_bind (I.type.at (wpAny_bind (hmr.at ?_))))
  rw [refsEX_pass _ _ hm]
  refine wpAny_pure (wpAny_bind (I.type.at (wpAny_bind ((W.looks_findIn X ha).at (wpAny_bind (L3.at ?_))))))
  show wpAny _ _ (storeInOwnDict (.ref x) (.ref C) (.str name tk) name v false) _ _ _
  obtain ⟨nm, bs, mro, ns, qn, hd, sn, sb, ab, col, del⟩ := cd
  dsimp only at hh
  subst hh
  unfold storeInOwnDict ownDictForStores
  repeat (first | with_reducible refine store_in_new ?_ ?_ | with_reducible refine wpAny_loadPart_at hx ?_ | with_reducible refine hcls.at ?_ | wp_step)
  · exact ⟨_, #[], _, (Heap.get?_update_ne _ _ _ _ hxs.symm).trans (Heap.get?_push_at rfl rfl), rfl, fun e he => absurd he (by simp), fun _ => rfl⟩
  · intro h' tk' hn' hs
    have hx₁ : (hp.push { cls := .type "dict", data := .dict #[] }).get? x = some { cls := .ref C, data := .fields fv } := Heap.get?_push_of_some _ hx
    refine hq h' tk' hp.objs.size (fun b o hb ho => ?_) (Nat.le_refl _) hxs.symm ?_ hn'
    · exact (hs.2 b (Nat.ne_of_lt (Heap.lt_size ho))).trans ((Heap.get?_update_ne _ _ _ _ hb).trans (Heap.get?_push_of_some _ ho))
    · exact (hs.2 x hxs).trans (Heap.get?_update_self _ hx₁ rfl)
theorem osa_old {K : W.Frag} {name : Str} {tk : Tok} {v : Value} {x C dx : Addr} {fv : Array Value} {cd : ClassData} {m0 : Str → Option Value} {nl : List Str}
    (X : K.In hp) (hx : hp.get? x = some { cls := .ref C, dict := some dx, data := .fields fv }) (hns : hp.Ns1 dx m0) (hw : Within m0 nl) (hz : nl.length ≤ 1000) (hcd : W.clsIn K C = some cd) (hm : refsEX cd.mro = true) (hh : cd.hasDict = true)
    (ha : W.findIn K (.ref C) name = some none)
    (hq : ∀ h' tk', (∀ b o, b ≠ dx → hp.get? b = some o → h'.get? b = some o) → h'.Ns1 dx (fun y => if y = name then some v else m0 y) → R (.ok (.ret .none)) ⟨h', g, d, tk', os⟩) :
    codeAny (model prog w) A (.call (.builtin "object.__setattr__") ⟨[.ref x, .str name tk, v], []⟩) R ⟨hp, g, d, t, os⟩ := by
  obtain ⟨oD, esD, epD, hoD, hdD, _⟩ := hns.count hw
  have I : W.InstAt hp x { cls := .ref C, dict := some dx, data := .fields fv } C (some oD) := ⟨hx, rfl, rfl, hoD⟩
  have SF := F.store_object
  have ne := refsEX_ne hm
  have hob : cd.mro.contains (.type "object") = true := (refsEX_contains "object" _ hm).trans (by decide +kernel)
  have sub : W.Looks (model prog w) hp (isInstance (.ref x) (.type "object")) true := I.type.andThen (W.looks_mroIn X (by unfold W.mroIn; rw [hcd, Option.bind_some, if_neg (by rw [ne]; decide), hob]))
  refine codeAny_call_builtin SF.slot.plain SF.entry (@W.check_slot (model prog w) _ _ ⟨hp, g, d, t, os⟩ "object.__setattr__" "object" "__setattr__" (.ref x) [.str name tk, v] [] _ SF.kind SF.split sub (SF.args (.ref x) (.str name tk) v) ?_)
  have hmr : W.Looks (model prog w) hp (mroOf (.ref C)) cd.mro := (W.looks_clsIn X hcd).andThen .now
  have L3 : W.Looks (model prog w) hp (storeTaker? none) none := .now
  have hcls : W.Looks (model prog w) hp (classData C) cd := W.looks_clsIn X hcd
  rw [W.osa_eq, refuse_eq]
  refine wpAny_bind (wpAny_bind (I.type.at (wpAny_bind (hmr.at ?_))))
  rw [refsEX_pass _ _ hm]
  refine wpAny_pure (wpAny_bind (I.type.at (wpAny_bind ((W.looks_findIn X ha).at (wpAny_bind (L3.at ?_))))))
  show wpAny _ _ (storeInOwnDict (.ref x) (.ref C) (.str name tk) name v false) _ _ _
  obtain ⟨nm, bs, mro, ns, qn, hd, sn, sb, ab, col, del⟩ := cd
  dsimp only at hh
  subst hh
  unfold storeInOwnDict ownDictForStores
  repeat (first | with_reducible refine PySem.OEX.store_in_old hns hw hz ?_ | with_reducible refine wpAny_loadPart_at hx ?_ | with_reducible refine hcls.at ?_ | wp_step)
  intro h' tk' hn' hs
  exact hq h' tk' (fun b o hb ho => (hs.2 b hb).trans ho) hn'
end
end ExX
end PySem

set_option Elab.async false
set_option linter.all false
set_option maxRecDepth 100000
set_option maxHeartbeats 4000000
namespace PySem
namespace ExX
open PySem.W PySem.Calls PyProof.Rows PySem.HandSPX
/-- what the written part says of an own exception class, at C, over Exception, and of its __init__, at fI -/
structure ExcT (K : W.Frag) (mg : Str → Option Value) (C fI : Addr) (cn : Str) (fs : List Str) (qual : Str) (st : Stmt) : Prop where
  gC : mg cn = some (.ref C)
  cls : ∃ nm q N bs bm sn sub ab col dd k0 k1 k2 k3 k5, K.lookup C = some (excClassObj nm q C N bs bm true sn sub ab col dd k0 k1 k2 k3 k5 "Exception.__new__") ∧ refsEX bm = true
  sa : findIn K (.ref C) "__setattr__" = some (some (.builtin "object.__setattr__"))
  ga : findIn K (.ref C) "__getattribute__" = some (some (.builtin "BaseException.__getattribute__"))
  gg : findIn K (.ref C) "__getattr__" = some none
  no : ∀ f ∈ fs, findIn K (.ref C) f = some none
  iC : findIn K (.ref C) "__init__" = some (some (.ref fI))
  tC : typeIn K (.ref fI) = some (.type "function")
  kC : keepIn K (.ref C) = true
  exC : subIn K (.ref C) (.type "BaseException") = some true
  tyC : typeIn K (.ref C) = some (.type "type")
  hdC : hasDictIn K C = true
  fn : ∃ (oc : Value) (od : Option Addr) (kV doc pm : Value) (an : Option Addr) (cdv ct : Value) (osl : Array (Option Value)),
    K.lookup fI = some ⟨oc, od, .func (fnOf "__init__" qual (L2.defArgs st) (L2.defBody st) (L2.defScope st) .none kV doc pm an cdv ct), osl⟩ ∧ codeIn K cdv qual = true
theorem ldC {M : Model} {s : Shared} {name : Str} {scope : Scope} {L a : Addr} {cd : Value} {m : Str → Option Value} {x : Str} {pos : Pos} {v : Value} {Q : Value → Shared → Prop} {A : Around} {E : Value → Shared → Prop} (hn : s.heap.Ns L m) (hv : m x = some v) (h : Q v s)
    (hk : scope.kind = .function := by rfl) (hl : (envOfC name scope L a cd).kindOf x = some .local := by rfl) (hd : (x == ("__debug__" : Str)) = false := by decide) :
    wpAny M A (eval (.Name x pos) (envOfC name scope L a cd)) Q E s := wpAny_Name (wpAny_loadName_local hk hl hn hv h) hd
end ExX
end PySem
namespace PySem
namespace ExX
open PySem.W PySem.Calls PyProof.Rows PySem.HandSPX
/-- a made exception of the class at C: itself at e, its dict at d, the fields m -/
structure OwnMade (h h' : Heap) (e C d : Addr) (m : Str → Option Value) : Prop where
  keep : ∀ b o, h.get? b = some o → h'.get? b = some o
  new : h.objs.size ≤ e
  obj : ∃ oe vs, h'.get? e = some oe ∧ oe.cls = .ref C ∧ oe.dict = some d ∧ oe.data = .fields vs ∧ vs[1]? = some .none
  dbig : h.objs.size ≤ d
  dne : d ≠ e
  ns : h'.Ns1 d m
end ExX
end PySem
namespace L2
open PySem PySem.Spec PyProof.Rows PySem.ExX
/-- an exception object of the class at C, its own dict at d, not raised -/
def ExD (C d e : Addr) : HO := .ext fun h => ∃ (oe : Obj) (vs : Array Value), h.get? e = some oe ∧ Zc (.ref C) (some d) oe ∧ oe.data = .fields vs ∧ vs[1]? = some .none
theorem exD_ok {P : Program} {w : World} {H : Hp} {h : Heap} {C d e : Addr} {oe : Obj} {vs : Array Value} (he : h.get? e = some oe) (z : Zc (.ref C) (some d) oe) (hd : oe.data = .fields vs) (h1 : vs[1]? = some .none) : ObjOk P w H h e (ExD C d e) :=
  ⟨⟨oe, vs, he, z, hd, h1⟩, ⟨oe, he⟩, fun _ _ ⟨o, v, q, r⟩ k => ⟨o, v, k o q, r⟩⟩
section
variable {X : Cx} {pins : List (Addr × Obj)} {σ : St} {H : Hp} {hp h' : Heap} {g : Array GenState} {dr : Drawn} {tk tk' : Nat} {os : OsState} {e C d : Addr} {m : Str → Option Value} {fs : List (Str × V)}
/-- the heap without the exception itself: its dict laid -/
theorem own_split (I : Inv X pins σ H ⟨hp, g, dr, tk, os⟩) (M : OwnMade hp h' e C d m) (rel : ∀ f, RelO (fs.lookup f) (m f)) :
    ∃ G' : Heap, (∀ b o, G'.get? b = some o → h'.get? b = some o) ∧ G'.get? e = none ∧ Inv X pins σ (upd H d (.xd fs)) ⟨G', g, dr, tk', os⟩ := by
  have hns := M.ns
  obtain ⟨G', g1, g2⟩ := restrict h' fun b => decide (b ≠ e)
  have gk : ∀ b, b ≠ e → G'.get? b = h'.get? b := fun b hb => g1 b (decide_eq_true hb)
  have ge : G'.get? e = none := g2 e (by simp)
  have old : ∀ b o, hp.get? b = some o → G'.get? b = some o := fun b o q => (gk b (Nat.ne_of_lt (Nat.lt_of_lt_of_le (Heap.lt_size q) M.new))).trans (M.keep b o q)
  have ob : ObjOk X.prog X.w (upd H d (.xd fs)) G' d (.xd fs) := ⟨_, hns.at (fun o q => (gk d M.dne).trans q), fun f => rel f⟩
  have J : Inv X pins σ (upd H d (.xd fs)) ⟨G', g, dr, tk', os⟩ := I.laid (t' := tk') old M.dbig ob
  refine ⟨G', fun b o q => ?_, ge, J⟩
  by_cases hb : b = e
  · rw [hb, ge] at q; cases q
  · exact (gk b hb).symm.trans q
theorem own_value (I : Inv X pins σ H ⟨hp, g, dr, tk, os⟩) (M : OwnMade hp h' e C d m) (rel : ∀ f, RelO (fs.lookup f) (m f)) :
    Inv X pins σ (upd (upd H d (.xd fs)) e (ExD C d e)) ⟨h', g, dr, tk', os⟩ := by
  obtain ⟨G', k, ge, J⟩ := own_split (tk' := tk') I M rel
  obtain ⟨oe, vs, hoe, hc, hd, hdat, h1⟩ := M.obj
  have hn : upd H d (.xd fs) e = none := by
    rw [upd_ne (Ne.symm M.dne)]
    exact I.hok.fresh M.new
  exact J.laidN k ge hn (exD_ok hoe ⟨hc, hd⟩ hdat h1)
theorem own_raise {Q : XK} (I : Inv X pins σ H ⟨hp, g, dr, tk, os⟩) (M : OwnMade hp h' e C d m) (rel : ∀ f, RelO (fs.lookup f) (m f)) (r : Raises X (.ref C)) (q : ∀ d, H d = none → Q (.ref C) (some d) (upd H d (.xd fs))) :
    MkP X pins σ Q (.ref e) ⟨h', g, dr, tk', os⟩ := by
  obtain ⟨G', k, ge, J⟩ := own_split (tk' := tk') I M rel
  obtain ⟨oe, vs, hoe, hc, hd, hdat, h1⟩ := M.obj
  refine ⟨e, oe, vs, ⟨G', g, dr, tk', os⟩, _, .ref C, some d, rfl, J, k, ge, hoe, ⟨hc, hd⟩, hdat, h1, ?_, rfl, I.bare, r, q d (I.hok.fresh M.dbig)⟩
  rw [upd_ne (Ne.symm M.dne)]
  exact I.hok.fresh M.new
end
end L2

set_option Elab.async false
set_option linter.all false
set_option maxRecDepth 100000
set_option maxHeartbeats 4000000
/-! isinstance of exception objects that are values, whatever own dict they have -/
namespace PySem.W
open PySem PySem.Spec PySem.Calls PyProof.Rows
section
variable {prog : Program} {w : World} {A : Around} {E : Value → Shared → Prop} {s : Shared} {K : Frag} {x D : Addr} {ox : Obj} {od : Option Obj}
theorem findObj_dataZ {C : Addr} {name : Str} {a g : Value} (hc : (clsIn K C).isSome = true) (ha : findIn K (.ref C) name = some (some a)) (hg : specialIn K a "__get__" = some (some g)) (ht : takesIn K a = some true) : findObj K C od name = some (.bind g a) := by
  obtain ⟨cd, hc⟩ := Option.isSome_iff_exists.mp hc
  unfold findObj
  rw [hc, Option.bind_some, ha, Option.bind_some]
  simp [hg, ht]
theorem kin_classZ {Q : Option Value → Shared → Prop} (hga : findIn K (.ref D) "__getattribute__" = some (some (.builtin "BaseException.__getattribute__"))) (hgt : findIn K (.ref D) "__getattr__" = some none) (hsub : subIn K (.ref D) (.type "BaseException") = some true)
    (hdct : hasDictIn K D = true) (ha : findIn K (.ref D) "__class__" = some (some (.builtin "object.__class__")))
    (hn : specialIn K (.builtin "object.__class__") "__get__" = some (some (.builtin "getset_descriptor.__get__"))) (htk : takesIn K (.builtin "object.__class__") = some true) (hm : mroIn K D (.type "object") = some true)
    (X : K.In s.heap) (I : InstAt s.heap x ox D od) (h : Q (some (.ref D)) { s with toks := s.toks + 1 }) : wpAny (model prog w) A (getAttr? (.ref x) "__class__") Q E s := by
  have hf : findObj K D od "__class__" = some (.bind (.builtin "getset_descriptor.__get__") (.builtin "object.__class__")) := findObj_dataZ (by obtain ⟨cd, hc, _⟩ := any_some hdct; rw [hc]; rfl) ha hn htk
  obtain ⟨hp, g, d, t, os⟩ := s
  have L0 := I.type (M := model prog w)
  have L1 := looks_findIn (M := model prog w) X hga
  have L2 := looks_findIn (M := model prog w) X hgt
  have L3 := looks_find (M := model prog w) X I hf
  have sub : Looks (model prog w) hp (isInstance (.ref x) (.type "BaseException")) true := L0.andThen (looks_subIn X hsub)
  have hx0 : (false && onTheHeap (Value.builtin "BaseException.__getattribute__")) = false := rfl
  have hx2 : (Value.builtin "BaseException.__getattribute__" == Value.builtin "object.__getattribute__") = false := by decide +kernel
  have hx1 : (onTheHeap (Value.ref D) && Value.builtin "BaseException.__getattribute__" == Value.builtin "object.__getattribute__") = false := by rw [hx2]; rfl
  unfold getAttr? getAttrBy? getAttrBy
  refine wpAny_bind (wpAny_mkText (wpAny_bind (wpAny_attempt (wpAny_holding (wpAny_bind (L0.at (wpAny_bind (L1.at ?_))))))))
  show wpAny _ _ (if (onTheHeap (Value.ref D) && Value.builtin "BaseException.__getattribute__" == Value.builtin "object.__getattribute__") = true then _ else _) _ _ _
  rw [hx1, if_neg Bool.false_ne_true]
  unfold getAttrByItsOwn hookBefore
  refine wpAny_bind ?_
  rw [if_pos (show onTheHeap (Value.ref D) = true from rfl)]
  refine L2.at ?_
  refine wpAny_bind (wpAny_attempt (wpAny_holding ?_))
  unfold callGetattribute
  rw [hx0, if_neg Bool.false_ne_true]
  unfold boundAndCalled
  rw [PySem.F.excAttr_ValueError.ga.bind (.ref x)]
  refine wpAny_bind (wpAny_pure ?_)
  show wpAny _ _ (call (.builtin "BaseException.__getattribute__") [.ref x, .str "__class__" t]) _ _ _
  refine wpAny_call (codeAny_call_builtin PySem.F.excAttr_ValueError.ga.plain PySem.F.entry_bexc_ga ?_)
  refine @check_slot (model prog w) _ _ ⟨hp, g, d, t + 1, os⟩ "BaseException.__getattribute__" "BaseException" "__getattribute__" (.ref x) [.str "__class__" t] [] _ (by decide +kernel) (by decide +kernel) sub (PySem.F.args_bexc_ga (.ref x) (.str "__class__" t)) ?_
  unfold Builtin.«object.__getattribute__»
  refine wpAny_bind (wpAny_of_eq (a := ((Value.ref x : Value), [Value.str "__class__" t])) (by first | rfl | (simp only [slotArgs]; rfl)) ?_)
  refine wpAny_bind (wpAny_pure (wpAny_bind (L0.at (wpAny_bind (L3.at ?_)))))
  show wpAny _ _ (holding [Value.builtin "object.__class__"] (call (.builtin "getset_descriptor.__get__") [.builtin "object.__class__", .ref x, .ref D]) >>= ret) _ _ _
  refine wpAny_bind (wpAny_holding (wpAny_call (class_get (s := ⟨hp, g, d, t + 1, os⟩) (ox := ox) (od := od) X I hm ?_)))
  refine wpAny_pure ?_
  show wpAny _ _ (handedOut (.ref D)) _ _ _
  rw [handedOut_of (v := .ref D) rfl]
  first
    | exact wpAny_pure (wpAny_pure h)
    | exact wpAny_pure h
    | exact wpAny_pure (wpAny_bind (wpAny_pure (wpAny_pure h)))
theorem kitx_excZ (hga : findIn K (.ref D) "__getattribute__" = some (some (.builtin "BaseException.__getattribute__"))) (hgt : findIn K (.ref D) "__getattr__" = some none) (hsub : subIn K (.ref D) (.type "BaseException") = some true) (hdct : hasDictIn K D = true) (ha : findIn K (.ref D) "__class__" = some (some (.builtin "object.__class__")))
    (hn : specialIn K (.builtin "object.__class__") "__get__" = some (some (.builtin "getset_descriptor.__get__"))) (htk : takesIn K (.builtin "object.__class__") = some true) (hm : mroIn K D (.type "object") = some true) :
    KitX K (.ref x) (.ref D) (fun h => InstAt h x ox D od) where
  ty := fun _ _ _ I => I.type
  it := fun _ _ X _ => by
    obtain ⟨cdD, hcD, _⟩ := any_some hdct
    unfold clsIn at hcD
    split at hcD
    · rename_i c' d' cd' sl' ho
      intro A' Q' E' s' k q
      unfold isType loadHead
      exact wpAny_bind (wpAny_loadPart (k _ _ (X _ _ ho)) (wpAny_pure q))
    · cases hcD
  ne := (handS_kitx_exc (x := x) (ox := ox) hga hgt hsub hdct ha hn htk hm).ne
  ca := fun X I k => kin_classZ hga hgt hsub hdct ha hn htk hm X I k
end
end PySem.W
namespace L2
open PySem PySem.Spec PyProof.Rows PySem.ExX
/-- the type of a value: also of an exception object that is a value -/
inductive TyZ (K : PySem.W.Frag) (H : Hp) : V → Value → Prop where
  | x {v : V} {t : Value} (h : TyX K H v t) : TyZ K H v t
  | exo {a C : Addr} (e : H a = some (ExO (.ref C) a)) (c : ExcC K C) : TyZ K H (.ref a) (.ref C)
  | exd {a C d : Addr} {fs : List (Str × V)} (e : H a = some (ExD C d a)) (ed : H d = some (.xd fs)) (c : ExcC K C) : TyZ K H (.ref a) (.ref C)
section
variable {X : Cx} {pins : List (Addr × Obj)} {σ : St} {H : Hp} {s : Shared}
theorem kit_ofZ {x : V} {u t : Value} (I : Inv X pins σ H s) (rx : RelV x u) (ty : TyZ X.K H x t) : ∃ P : Heap → Prop, PySem.W.KitX X.K u t P ∧ P s.heap ∧ u ≠ .builtin "__main__.__loader__#opaque" := by
  cases ty with
  | x h => exact kit_of I rx h
  | @exo a C e c =>
    cases (show u = Value.ref a from rx)
    obtain ⟨⟨oe, vs, ho, hz, hd, _, _⟩, _, _⟩ := I.hok a _ e
    have J : PySem.W.InstAt s.heap a oe C none := by
      obtain ⟨oc, od, oda, osl⟩ := oe
      obtain ⟨h1, h2⟩ := hz
      dsimp only at h1 h2 hd
      subst h1 h2 hd
      exact ⟨ho, rfl, rfl, trivial⟩
    exact ⟨_, PySem.W.kitx_excZ c.hg c.hk c.hs c.hd c.ha c.hn c.ht c.hm, J, fun z => nomatch z⟩
  | @exd a C d fs e ed c =>
    cases (show u = Value.ref a from rx)
    obtain ⟨⟨oe, vs, ho, hz, hd, _⟩, _, _⟩ := I.hok a _ e
    obtain ⟨mA, hns, _⟩ := (show ObjOk X.prog X.w H s.heap d (.xd fs) from I.hok d _ ed)
    obtain ⟨od, hod, _⟩ := lookIn_ns hns
    have J : PySem.W.InstAt s.heap a oe C (some od) := by
      obtain ⟨oc, odd, oda, osl⟩ := oe
      obtain ⟨h1, h2⟩ := hz
      dsimp only at h1 h2 hd
      subst h1 h2 hd
      exact ⟨ho, rfl, rfl, hod⟩
    exact ⟨_, PySem.W.kitx_excZ c.hg c.hk c.hs c.hd c.ha c.hn c.ht c.hm, J, fun z => nomatch z⟩
end
def rIsiZ (K : PySem.W.Frag) : List V → Hp → VK → Prop := fun xs H Q => ∃ (x c : V) (t u : Value) (b : Bool), xs = [x, c] ∧ ClsV c u ∧ TyZ K H x t ∧ PySem.W.kitOne K t u = some b ∧ Q (.bl b) H
def rIsiTZ (K : PySem.W.Frag) : List V → Hp → VK → Prop := fun xs H Q => ∃ (x : V) (tp : Addr) (cs : List V) (t : Value) (us : List Value) (b : Bool), xs = [x, .ref tp] ∧ H tp = some (.tup cs) ∧ Paired ClsV cs us ∧ TyZ K H x t ∧ PySem.W.kitAny K t us = some b ∧ Q (.bl b) H
section
variable {X : Cx} {K : PySem.W.Frag}
theorem call_isiZ (hK : X.K = K) : CallR X (.builtin "isinstance") (rIsiZ K) := by
  subst hK
  intro pins s σ H xs us Q I r h
  obtain ⟨x, c, t, u, b, rfl, k, ty, e, q⟩ := h
  obtain ⟨u1, u2, rfl, r1, r2⟩ := vals2 r
  have e2 := k.eq r2
  subst e2
  obtain ⟨P, Z, p, hx⟩ := kit_ofZ I r1 ty
  exact PySem.W.kia_one Z I.kIn p e hx fun tk => ⟨.bl b, H, I.tok tk, rfl, q⟩
theorem call_isiTZ (hK : X.K = K) : CallR X (.builtin "isinstance") (rIsiTZ K) := by
  subst hK
  intro pins s σ H xs us Q I r h
  obtain ⟨x, tp, cs, t, ws, b, rfl, hT, k, ty, e, q⟩ := h
  obtain ⟨u1, u2, rfl, r1, r2⟩ := vals2 r
  cases (show u2 = Value.ref tp from r2)
  obtain ⟨P, Z, p, hx⟩ := kit_ofZ I r1 ty
  obtain ⟨_, its, rv, o, h1, h2, n, h3⟩ := (show ObjOk X.prog X.w H s.heap tp (.tup cs) from I.hok tp _ hT)
  have e3 := ClsV.all k rv
  subst e3
  obtain ⟨oc, od, dt, sl⟩ := o
  simp only at h2 h3
  subst h2 h3
  exact PySem.W.kia_tup Z I.kIn p h1 e hx fun tk => ⟨.bl b, H, I.tok tk, rfl, q⟩
end
end L2

set_option Elab.async false
set_option linter.all false
set_option maxRecDepth 100000
set_option maxHeartbeats 4000000
/-! x != y of two objects of a class with an own __eq__ and no __ne__ -/
namespace HN
open PySem PySem.Spec PyProof.Rows PySem.SeqAt
section
variable {M : Model} {prog : Program} {w : World} {A : Around} {E : Value → Shared → Prop} {s : Shared} {K : PySem.W.Frag} {x C f : Addr} {ox : Obj} {od : Option Obj} {b tb : Value}
theorem ifBound_objNe {args : List Value} {Q : Option Value → Shared → Prop} (X : K.In s.heap) (I : PySem.W.InstAt s.heap x ox C od) (hs : PySem.W.findIn K (.ref C) "__ne__" = some (some (.builtin "object.__ne__")))
    (h : wpAny M A (call (.builtin "object.__ne__") (.ref x :: args)) (fun v => Q (some v)) E s) : wpAny M A (callSpecialIfBound? (.ref x) "__ne__" args) Q E s := by
  simp only [callSpecialIfBound?, bindSpecialIfBound?]
  refine wpAny_holding (wpAny_bind (wpAny_bind (wpAny_bind (I.type.here ((PySem.W.looks_findIn X hs).here ?_)))))
  refine wpAny_bind (wpAny_askSetting (wpAny_ite ?_))
  have fin : wpAny M A (call (.builtin "object.__ne__") ([.ref x] ++ args) >>= fun v => pure (some v)) Q E s := wpAny_bind (wpAny_mono h (fun v s' h' => wpAny_pure h') fun _ _ h' => h')
  split
  · exact wpAny_bind (wpAny_of_eq (F.cmp_object.ne.bind _) (wpAny_pure (by exact fin)))
  · exact wpAny_tryCatch (wpAny_bind (wpAny_of_eq (F.cmp_object.ne.bind _) (wpAny_pure (by exact fin))))
/-- what object.__ne__ does, where the class's own __eq__ says True -/
theorem entry_ne {R : Fin → Shared → Prop} (hu : A.units < cLine) (X : K.In s.heap) (I : PySem.W.InstAt s.heap x ox C od) (hs : PySem.W.findIn K (.ref C) "__eq__" = some (some (.ref f))) (hf : PySem.W.isFn K (.ref f) = true)
    (h : wpAny M A (call (.ref f) [.ref x, b]) (fun v s' => v = .bool true ∧ R (.done (.ret (.bool false))) s') E s) : wpAny M A (Builtin.«object.__ne__» ⟨[.ref x, b], []⟩) R E s := by
  unfold Builtin.«object.__ne__»
  have q : wpAny M A (callSpecialIfBound? (.ref x) "__eq__" [b]) (fun r s' => r = some (.bool true) ∧ R (.done (.ret (.bool false))) s') E s :=
    PySem.W.ifBound_K X I hs hf (wpAny_mono h (fun v s' ⟨e, z⟩ => ⟨by rw [e], z⟩) fun _ _ z => z)
  repeat (first | with_reducible refine wpAny_cRoomFor hu ?_ | with_reducible refine wpAny_bind (wpAny_mono q (fun r s' ⟨e, z⟩ => ?_) fun _ _ z => z) | wp_step)
  subst e
  refine wpAny_bind (wpAny_truthy_bool ?_)
  exact wpAny_pure z
theorem call_objNe {Q : Value → Shared → Prop} (hu : A.in1.units < cLine) (X : K.In s.heap) (I : PySem.W.InstAt s.heap x ox C od) (hm : PySem.W.mroIn K C (.type "object") = some true) (hs : PySem.W.findIn K (.ref C) "__eq__" = some (some (.ref f))) (hf : PySem.W.isFn K (.ref f) = true)
    (h : wpAny (model prog w) A.in1 (call (.ref f) [.ref x, b]) (fun v s' => v = .bool true ∧ Q (.bool false) s') E s) :
    wpAny (model prog w) A (call (.builtin "object.__ne__") [.ref x, b]) Q E s :=
  wpAny_call (codeAny_call_builtin F.cmp_object.ne.plain F.cmpEntry_ne (PySem.W.check_slot F.cmpKind_ne F.cmpSplit_ne (I.type.andThen (PySem.W.looks_mroIn X hm)) (F.cmpArgs_ne _ _) (entry_ne hu X I hs hf h)))
theorem rc_ne {L : Addr} {h₀ : Heap} {m : Str → Option Value} {Q : Value → Shared → Prop} (hu : A.units < cLine) (hu1 : A.in1.units < cLine) (F : Fr h₀ L s.heap m) (X₀ : K.In h₀) (I : PySem.W.InstAt s.heap x ox C od) (hb : PySem.W.Looks (model prog w) s.heap (typeOf b) tb) (hn : PySem.W.notFirst K C tb = true)
    (hm : PySem.W.mroIn K C (.type "object") = some true) (hne : PySem.W.findIn K (.ref C) "__ne__" = some (some (.builtin "object.__ne__"))) (hs : PySem.W.findIn K (.ref C) "__eq__" = some (some (.ref f))) (hf : PySem.W.isFn K (.ref f) = true)
    (h : wpAny (model prog w) A.in1 (call (.ref f) [.ref x, b]) (fun v s' => v = .bool true ∧ Q (.bool false) s') E s) : wpAny (model prog w) A (richCompare .NotEq (.ref x) b) Q E s := by
  have X := X₀.keeps F.keep
  have one : wpAny (model prog w) A (tryCompare (.ref x) (cmpInfo .NotEq).2.1 b) (fun r s' => ∃ v, r = some v ∧ Q v s') E s := by
    unfold tryCompare
    refine wpAny_bind (ifBound_objNe X I hne (call_objNe hu1 X I hm hs hf (wpAny_mono h (fun v s' hv => ?_) fun _ _ e => e)))
    exact ⟨hv.1, wpAny_pure ⟨_, rfl, hv.2⟩⟩
  unfold richCompare
  simp only [oneThing_ref]
  refine wpAny_holding (wpAny_bind (wpAny_cRoomFor hu ?_))
  refine wpAny_bind (I.type.here (wpAny_bind (hb.here ?_)))
  split
  · rename_i q
    have e : PySem.W.subIn K tb (.ref C) = some false := by
      rcases Bool.or_eq_true_iff.mp hn with e | e
      · rw [beq_iff_eq.mp e] at q; simp at q
      · exact beq_iff_eq.mp e
    refine wpAny_bind ((PySem.W.looks_subIn X e).here ?_)
    simp only [Bool.false_eq_true, if_false]
    refine wpAny_bind (wpAny_mono one (fun r s' z => ?_) fun _ _ e => e)
    obtain ⟨v, rfl, hq⟩ := z
    exact wpAny_pure hq
  · refine wpAny_bind (wpAny_pure ?_)
    simp only [Bool.false_eq_true, if_false]
    refine wpAny_bind (wpAny_mono one (fun r s' z => ?_) fun _ _ e => e)
    obtain ⟨v, rfl, hq⟩ := z
    exact wpAny_pure hq
end
end HN
namespace L2
open PySem PySem.Spec PyProof.Rows
section
variable {X : Cx} {n : Nat}
def rNeG (D : Eqv) : R2 := fun x y H Q => D x y H ∧ ∀ H', Ext H H' → Q (.bl false) H'
/-- x != y, two objects of the class at C, equal by its own __eq__ -/
theorem op_neG {CX : CXT} {C f : Addr} {fd : FuncData} {ps : List Str} {R : Addr → Addr → Hp → Prop} {E : XK} (F : FnOk X.prog X.w X.K X.mg X.base CX n f fd ps (spEq R))
    (hs : PySem.W.findIn X.K (.ref C) "__eq__" = some (some (.ref f))) (hf : PySem.W.isFn X.K (.ref f) = true) (hne : PySem.W.findIn X.K (.ref C) "__ne__" = some (some (.builtin "object.__ne__"))) (hm : PySem.W.mroIn X.K C (.type "object") = some true)
    (hb : Binds X.K fd ps []) (hx : Passes CX X E) (hr : Room (n + 1) X.A) : OpR X (compareOp .NotEq) (rNeG (DIns C R)) := by
  intro pins s σ H x y u v Q I rx ry hq
  obtain ⟨⟨a, b, dx, dy, fs, gs, rfl, rfl, ha, hb', hr'⟩, q⟩ := hq
  cases rx
  cases ry
  have sb : Sub X n X.A.in1 := Sub.in1 ⟨hr, rfl⟩
  obtain ⟨mA, J, _⟩ := ins_get I.hok ha
  obtain ⟨mB, J', _⟩ := ins_get I.hok hb'
  obtain ⟨od, J, _⟩ := J.look
  obtain ⟨od', J', _⟩ := J'.look
  obtain ⟨m, hF⟩ := I.fr
  show wpAny (model X.prog X.w) X.A (richCompare .NotEq (.ref a) (.ref b)) (EP X pins σ Q) X.xe s
  refine HN.rc_ne (tb := .ref C) hr.units0 sb.room.units0 hF I.ok.mod.kin J J'.type (by simp [PySem.W.notFirst]) hm hne hs hf ?_
  have hsp : spEq R [.ref a, .ref b] H (fun v H' => v = .bl true ∧ Ext H H') E := ⟨a, b, rfl, hr', fun H' e => ⟨rfl, e⟩⟩
  have e0 : Env0 X.prog X.w X.K X.mg X.base X.A.in1 X.stack s H := by
    have e := I.env0
    exact ⟨by rw [sb.fr]; exact e.frames, e.mod, e.bs, e.bsz, e.funs, e.frf, e.hok, e.bare⟩
  have hl := F.len _ _ _ _ hsp
  have r2 : Vals [V.ref a, V.ref b] [Value.ref a, Value.ref b] := .cons rfl (.cons rfl .nil)
  refine wpAny_call (codeAny_mono (F.run X.A.in1 X.stack s H ⟨[.ref a, .ref b], []⟩ [.ref a, .ref b] [.ref a, .ref b] _ E sb.room e0 (by
    have := hb s [.ref a, .ref b] I.kIn (by simpa using hl)
    simpa using this) r2 hsp) fun r s' hq => ?_)
  cases r with
  | error e => exact hx pins σ H s e s' I hq
  | ok fl =>
    cases fl with
    | ret w =>
      obtain ⟨z, H', I', rz, ez, ex⟩ := I.after hq
      subst ez
      cases rz
      exact ⟨rfl, .bl false, H', I', rfl, q H' ex⟩
    | next => exact False.elim hq
    | brk => exact False.elim hq
    | cont => exact False.elim hq
end
end L2

set_option Elab.async false
set_option linter.all false
set_option maxRecDepth 100000
set_option maxHeartbeats 4000000
namespace PySem
namespace ExX
open PySem.W PySem.Calls PyProof.Rows
theorem refsEX_of : ∀ l : List Value, excTail exTail l = true → refsEX l = true := by
  intro l
  induction l with
  | nil => intro h; exact absurd h (by decide +kernel)
  | cons a r ih =>
    intro h
    rcases excTail_cases (bmB := exTail) (a :: r) h with ⟨c, r', e, q⟩ | e
    · cases e
      exact ih q
    · rw [e]; rfl
theorem excT_cls {K : Frag} {C : Addr} (q : excInitIn K C exTail "Exception.__new__" = true) (hd : hasDictIn K C = true) :
    ∃ nm q N bs bm sn sub ab col dd k0 k1 k2 k3 k5, K.lookup C = some (excClassObj nm q C N bs bm true sn sub ab col dd k0 k1 k2 k3 k5 "Exception.__new__") ∧ refsEX bm = true := by
  unfold excInitIn at q
  split at q
  · rename_i dd cd sl ho
    split at q
    · rename_i C' bm k0 k1 k2 k3 n k5 hm hs
      simp only [Bool.and_eq_true, beq_iff_eq, Bool.not_eq_true'] at q
      obtain ⟨⟨⟨rfl, rfl⟩, hdel⟩, ht⟩ := q
      obtain ⟨nm, bs, mro, ns, qn, hd', sn, sub, ab, col, del⟩ := cd
      dsimp only at hm hdel
      subst hm hdel
      have hsl : sl = #[k0, k1, k2, k3, some (.builtin "Exception.__new__"), k5] := by
        obtain ⟨l⟩ := sl
        simp only at hs
        rw [hs]
      subst hsl
      have e : hd' = true := by
        unfold hasDictIn at hd
        have hc : clsIn K C' = some ⟨nm, bs, .ref C' :: bm, ns, qn, hd', sn, sub, ab, col, false⟩ := by unfold clsIn; rw [ho]
        rw [hc] at hd
        simpa using hd
      subst e
      exact ⟨nm, qn, ns, bs, bm, sn, sub, ab, col, dd, k0, k1, k2, k3, k5, ho, refsEX_of _ ht⟩
    · cases q
  · cases q
end ExX
end PySem

set_option Elab.async false
set_option linter.all false
set_option maxRecDepth 100000
set_option maxHeartbeats 4000000
/-! a call by keywords alone; a text times a number -/
namespace L2
open PySem PySem.Spec PyProof.Rows
theorem Fun.kbinds {K : PySem.W.Frag} {x qual : Str} {st : Stmt} {f : Addr} {fd : FuncData} {ps ks : List Str} (F : Fun K x qual st f fd) (g : {α : Type} → List α → List α)
    (h : ∀ (kV doc pm : Value) (an : Option Addr) (cdv ct : Value) (ws : List Value), ws.length = ks.length → bindArgs (PySem.W.fnOf x qual (defArgs st) (defBody st) (defScope st) .none kV doc pm an cdv ct) ⟨[], ks.zip ws⟩ = pure (ps.zip (g ws)))
    (hrel : ∀ {zs : List V} {ws : List Value}, Vals zs ws → Vals (g zs) (g ws)) : KBn K fd ps 0 ks (fun _ ws => g ws) (fun _ zs => g zs) := by
  obtain ⟨oc, od, kV, doc, pm, an, cdv, ct, osl, rfl, lk, hcd⟩ := F.ex
  refine ⟨fun s us ws _ h0 hl => ?_, fun _ r => hrel r⟩
  cases us with
  | nil => exact BindsTo.of_eq (h kV doc pm an cdv ct ws hl)
  | cons a r => cases h0
section
variable {X : Cx} {CX : CXT} {k : Nat} {f : Addr} {fd : FuncData} {ps ks : List Str} {sp : Sp} {E : XK} {x : Str} {p pos : Pos} {kws : List Keyword} {tk : TA} {g : List Value → List Value → List Value} {gV : List V → List V → List V}
theorem pe_callN0 (F : FnOk X.prog X.w X.K X.mg X.base CX k f fd ps sp) (hr : Room k X.A) (hg : Gl X x) (hm : X.mg x = some (.ref f)) (hk : PySem.W.keepIn X.K (.ref f) = true) (hb : KBn X.K fd ps 0 ks g gV) (hx : Passes CX X E)
    (hkw : PK X kws tk) (hall : (backToKw pos (keywordEach kws X.env)).all (·.1.isSome) = true := by rfl) (hks : (backToKw pos (keywordEach kws X.env)).filterMap (·.1) = ks := by rfl)
    (hdb : (x == ("__debug__" : Str)) = false := by decide)
    (hpl : ((backTo pos (starEach [] X.env)).any (·.1) || (backToKw pos (keywordEach kws X.env)).any (·.1.isNone)) = false := by rfl) :
    PE X (.Call (.Name x p) [] kws pos) (tCallN 0 ks.length sp gV E tNil tk) := by
  refine ⟨fun pins s σ H Q I h => ?_⟩
  refine wpAny_Call_Name_kw (ld_glob I hg hm ?_ hdb)
  refine PySem.W.callWith_KW0 (h₀ := X.base) I.ok.mod.kin hk hall ?_ hpl
  refine thn (hkw.run pos pins s σ H _ I h) fun ws s2 ⟨zs, H2, I2, rz, l1, l2, q2⟩ => ⟨I2.kIn, ?_⟩
  rw [hks]
  exact run_fnN (us := []) (vs := []) F hr hb hx I2 .nil rz rfl l2 q2
theorem op_mul_str : OpR X (binaryOp .Mult) (fun x y H Q => ∃ z n, x = .str z ∧ y = .int n ∧ z.length ≤ 16 ∧ -(2 ^ 63 : Int) ≤ n ∧ n ≤ 1048576 ∧ Q (.str (Txt.mul z n)) H) := by
  intro pins s σ H x y v u Q I rx ry h
  obtain ⟨z, n, rfl, rfl, h1, h2, h3, q⟩ := h
  obtain ⟨t, rfl⟩ := rx
  obtain ⟨t', rfl⟩ := ry
  exact SB.mul (mulOk_of 16 1048576 h1 h3 h2 (by decide) (by decide)) fun t' tk => ⟨.str _, H, I.tok _, ⟨_, rfl⟩, q⟩
end
end L2

set_option Elab.async false
set_option linter.all false
set_option maxRecDepth 100000
/-! the rules whose reading names the written part, with that part a letter of its own (within a comprehension the place's own name of it can't be found by unification) -/
namespace L2
open PySem PySem.Spec PyProof.Rows
variable {X : Cx} {K : PySem.W.Frag}
theorem ix_listK (h : X.K = K) : IxR X (rIxL K) := by subst h; exact ix_list
theorem ix_tupK (h : X.K = K) : IxR X (rIxT K) := by subst h; exact ix_tup
theorem call_tuple_ofK (h : X.K = K) : CallR X (.type "tuple") (fun xs H Q => ∃ p ys, xs = [.ref p] ∧ ((SqL K H p ys ∧ ∀ l, H l = none → Q (.ref l) (upd H l (.tup ys))) ∨ (SqT K H p ys ∧ Q (.ref p) H))) := by subst h; exact call_tuple_of
theorem call_list_ofK (h : X.K = K) : CallR X (.type "list") (fun xs H Q => ∃ p ys, xs = [.ref p] ∧ (SqL K H p ys ∨ SqT K H p ys) ∧ ∀ l, H l = none → Q (.ref l) (upd H l (.lst ys))) := by subst h; exact call_list_of
theorem call_len_seqK (h : X.K = K) : CallR X (.builtin "len") (fun xs H Q => ∃ p ys, xs = [.ref p] ∧ (SqL K H p ys ∨ SqT K H p ys) ∧ Q (.int ys.length) H) := by subst h; exact call_len_seq
theorem call_isiK' (h : X.K = K) : CallR X (.builtin "isinstance") (rIsi K) := by subst h; exact call_isi
theorem call_isiTK (h : X.K = K) : CallR X (.builtin "isinstance") (rIsiT K) := by subst h; exact call_isiT
theorem sl_listK (h : X.K = K) : SlR X (rSlL K) := by subst h; exact sl_list
theorem cr_allK (h : X.K = K) (hc : X.calm = true) : CallR X (.builtin "all") (rAll K) := by subst h; exact cr_all hc
theorem cr_anyK (h : X.K = K) (hc : X.calm = true) : CallR X (.builtin "any") (rAny K) := by subst h; exact cr_any hc
theorem cr_sumK (h : X.K = K) (hc : X.calm = true) : CallR X (.builtin "sum") (rSum K) := by subst h; exact cr_sum hc
end L2

set_option Elab.async false
set_option linter.all false
set_option maxRecDepth 100000
set_option maxHeartbeats 4000000
namespace J
open PySem L2
def topS (i : Nat) : Stmt := PySem.Challenge.pw_onewayread_k46_books_of_lengths.main.body.getD i (.Pass ⟨0, 0, 0, 0⟩)
abbrev s_InvalidLoom_init : Stmt := inClass (topS 2) 0
abbrev N_InvalidLoom_init : List Str := ["self", "part", "at"]
abbrev P_InvalidLoom_init : List Str := ["self", "part", "at"]
theorem sc_InvalidLoom_init : FnScope N_InvalidLoom_init P_InvalidLoom_init (defScope s_InvalidLoom_init) := ⟨rfl, rfl, rfl, by decide +kernel, rfl, by decide +kernel, by decide +kernel⟩
abbrev s_InvalidLengths_init : Stmt := inClass (topS 3) 0
abbrev N_InvalidLengths_init : List Str := ["self", "at"]
abbrev P_InvalidLengths_init : List Str := ["self", "at"]
theorem sc_InvalidLengths_init : FnScope N_InvalidLengths_init P_InvalidLengths_init (defScope s_InvalidLengths_init) := ⟨rfl, rfl, rfl, by decide +kernel, rfl, by decide +kernel, by decide +kernel⟩
abbrev s_is_number : Stmt := topS 8
abbrev N_is_number : List Str := ["thing", "low", "high"]
abbrev P_is_number : List Str := ["thing", "low", "high"]
theorem sc_is_number : FnScope N_is_number P_is_number (defScope s_is_number) := ⟨rfl, rfl, rfl, by decide +kernel, rfl, by decide +kernel, by decide +kernel⟩
abbrev s_is_sequence : Stmt := topS 9
abbrev N_is_sequence : List Str := ["thing", "fewest", "most"]
abbrev P_is_sequence : List Str := ["thing", "fewest", "most"]
theorem sc_is_sequence : FnScope N_is_sequence P_is_sequence (defScope s_is_sequence) := ⟨rfl, rfl, rfl, by decide +kernel, rfl, by decide +kernel, by decide +kernel⟩
abbrev s_is_signs : Stmt := topS 10
abbrev N_is_signs : List Str := ["thing", "letters", "sign", "one", "other"]
abbrev P_is_signs : List Str := ["thing"]
theorem sc_is_signs : FnScope N_is_signs P_is_signs (defScope s_is_signs) := ⟨rfl, rfl, rfl, by decide +kernel, rfl, by decide +kernel, by decide +kernel⟩
abbrev s_is_string_over : Stmt := topS 11
abbrev N_is_string_over : List Str := ["signs", "thing", "fewest", "most", "sign"]
abbrev P_is_string_over : List Str := ["signs", "thing", "fewest", "most"]
theorem sc_is_string_over : FnScope N_is_string_over P_is_string_over (defScope s_is_string_over) := ⟨rfl, rfl, rfl, by decide +kernel, rfl, by decide +kernel, by decide +kernel⟩
abbrev s_is_word : Stmt := topS 12
abbrev N_is_word : List Str := ["signs", "thing"]
abbrev P_is_word : List Str := ["signs", "thing"]
theorem sc_is_word : FnScope N_is_word P_is_word (defScope s_is_word) := ⟨rfl, rfl, rfl, by decide +kernel, rfl, by decide +kernel, by decide +kernel⟩
abbrev s_first_wrong : Stmt := topS 13
abbrev N_first_wrong : List Str := ["thing", "fewest", "most", "low", "high", "at", "item"]
abbrev P_first_wrong : List Str := ["thing", "fewest", "most", "low", "high"]
theorem sc_first_wrong : FnScope N_first_wrong P_first_wrong (defScope s_first_wrong) := ⟨rfl, rfl, rfl, by decide +kernel, rfl, by decide +kernel, by decide +kernel⟩
abbrev s_check_signs : Stmt := topS 14
abbrev N_check_signs : List Str := ["signs"]
abbrev P_check_signs : List Str := ["signs"]
theorem sc_check_signs : FnScope N_check_signs P_check_signs (defScope s_check_signs) := ⟨rfl, rfl, rfl, by decide +kernel, rfl, by decide +kernel, by decide +kernel⟩
abbrev s_is_arc : Stmt := topS 17
abbrev N_is_arc : List Str := ["signs", "thing", "state", "word", "goal"]
abbrev P_is_arc : List Str := ["signs", "thing"]
theorem sc_is_arc : FnScope N_is_arc P_is_arc (defScope s_is_arc) := ⟨rfl, rfl, rfl, by decide +kernel, rfl, by decide +kernel, by decide +kernel⟩
abbrev s_Loom_init : Stmt := inClass (topS 18) 0
abbrev N_Loom_init : List Str := ["self", "signs", "arcs", "at", "arc"]
abbrev P_Loom_init : List Str := ["self", "signs", "arcs"]
theorem sc_Loom_init : FnScope N_Loom_init P_Loom_init (defScope s_Loom_init) := ⟨rfl, rfl, rfl, by decide +kernel, rfl, by decide +kernel, by decide +kernel⟩
abbrev s_Loom_eq : Stmt := inClass (topS 18) 1
abbrev N_Loom_eq : List Str := ["self", "other"]
abbrev P_Loom_eq : List Str := ["self", "other"]
theorem sc_Loom_eq : FnScope N_Loom_eq P_Loom_eq (defScope s_Loom_eq) := ⟨rfl, rfl, rfl, by decide +kernel, rfl, by decide +kernel, by decide +kernel⟩
abbrev s_book : Stmt := topS 20
abbrev N_book : List Str := ["signs", "words", "word"]
abbrev P_book : List Str := ["signs", "words"]
theorem sc_book : FnScope N_book P_book (defScope s_book) := ⟨rfl, rfl, rfl, by decide +kernel, rfl, by decide +kernel, by decide +kernel⟩
abbrev s_text_at : Stmt := topS 23
abbrev N_text_at : List Str := ["signs", "place", "length", "text", "_"]
abbrev P_text_at : List Str := ["signs", "place", "length"]
theorem sc_text_at : FnScope N_text_at P_text_at (defScope s_text_at) := ⟨rfl, rfl, rfl, by decide +kernel, rfl, by decide +kernel, by decide +kernel⟩
abbrev s_book_of_lengths : Stmt := topS 24
abbrev N_book_of_lengths : List Str := ["signs", "lengths", "at", "made", "length", "taken", "many", "order", "wanted", "number"]
abbrev P_book_of_lengths : List Str := ["signs", "lengths"]
theorem sc_book_of_lengths : FnScope N_book_of_lengths P_book_of_lengths (defScope s_book_of_lengths) := ⟨rfl, rfl, rfl, by decide +kernel, rfl, by decide +kernel, by decide +kernel⟩
abbrev s_l_take : Stmt := topS 26
abbrev N_l_take : List Str := ["_law_script", "_law_pool", "_law_many", "_law_cell", "_law_digit", "_law_seed"]
abbrev P_l_take : List Str := ["_law_script", "_law_pool", "_law_many"]
theorem sc_l_take : FnScope N_l_take P_l_take (defScope s_l_take) := ⟨rfl, rfl, rfl, by decide +kernel, rfl, by decide +kernel, by decide +kernel⟩
abbrev s_l_signs : Stmt := topS 27
abbrev N_l_signs : List Str := ["_law_script", "_law_pool"]
abbrev P_l_signs : List Str := ["_law_script", "_law_pool"]
theorem sc_l_signs : FnScope N_l_signs P_l_signs (defScope s_l_signs) := ⟨rfl, rfl, rfl, by decide +kernel, rfl, by decide +kernel, by decide +kernel⟩
abbrev s_l_is_plain : Stmt := topS 28
abbrev N_l_is_plain : List Str := ["_law_words", "_law_at", "_law_other"]
abbrev P_l_is_plain : List Str := ["_law_words"]
theorem sc_l_is_plain : FnScope N_l_is_plain P_l_is_plain (defScope s_l_is_plain) := ⟨rfl, rfl, rfl, by decide +kernel, rfl, by decide +kernel, by decide +kernel⟩
abbrev s_l_lengths : Stmt := topS 29
abbrev N_l_lengths : List Str := ["_law_script", "_law_pool", "_law_most", "_law_many", "_law_k"]
abbrev P_l_lengths : List Str := ["_law_script", "_law_pool"]
theorem sc_l_lengths : FnScope N_l_lengths P_l_lengths (defScope s_l_lengths) := ⟨rfl, rfl, rfl, by decide +kernel, rfl, by decide +kernel, by decide +kernel⟩
abbrev s_l_behind : Stmt := topS 30
abbrev N_l_behind : List Str := ["_law_signs_here", "_law_text", "_law_places", "_law_at", "_law_k", "_law_sign", "_law_place"]
abbrev P_l_behind : List Str := ["_law_signs_here", "_law_text"]
theorem sc_l_behind : FnScope N_l_behind P_l_behind (defScope s_l_behind) := ⟨rfl, rfl, rfl, by decide +kernel, rfl, by decide +kernel, by decide +kernel⟩
abbrev s_l_due : Stmt := topS 31
abbrev N_l_due : List Str := ["_law_signs_here", "_law_lengths_here", "_law_chosen", "_law_last", "_law_size", "_law_at", "_law_text"]
abbrev P_l_due : List Str := ["_law_signs_here", "_law_lengths_here"]
theorem sc_l_due : FnScope N_l_due P_l_due (defScope s_l_due) := ⟨rfl, rfl, rfl, by decide +kernel, rfl, by decide +kernel, by decide +kernel⟩
abbrev s_law : Stmt := topS 32
abbrev N_law : List Str := ["_law_script", "_law_pool", "_law_turn", "_law_signs_here", "_law_lengths_here", "_law_handed", "_law_told", "_law_due_here", "_law_word"]
abbrev P_law : List Str := ["_law_script"]
theorem sc_law : FnScope N_law P_law (defScope s_law) := ⟨rfl, rfl, rfl, by decide +kernel, rfl, by decide +kernel, by decide +kernel⟩
/-- what the top has written -/
structure Tx (K : PySem.W.Frag) (mg : Str → Option Value) : Type where
  f_InvalidLoom_init : Addr
  fd_InvalidLoom_init : FuncData
  F_InvalidLoom_init : Fun K "__init__" "InvalidLoom.__init__" s_InvalidLoom_init f_InvalidLoom_init fd_InvalidLoom_init
  b_InvalidLoom_init : Binds K fd_InvalidLoom_init P_InvalidLoom_init []
  f_InvalidLengths_init : Addr
  fd_InvalidLengths_init : FuncData
  F_InvalidLengths_init : Fun K "__init__" "InvalidLengths.__init__" s_InvalidLengths_init f_InvalidLengths_init fd_InvalidLengths_init
  b_InvalidLengths_init : Binds K fd_InvalidLengths_init P_InvalidLengths_init []
  f_is_number : Addr
  fd_is_number : FuncData
  F_is_number : Fun K "is_number" "is_number" s_is_number f_is_number fd_is_number
  b_is_number : Binds K fd_is_number P_is_number []
  m_is_number : mg "is_number" = some (.ref f_is_number)
  f_is_sequence : Addr
  fd_is_sequence : FuncData
  F_is_sequence : Fun K "is_sequence" "is_sequence" s_is_sequence f_is_sequence fd_is_sequence
  b_is_sequence : Binds K fd_is_sequence P_is_sequence []
  m_is_sequence : mg "is_sequence" = some (.ref f_is_sequence)
  f_is_signs : Addr
  fd_is_signs : FuncData
  F_is_signs : Fun K "is_signs" "is_signs" s_is_signs f_is_signs fd_is_signs
  b_is_signs : Binds K fd_is_signs P_is_signs []
  m_is_signs : mg "is_signs" = some (.ref f_is_signs)
  f_is_string_over : Addr
  fd_is_string_over : FuncData
  F_is_string_over : Fun K "is_string_over" "is_string_over" s_is_string_over f_is_string_over fd_is_string_over
  b_is_string_over : Binds K fd_is_string_over P_is_string_over []
  m_is_string_over : mg "is_string_over" = some (.ref f_is_string_over)
  f_is_word : Addr
  fd_is_word : FuncData
  F_is_word : Fun K "is_word" "is_word" s_is_word f_is_word fd_is_word
  b_is_word : Binds K fd_is_word P_is_word []
  m_is_word : mg "is_word" = some (.ref f_is_word)
  f_first_wrong : Addr
  fd_first_wrong : FuncData
  F_first_wrong : Fun K "first_wrong" "first_wrong" s_first_wrong f_first_wrong fd_first_wrong
  b_first_wrong : Binds K fd_first_wrong P_first_wrong []
  m_first_wrong : mg "first_wrong" = some (.ref f_first_wrong)
  f_check_signs : Addr
  fd_check_signs : FuncData
  F_check_signs : Fun K "check_signs" "check_signs" s_check_signs f_check_signs fd_check_signs
  b_check_signs : Binds K fd_check_signs P_check_signs []
  m_check_signs : mg "check_signs" = some (.ref f_check_signs)
  f_is_arc : Addr
  fd_is_arc : FuncData
  F_is_arc : Fun K "is_arc" "is_arc" s_is_arc f_is_arc fd_is_arc
  b_is_arc : Binds K fd_is_arc P_is_arc []
  m_is_arc : mg "is_arc" = some (.ref f_is_arc)
  f_Loom_init : Addr
  fd_Loom_init : FuncData
  F_Loom_init : Fun K "__init__" "Loom.__init__" s_Loom_init f_Loom_init fd_Loom_init
  b_Loom_init : Binds K fd_Loom_init P_Loom_init []
  f_Loom_eq : Addr
  fd_Loom_eq : FuncData
  F_Loom_eq : Fun K "__eq__" "Loom.__eq__" s_Loom_eq f_Loom_eq fd_Loom_eq
  b_Loom_eq : Binds K fd_Loom_eq P_Loom_eq []
  f_book : Addr
  fd_book : FuncData
  F_book : Fun K "book" "book" s_book f_book fd_book
  b_book : Binds K fd_book P_book []
  m_book : mg "book" = some (.ref f_book)
  f_text_at : Addr
  fd_text_at : FuncData
  F_text_at : Fun K "text_at" "text_at" s_text_at f_text_at fd_text_at
  b_text_at : Binds K fd_text_at P_text_at []
  m_text_at : mg "text_at" = some (.ref f_text_at)
  f_book_of_lengths : Addr
  fd_book_of_lengths : FuncData
  F_book_of_lengths : Fun K "book_of_lengths" "book_of_lengths" s_book_of_lengths f_book_of_lengths fd_book_of_lengths
  b_book_of_lengths : Binds K fd_book_of_lengths P_book_of_lengths []
  m_book_of_lengths : mg "book_of_lengths" = some (.ref f_book_of_lengths)
  f_l_take : Addr
  fd_l_take : FuncData
  F_l_take : Fun K "_law_take" "_law_take" s_l_take f_l_take fd_l_take
  b_l_take : Binds K fd_l_take P_l_take []
  m_l_take : mg "_law_take" = some (.ref f_l_take)
  f_l_signs : Addr
  fd_l_signs : FuncData
  F_l_signs : Fun K "_law_signs" "_law_signs" s_l_signs f_l_signs fd_l_signs
  b_l_signs : Binds K fd_l_signs P_l_signs []
  m_l_signs : mg "_law_signs" = some (.ref f_l_signs)
  f_l_is_plain : Addr
  fd_l_is_plain : FuncData
  F_l_is_plain : Fun K "_law_is_plain" "_law_is_plain" s_l_is_plain f_l_is_plain fd_l_is_plain
  b_l_is_plain : Binds K fd_l_is_plain P_l_is_plain []
  m_l_is_plain : mg "_law_is_plain" = some (.ref f_l_is_plain)
  f_l_lengths : Addr
  fd_l_lengths : FuncData
  F_l_lengths : Fun K "_law_lengths" "_law_lengths" s_l_lengths f_l_lengths fd_l_lengths
  b_l_lengths : Binds K fd_l_lengths P_l_lengths []
  m_l_lengths : mg "_law_lengths" = some (.ref f_l_lengths)
  f_l_behind : Addr
  fd_l_behind : FuncData
  F_l_behind : Fun K "_law_behind" "_law_behind" s_l_behind f_l_behind fd_l_behind
  b_l_behind : Binds K fd_l_behind P_l_behind []
  m_l_behind : mg "_law_behind" = some (.ref f_l_behind)
  f_l_due : Addr
  fd_l_due : FuncData
  F_l_due : Fun K "_law_due" "_law_due" s_l_due f_l_due fd_l_due
  b_l_due : Binds K fd_l_due P_l_due []
  m_l_due : mg "_law_due" = some (.ref f_l_due)
  f_law : Addr
  fd_law : FuncData
  F_law : Fun K "law" "law" s_law f_law fd_law
  b_law : Binds K fd_law P_law []
  m_law : mg "law" = some (.ref f_law)
  n_all : mg "all" = none
  n_bool : mg "bool" = none
  n_enumerate : mg "enumerate" = none
  n_int : mg "int" = none
  n_isinstance : mg "isinstance" = none
  n_len : mg "len" = none
  n_list : mg "list" = none
  n_range : mg "range" = none
  n_sorted : mg "sorted" = none
  n_str : mg "str" = none
  n_tuple : mg "tuple" = none
  n_zip : mg "zip" = none
  t_MOST_SIGNS : Tok
  g_MOST_SIGNS : mg "MOST_SIGNS" = some (.int 4 t_MOST_SIGNS)
  t_LONGEST_WORD : Tok
  g_LONGEST_WORD : mg "LONGEST_WORD" = some (.int 12 t_LONGEST_WORD)
  t_LAST_STATE : Tok
  g_LAST_STATE : mg "LAST_STATE" = some (.int 63 t_LAST_STATE)
  t_MOST_ARCS : Tok
  g_MOST_ARCS : mg "MOST_ARCS" = some (.int 200 t_MOST_ARCS)
  t_MOST_LENGTHS : Tok
  g_MOST_LENGTHS : mg "MOST_LENGTHS" = some (.int 12 t_MOST_LENGTHS)
  C_Loom : Addr
  M_Loom : Mk K C_Loom f_Loom_init
  cl_Loom : Cls K C_Loom
  g_Loom : mg "Loom" = some (.ref C_Loom)
  na_Loom_signs : NoAttr K C_Loom "signs"
  na_Loom_arcs : NoAttr K C_Loom "arcs"
  ic_Loom : PySem.W.findIn K (.ref C_Loom) "__class__" = some (some (.builtin "object.__class__"))
  ig : PySem.W.specialIn K (.builtin "object.__class__") "__get__" = some (some (.builtin "getset_descriptor.__get__"))
  it : PySem.W.takesIn K (.builtin "object.__class__") = some true
  im_Loom : PySem.W.mroIn K C_Loom (.type "object") = some true
  eq_Loom : PySem.W.findIn K (.ref C_Loom) "__eq__" = some (some (.ref f_Loom_eq))
  fn_Loom_eq : PySem.W.isFn K (.ref f_Loom_eq) = true
  ne_Loom : PySem.W.findIn K (.ref C_Loom) "__ne__" = some (some (.builtin "object.__ne__"))
  cc_Loom : PySem.W.isClsIn K C_Loom = true
  ty_Loom : PySem.W.typeIn K (.ref C_Loom) = some (.type "type")
end J

set_option Elab.async false
set_option linter.all false
set_option maxRecDepth 100000
set_option maxHeartbeats 4000000
namespace J
open PySem L2
/-! ### frames -/
def Ex (p : Addr) (H H' : Hp) : Prop := ∀ b o, b ≠ p → H b = some o → H' b = some o
theorem Ex.refl (p : Addr) (H : Hp) : Ex p H H := fun _ _ _ h => h
theorem Ex.trans {p : Addr} {H H1 H2 : Hp} (a : Ex p H H1) (b : Ex p H1 H2) : Ex p H H2 := fun c o n h => b c o n (a c o n h)
theorem Ex.upd {p : Addr} {H : Hp} (o : HO) : Ex p H (upd H p o) := fun c u n h => by rw [upd_ne n]; exact h
theorem Ex.new {p q : Addr} {H : Hp} (o : HO) (h : H q = none) : Ex p H (L2.upd H q o) := fun c u n e => by
  rw [upd_ne (ne_of_none e h)]; exact e
theorem Same.ex {p : Addr} {H H' : Hp} (s : Same H H') : Ex p H H' := fun c o _ h => s c o h
theorem Same.new {q : Addr} {H : Hp} (o : HO) (h : H q = none) : Same H (L2.upd H q o) := fun c u e => by
  rw [upd_ne (ne_of_none e h)]; exact e
theorem hp_ne {H : Hp} {p q : Addr} {o : HO} (h : H p = some o) (hq : H q = none) : q ≠ p := by
  intro z
  rw [z, h] at hq
  cases hq
theorem Ex.free {p q : Addr} {H H' : Hp} (x : Ex p H H') (hq : H' q = none) (n : q ≠ p) : H q = none := by
  cases e : H q with
  | none => rfl
  | some o => rw [x _ _ n e] at hq; cases hq
theorem Ex.updNew {p q : Addr} {H H' : Hp} {o : HO} (x : Ex p H H') (hq : H q = none) : Ex p H (L2.upd H' q o) := fun b u n e => by
  rw [upd_ne (ne_of_none e hq)]; exact x b u n e
theorem _root_.L2.Same.updNew {q : Addr} {H H' : Hp} {o : HO} (x : Same H H') (hq : H q = none) : Same H (L2.upd H' q o) := fun b u e => by
  rw [upd_ne (ne_of_none e hq)]; exact x b u e
/-! ### the pool of draws, and the script -/
def PoolAt (H : Hp) (p : Addr) : Prop := ∃ a b c d : Int, H p = some (.lst [.int a, .int b, .int c, .int d]) ∧ 0 ≤ a
/-- the script, as long as all but p stays -/
def Scr (K : PySem.W.Frag) (ns : List Int) (a : Addr) (H : Hp) (p : Addr) : Prop := ∀ H', Ex p H H' → SqL K H' a (ns.map V.int)
def St (K : PySem.W.Frag) (ns : List Int) (a : Addr) (H : Hp) (p : Addr) : Prop := PoolAt H p ∧ Scr K ns a H p
theorem Scr.ex {K : PySem.W.Frag} {ns : List Int} {a p : Addr} {H H' : Hp} (h : Scr K ns a H p) (x : Ex p H H') : Scr K ns a H' p := fun H2 y => h H2 (x.trans y)
theorem Scr.mk {K : PySem.W.Frag} {ns : List Int} {a p : Addr} {H : Hp} (h : SqL K H a (ns.map V.int)) (hp : H p = none) : Scr K ns a H p := fun H' x => by
  rcases h with h | h
  · refine .inl ?_
    rcases h with h | ⟨o, h⟩
    · exact .inl (x _ _ (fun z => hp_ne h hp z.symm) h)
    · exact .inr ⟨o, x _ _ (fun z => hp_ne h hp z.symm) h⟩
  · exact .inr h
theorem St.ex {K : PySem.W.Frag} {ns : List Int} {a p : Addr} {H H' : Hp} (h : St K ns a H p) (x : Ex p H H') (g : PoolAt H' p) : St K ns a H' p := ⟨g, h.2.ex x⟩
theorem PoolAt.same {H H' : Hp} {p : Addr} (h : PoolAt H p) (s : Same H H') : PoolAt H' p := by
  obtain ⟨a, b, c, d, h1, h2⟩ := h
  exact ⟨a, b, c, d, s _ _ h1, h2⟩
theorem St.same {K : PySem.W.Frag} {ns : List Int} {a p : Addr} {H H' : Hp} (h : St K ns a H p) (s : Same H H') : St K ns a H' p := ⟨h.1.same s, h.2.ex (Same.ex s)⟩
theorem St.ne {K : PySem.W.Frag} {ns : List Int} {a p q : Addr} {H : Hp} (h : St K ns a H p) (hq : H q = none) : q ≠ p := by
  obtain ⟨⟨a, b, c, d, h1, h2⟩, _⟩ := h
  exact hp_ne h1 hq
theorem St.upd {K : PySem.W.Frag} {ns : List Int} {a p q : Addr} {H0 H : Hp} {o : HO} (h0 : St K ns a H0 p) (h : St K ns a H p) (x : Ex p H0 (L2.upd H q o)) (n : q ≠ p) : St K ns a (L2.upd H q o) p := by
  obtain ⟨⟨a, b, c, d, h1, h2⟩, _⟩ := h
  exact ⟨⟨a, b, c, d, by rw [upd_ne n.symm]; exact h1, h2⟩, h0.2.ex x⟩
theorem fm_nonneg (a : Int) {b : Int} (h : 0 < b) : 0 ≤ a.fmod b := Int.fmod_nonneg_of_pos a h
theorem fm_lt (a : Int) {b : Int} (h : 0 < b) : a.fmod b < b := Int.fmod_lt_of_pos a h
theorem atI_ints {ns : List Int} {a : Int} (h0 : 0 ≤ a) (h1 : a < ns.length) : ∃ n, atI (ns.map V.int) a = some (V.int n) := by
  obtain ⟨j, rfl⟩ := Int.eq_ofNat_of_zero_le h0
  have hj : j < ns.length := by exact_mod_cast h1
  exact ⟨ns[j], atI_nat (by rw [List.getElem?_map, List.getElem?_eq_getElem hj]; rfl)⟩
def spTake (K : PySem.W.Frag) (ns : List Int) : Sp := fun vs H Q _ => ∃ (a p : Addr) (m : Int), vs = [.ref a, .ref p, .int m] ∧ St K ns a H p ∧ 0 < m ∧ m < 1073741824 ∧
  ∀ H' (r : Int), Ex p H H' → St K ns a H' p → 0 ≤ r → r < m → Q (.int r) H'
section
variable {P : Program} {w : World} {K : PySem.W.Frag} {mg : Str → Option Value} {base : Heap}
theorem ok_l_take (T : Tx K mg) (ns : List Int) : FnOk P w K mg base CX0 1 T.f_l_take T.fd_l_take P_l_take (spTake K ns) := by
  refine T.F_l_take.ok sc_l_take (fun vs H Q E h => ?_) (fun cdv A outer s H vs Q E hr h => ?_)
  · obtain ⟨a, p, m, rfl, _⟩ := h
    rfl
  · obtain ⟨a, p, m, rfl, hst, hm, hm2, k0⟩ := h
    have k : ∀ H' (r : Int), Ex p H H' → PoolAt H' p → 0 ≤ r → r < m → Q (.int r) H' := fun H' r x g => k0 H' r x (hst.ex x g)
    refine ⟨_, (pss_cons (ps_asg (pe_op op_add (pe_ix (ix_listK (K := K) rfl) (pv 1) pe_int (fun _ _ => rfl)) pe_int) (pg_sub (pv 1) pe_int set_list))
        (C8.pss_cut (ps_if (PW.pt (pw_and (pt_cmpR op_eq (pe_ix (ix_listK (K := K) rfl) (pv 1) pe_int (fun _ _ => rfl)) pe_int (nomark _)) (pw_and1 (pt_cmpR op_lt (pe_ix (ix_listK (K := K) rfl) (pv 1) pe_int (fun _ _ => rfl)) (pe_callB (call_len_seqK (K := K) rfl) rfl T.n_len (by decide +kernel) (pa_cons (pv 0) pa_nil)) (nomark _))))) (pss_cons (ps_set (i := 3) sc_l_take.nd rfl (Or.inl rfl) (pe_ix (ix_listK (K := K) rfl) (pv 0) (pe_ix (ix_listK (K := K) rfl) (pv 1) pe_int (fun _ _ => rfl)) (fun _ _ => rfl)))
        (pss_cons (ps_asg (pe_op op_add (pe_ix (ix_listK (K := K) rfl) (pv 1) pe_int (fun _ _ => rfl)) pe_int) (pg_sub (pv 1) pe_int set_list))
        (C8.pss_cut (ps_if (pt_cmpR op_lt (pv 3) pe_int (nomark _)) (pss_one (ps_set (i := 3) sc_l_take.nd rfl (Or.inl rfl) (pe_un un_neg (pv 3)))) pss_nil)
        (pss_one (ps_if (pt_cmpR op_ge (pv 3) (pe_op op_pow pe_int pe_int) (nomark _)) (pss_one (ps_asg (pv 3) (pg_sub (pv 1) pe_int set_list))) (pss_one (ps_asg (pe_op op_modN (pe_callTy call_int1 rfl T.n_int (by decide +kernel) (pa_cons (pe_op op_add (pe_op op_add (pe_op op_mul (pe_ix (ix_listK (K := K) rfl) (pv 1) pe_int (fun _ _ => rfl)) pe_int) (pv 3)) pe_int) pa_nil)) pe_int) (pg_sub (pv 1) pe_int set_list)))))))) pss_nil)
        (pss_cons (ps_if (pt_cmpR op_gt (pe_ix (ix_listK (K := K) rfl) (pv 1) pe_int (fun _ _ => rfl)) pe_int (nomark _)) (pss_cons (ps_set (i := 4) sc_l_take.nd rfl (Or.inl rfl) (pe_op op_modN (pe_callTy call_int1 rfl T.n_int (by decide +kernel) (pa_cons (pe_ix (ix_listK (K := K) rfl) (pv 1) pe_int (fun _ _ => rfl)) pa_nil)) (pv 2)))
        (pss_cons (ps_asg (pe_op op_fdivN (pe_ix (ix_listK (K := K) rfl) (pv 1) pe_int (fun _ _ => rfl)) (pv 2)) (pg_sub (pv 1) pe_int set_list))
        (pss_one (ps_ret (pv 4))))) pss_nil)
        (pss_cons (ps_set (i := 5) sc_l_take.nd rfl (Or.inl rfl) (pe_op op_modN (pe_op op_mul (pe_callTy call_int1 rfl T.n_int (by decide +kernel) (pa_cons (pe_op op_add (pe_op op_add (pe_ix (ix_listK (K := K) rfl) (pv 1) pe_int (fun _ _ => rfl)) (pe_op op_mul pe_int (pe_ix (ix_listK (K := K) rfl) (pv 1) pe_int (fun _ _ => rfl)))) pe_int) pa_nil)) pe_int) pe_int))
        (pss_cons (ps_set (i := 5) sc_l_take.nd rfl (Or.inl rfl) (pe_op op_modN (pe_callTy call_int1 rfl T.n_int (by decide +kernel) (pa_cons (pe_op op_mul (pv 5) (pe_op op_add (pe_op op_fdivN (pv 5) pe_int) pe_int)) pa_nil)) pe_int))
        (pss_cons (ps_set (i := 5) sc_l_take.nd rfl (Or.inl rfl) (pe_op op_modN (pe_callTy call_int1 rfl T.n_int (by decide +kernel) (pa_cons (pe_op op_mul (pv 5) (pe_op op_add (pe_op op_fdivN (pv 5) pe_int) pe_int)) pa_nil)) pe_int))
        (pss_one (ps_ret (pe_op op_modN (pe_callTy call_int1 rfl T.n_int (by decide +kernel) (pa_cons (pe_op op_fdivN (pv 5) pe_int) pa_nil)) (pv 2)))))))))), ?_⟩
    obtain ⟨⟨b0, b1, b2, b3, hp, h0⟩, hS⟩ := hst
    refine ⟨_, rfl, _, _, _, _, rfl, rfl, SqL.of hp, rfl, _, _, rfl, rfl, _, rfl, p, _, _, _, rfl, rfl, hp, rfl, ?_⟩
    refine ⟨fun σ' H' => (∃ v, σ' = [some (.ref a), some (.ref p), some (.int m), v, none, none]) ∧ Ex p H H' ∧ PoolAt H' p, ?_, ?_⟩
    · refine ⟨_, rfl, _, _, _, _, rfl, rfl, SqL.of upd_same, rfl, rfl, _, rfl, ?_⟩
      refine ite2 (fun c1 => ?_) (fun c1 => ?_)
      · refine ⟨_, rfl, _, _, _, _, rfl, rfl, SqL.of upd_same, rfl, _, rfl, a, _, rfl, .inl (hS _ (Ex.upd _)), _, _, rfl, rfl, _, rfl, ?_⟩
        refine ite2 (fun c2 => ?_) (fun c2 => ?_)
        · rw [List.length_map] at c2
          obtain ⟨n, hn⟩ := atI_ints (ns := ns) h0 (by simpa using c2)
          refine ⟨_, rfl, _, rfl, _, _, _, _, rfl, rfl, SqL.of upd_same, rfl, a, _, _, _, rfl, rfl, hS _ (Ex.upd _), hn, ?_⟩
          refine ⟨_, rfl, _, _, _, _, rfl, rfl, SqL.of upd_same, rfl, _, _, rfl, rfl, _, rfl, p, _, _, _, rfl, rfl, upd_same, rfl, ?_⟩
          refine ⟨fun σ' H' => (∃ z : Int, σ' = [some (.ref a), some (.ref p), some (.int m), some (.int z), none, none]) ∧ Ex p H H' ∧ PoolAt H' p, ?_, ?_⟩
          · refine ⟨_, rfl, _, _, rfl, rfl, _, rfl, ?_⟩
            refine ite2 (fun c3 => ?_) (fun c3 => ?_)
            · exact ⟨_, rfl, _, rfl, ⟨_, rfl⟩, (Ex.upd _).trans (Ex.upd _), _, _, _, _, upd_same, by omega⟩
            · exact ⟨⟨_, rfl⟩, (Ex.upd _).trans (Ex.upd _), _, _, _, _, upd_same, by omega⟩
          · rintro σ' H' ⟨⟨z, rfl⟩, x1, c0, c1, c2, c3, hp1, h1⟩
            refine ⟨_, rfl, _, _, rfl, rfl, ⟨by decide, by decide, by decide⟩, _, _, rfl, rfl, _, rfl, ?_⟩
            refine ite2 (fun c3 => ?_) (fun c3 => ?_)
            · exact ⟨_, rfl, _, rfl, p, _, _, _, rfl, rfl, hp1, rfl, ⟨_, rfl⟩, x1.trans (Ex.upd _), _, _, _, _, upd_same, h1⟩
            · refine ⟨_, rfl, _, _, _, _, rfl, rfl, SqL.of hp1, rfl, _, _, rfl, rfl, .inr (by decide), _, rfl, _, _, rfl, rfl, _, _, rfl, rfl, .inl ⟨_, rfl, _, _, rfl, rfl, (by decide : (1000000007 : Int) ≠ 0), ?_⟩⟩
              exact ⟨_, rfl, p, _, _, _, rfl, rfl, hp1, rfl, ⟨_, rfl⟩, x1.trans (Ex.upd _), _, _, _, _, upd_same, h1⟩
        · exact ⟨⟨_, rfl⟩, Ex.upd _, _, _, _, _, upd_same, h0⟩
      · exact iteF ⟨⟨_, rfl⟩, Ex.upd _, _, _, _, _, upd_same, h0⟩
    · rintro σ' H1 ⟨⟨v, rfl⟩, x1, c0, c1, c2, c3, hp1, h1⟩
      refine ⟨_, rfl, _, _, _, _, rfl, rfl, SqL.of hp1, rfl, _, _, rfl, rfl, _, rfl, ?_⟩
      refine ite2 (fun d1 => ?_) (fun d1 => ?_)
      · refine ⟨_, rfl, _, _, _, _, rfl, rfl, SqL.of hp1, rfl, .inl ⟨_, rfl, _, rfl, _, _, rfl, rfl, by omega, ?_⟩⟩
        refine ⟨_, rfl, _, _, _, _, rfl, rfl, SqL.of hp1, rfl, _, rfl, _, _, rfl, rfl, ⟨by omega, by omega⟩, _, rfl, p, _, _, _, rfl, rfl, hp1, rfl, ?_⟩
        exact ⟨_, rfl, k _ _ (x1.trans (Ex.upd _)) ⟨_, _, _, _, upd_same, h1⟩ (fm_nonneg _ hm) (fm_lt _ hm)⟩
      · have hx0 := fm_nonneg ((c3 + 7919 * c2 + 1) * 48271) (b := 2147483647) (by decide)
        have hx1 := fm_lt ((c3 + 7919 * c2 + 1) * 48271) (b := 2147483647) (by decide)
        refine ⟨_, rfl, _, _, _, _, rfl, rfl, SqL.of hp1, rfl, _, rfl, _, _, _, _, rfl, rfl, SqL.of hp1, rfl, _, _, rfl, rfl, .inl (by decide), _, _, rfl, rfl, _, _, rfl, rfl, .inl ⟨_, rfl, _, _, rfl, rfl, .inr (by decide), _, _, rfl, rfl, (by decide : (2147483647 : Int) ≠ 0), ?_⟩⟩
        refine ⟨_, rfl, _, rfl, _, _, rfl, rfl, ⟨by decide, by decide⟩, _, _, rfl, rfl, _, _, rfl, rfl, .inl ⟨Int.lt_of_lt_of_le (by decide) hx0, Int.lt_trans hx1 (by decide)⟩, .inl ⟨_, rfl, _, _, rfl, rfl, (by decide : (2147483629 : Int) ≠ 0), ?_⟩⟩
        refine ⟨_, rfl, _, rfl, _, _, rfl, rfl, ⟨by decide, by decide⟩, _, _, rfl, rfl, _, _, rfl, rfl, .inl ⟨Int.lt_of_lt_of_le (by decide) (fm_nonneg _ (by decide)), Int.lt_trans (fm_lt _ (by decide)) (by decide)⟩, .inl ⟨_, rfl, _, _, rfl, rfl, (by decide : (2147483399 : Int) ≠ 0), ?_⟩⟩
        refine ⟨_, rfl, _, _, rfl, rfl, ⟨by decide, by decide⟩, .inl ⟨_, rfl, _, rfl, _, _, rfl, rfl, by omega, ?_⟩⟩
        exact k _ _ x1 ⟨_, _, _, _, hp1, h1⟩ (fm_nonneg _ hm) (fm_lt _ hm)
end
end J


set_option Elab.async false
set_option linter.all false
set_option maxRecDepth 100000
set_option maxHeartbeats 4000000
namespace J
open PySem L2
theorem joinL_nil : ∀ ys : List (List Nat), TL.joinL [] ys = ys.flatten
  | [] => rfl
  | [p] => by simp [TL.joinL]
  | p :: q :: r => by
    show p ++ ([] ++ TL.joinL [] (q :: r)) = _
    rw [joinL_nil (q :: r)]
    simp
theorem join_flat (ys : List (List Nat)) : Txt.join (SX.S []) (ys.map SX.S) = SX.S ys.flatten := by rw [SX.join_S, joinL_nil]
theorem emptyS : Str.ofString "" = SX.S [] := rfl
theorem sum_ones (us : List Nat) : ((us.map fun c => SX.S [c]).map (·.length)).sum = us.length := by
  induction us with
  | nil => rfl
  | cons a r ih => simp only [List.map_cons, List.sum_cons, ih, SX.S_len, List.length_cons, List.length_nil]; omega
theorem atI_mem {α : Type} {xs : List α} {i : Int} (h0 : 0 ≤ i) (h1 : i < xs.length) : ∃ v, v ∈ xs ∧ atI xs i = some v := by
  obtain ⟨j, rfl⟩ := Int.eq_ofNat_of_zero_le h0
  have hj : j < xs.length := by exact_mod_cast h1
  exact ⟨xs[j], List.getElem_mem hj, atI_nat (List.getElem?_eq_getElem hj)⟩
/-- signs: one to four small letters, ascending -/
def Signs (sg : List Nat) : Prop := 1 ≤ sg.length ∧ sg.length ≤ 4 ∧ (∀ c ∈ sg, 97 ≤ c ∧ c ≤ 122) ∧ sg.Pairwise (· < ·)
instance (sg : List Nat) : Decidable (Signs sg) := by unfold Signs; infer_instance
theorem Signs.len {sg : List Nat} (h : Signs sg) : 1 ≤ sg.length ∧ sg.length ≤ 4 := ⟨h.1, h.2.1⟩
/-- a word over the signs -/
def Word (sg u : List Nat) : Prop := 1 ≤ u.length ∧ u.length ≤ 12 ∧ ∀ c ∈ u, c ∈ sg
def txts (ws : List (List Nat)) : List V := ws.map fun u => V.str (SX.S u)
def spSignsOf (K : PySem.W.Frag) (ns : List Int) : Sp := fun vs H Q _ => ∃ (a p : Addr), vs = [.ref a, .ref p] ∧ St K ns a H p ∧ ∀ H' sg, Ex p H H' → St K ns a H' p → Signs sg → Q (.str (SX.S sg)) H'
def spWord (K : PySem.W.Frag) (ns : List Int) : Sp := fun vs H Q _ => ∃ (a p : Addr) (sg : List Nat) (m : Int), vs = [.ref a, .ref p, .str (SX.S sg), .int m] ∧ St K ns a H p ∧ Signs sg ∧ 0 < m ∧ m ≤ 12 ∧
  ∀ H' u, Ex p H H' → St K ns a H' p → Word sg u → (u.length : Int) ≤ m → Q (.str (SX.S u)) H'
def spWords (K : PySem.W.Frag) (ns : List Int) : Sp := fun vs H Q _ => ∃ (a p : Addr) (sg : List Nat) (n m : Int), vs = [.ref a, .ref p, .str (SX.S sg), .int n, .int m] ∧ St K ns a H p ∧ Signs sg ∧ 0 < n ∧ n ≤ 1000 ∧ 0 < m ∧ m ≤ 12 ∧
  ∀ H' (q : Addr) us, Ex p H H' → St K ns a H' p → H q = none → q ≠ p → H' q = some (.lst (txts us)) → (∀ u ∈ us, Word sg u ∧ (u.length : Int) ≤ m) → 1 ≤ us.length → (us.length : Int) ≤ n → Q (.ref q) H'
theorem le_size {n : Nat} (h : n ≤ 100000) : n ≤ sizeLine := Nat.le_trans h (by decide)
theorem lt_size {n : Nat} (h : n ≤ 100000) : n < sizeLine := Nat.lt_of_le_of_lt h (by decide)
theorem signs_menu {v : V} (h : v ∈ ([.str "ab", .str "ab", .str "abc", .str "xz", .str "a", .str "bdfh"] : List V)) : ∃ sg, v = .str (SX.S sg) ∧ Signs sg := by
  simp only [List.mem_cons, List.not_mem_nil, or_false] at h
  rcases h with rfl | rfl | rfl | rfl | rfl | rfl
  · exact ⟨[97, 98], rfl, by decide⟩
  · exact ⟨[97, 98], rfl, by decide⟩
  · exact ⟨[97, 98, 99], rfl, by decide⟩
  · exact ⟨[120, 122], rfl, by decide⟩
  · exact ⟨[97], rfl, by decide⟩
  · exact ⟨[98, 100, 102, 104], rfl, by decide⟩
section
variable {P : Program} {w : World} {K : PySem.W.Frag} {mg : Str → Option Value} {base : Heap}
theorem ok_l_signs (T : Tx K mg) (ns : List Int) : FnOk P w K mg base CX0 2 T.f_l_signs T.fd_l_signs P_l_signs (spSignsOf K ns) := by
  have G_l_take : FnOk P w K mg base CX0 1 T.f_l_take T.fd_l_take P_l_take (spTake K ns) := ok_l_take T ns
  refine T.F_l_signs.ok sc_l_signs (fun vs H Q E h => ?_) (fun cdv A outer s H vs Q E hr h => ?_)
  · obtain ⟨a, p, rfl, _⟩ := h
    rfl
  · obtain ⟨a, p, rfl, hst, k⟩ := h
    refine ⟨_, (pss_one (ps_ret (pe_ix (ix_listK (K := K) rfl) (pe_lst (pa_cons pe_str (pa_cons pe_str (pa_cons pe_str (pa_cons pe_str (pa_cons pe_str (pa_cons pe_str pa_nil))))))) (pe_call G_l_take (hr.mono (by decide)) rfl T.m_l_take T.F_l_take.kp T.b_l_take .nil pass0 (pa_cons (pv 0) (pa_cons (pv 1) (pa_cons pe_int pa_nil)))) (fun _ _ => rfl)))), ?_⟩
    refine ⟨le_size (by simp), fun l hl => ?_⟩
    have nl := hst.ne hl
    refine ⟨_, rfl, _, rfl, a, p, 6, rfl, hst.same (Same.new _ hl), by decide, by decide, fun H1 r x1 st1 r0 r1 => ?_⟩
    obtain ⟨v, hv, hat⟩ := atI_mem (xs := ([.str "ab", .str "ab", .str "abc", .str "xz", .str "a", .str "bdfh"] : List V)) r0 (by simpa using r1)
    obtain ⟨sg, rfl, hs⟩ := signs_menu hv
    exact ⟨l, _, _, _, rfl, rfl, SqL.of (x1 _ _ nl upd_same), hat, k _ _ ((Ex.new _ hl).trans x1) st1 hs⟩
end
end J


set_option Elab.async false
set_option linter.all false
set_option maxRecDepth 100000
set_option maxHeartbeats 4000000
namespace J
open PySem L2
abbrev Arc := Nat × List Nat × Nat
def arcHO (a : Arc) : HO := .tup [.int (a.1 : Int), .str (SX.S a.2.1), .int (a.2.2 : Int)]
def Arcs (H : Hp) (vs : List V) (as : List Arc) : Prop := vs.length = as.length ∧ ∀ (i : Nat) (a : Arc), as[i]? = some a → ∃ t, vs[i]? = some (V.ref t) ∧ H t = some (arcHO a)
theorem Arcs.same {H H' : Hp} {vs : List V} {as : List Arc} (h : Arcs H vs as) (s : Same H H') : Arcs H' vs as :=
  ⟨h.1, fun i a e => by obtain ⟨t, h1, h2⟩ := h.2 i a e; exact ⟨t, h1, s _ _ h2⟩⟩
theorem Arcs.ex {H H' : Hp} {p : Addr} {xs : List V} {vs : List V} {as : List Arc} (h : Arcs H vs as) (x : Ex p H H') (hp : H p = some (.lst xs)) : Arcs H' vs as :=
  ⟨h.1, fun i a e => by
    obtain ⟨t, h1, h2⟩ := h.2 i a e
    exact ⟨t, h1, x _ _ (fun z => by rw [z, hp] at h2; cases h2) h2⟩⟩
theorem Arcs.snoc {H : Hp} {vs : List V} {as : List Arc} {t : Addr} {a : Arc} (h : Arcs H vs as) (ht : H t = some (arcHO a)) : Arcs H (vs ++ [V.ref t]) (as ++ [a]) := by
  refine ⟨by simp [h.1], fun i b e => ?_⟩
  by_cases hi : i < as.length
  · rw [List.getElem?_append_left hi] at e
    rw [List.getElem?_append_left (by rw [h.1]; exact hi)]
    exact h.2 i b e
  · rw [List.getElem?_append_right (by omega)] at e
    have e0 : i - as.length = 0 := by
      have q := (List.getElem?_eq_some_iff.mp e).1
      simp at q
      omega
    rw [e0] at e
    cases e
    refine ⟨t, ?_, ht⟩
    rw [List.getElem?_append_right (by rw [h.1]; omega), h.1, e0]
    rfl
theorem Arcs.updL {H : Hp} {vs xs : List V} {as : List Arc} {p : Addr} {o : HO} (h : Arcs H vs as) (hp : H p = some (.lst xs)) : Arcs (upd H p o) vs as := h.ex (Ex.upd o) hp

theorem Arcs.nil (H : Hp) : Arcs H [] [] := ⟨rfl, fun i a e => by simp at e⟩
theorem ex_upd_lst {p : Addr} {H : Hp} {o : HO} : Ex p H (upd H p o) := Ex.upd o
def OkArc (sg : List Nat) (a : Arc) : Prop := a.1 ≤ 63 ∧ Word sg a.2.1 ∧ a.2.2 ≤ 63
def OkArcs (sg : List Nat) (as : List Arc) : Prop := 1 ≤ as.length ∧ as.length ≤ 13 ∧ (∀ a ∈ as, OkArc sg a) ∧ ∃ a : Arc, as[0]? = some a ∧ a.1 = 0
end J


set_option Elab.async false
set_option linter.all false
set_option maxRecDepth 100000
set_option maxHeartbeats 4000000
/-! zip of two texts, in a for and in a comprehension -/
namespace L2
open PySem PySem.Spec PyProof.Rows
/-- two texts at once, the signs in new pairs -/
def ItzS (x y : Str) : It :=
  ⟨fun i _ => i < min x.cps.size y.cps.size,
    fun i H v H' => ∃ T c d, v = .ref T ∧ H T = none ∧ H' = upd H T (.tup [.str ⟨#[c]⟩, .str ⟨#[d]⟩]) ∧ x.cps[i]? = some c ∧ y.cps[i]? = some d,
    fun i _ => i = min x.cps.size y.cps.size⟩
theorem turn_zipS {P : Program} {w : World} {K : PySem.W.Frag} {elts : List Expr} {kk : Nat} {tpos : Pos} {x y : Str} {t1 t2 : Tok} {z TI TO i1 i2 : Addr} (D : ZipSep2 z TI TO i1 i2 [i1] [i2]) :
    Turn P w K (.Tuple elts kk tpos) (ItzS x y) [z, TI, TO, i1, i2] z (fun i h => IsZip h z TI TO .none ∧ IsTupOf2 h TI (.ref i1) (.ref i2) ∧ (∃ x y, IsTupOf2 h TO x y) ∧ h.IsStrIter i1 (strIterType x) x t1 i ∧ h.IsStrIter i2 (strIterType y) y t2 i) where
  mem := by simp
  obj := fun i h st c hc => by
    obtain ⟨hz, hTI, ⟨x, y, hTO⟩, ⟨o1, e1, _, d1⟩, ⟨o2, e2, _, d2⟩⟩ := st
    have e' : c = z ∨ c = TI ∨ c = TO ∨ c = i1 ∨ c = i2 := by simpa using hc
    rcases e' with q | q | q | q | q
    · rw [q]; exact ⟨_, hz, fun v q => nomatch q⟩
    · rw [q]; exact ⟨_, hTI, fun v q => nomatch q⟩
    · rw [q]; exact ⟨_, hTO, fun v q => nomatch q⟩
    · rw [q]; exact ⟨o1, e1, fun v q => by rw [d1] at q; cases q⟩
    · rw [q]; exact ⟨o2, e2, fun v q => by rw [d2] at q; cases q⟩
  keep := fun i h h' st k => by
    obtain ⟨hz, hTI, ⟨x, y, hTO⟩, ⟨o1, e1, r1⟩, ⟨o2, e2, r2⟩⟩ := st
    exact ⟨k z (by simp) _ hz, k TI (by simp) _ hTI, ⟨x, y, k TO (by simp) _ hTO⟩, ⟨o1, k i1 (by simp) _ e1, r1⟩, ⟨o2, k i2 (by simp) _ e2, r2⟩⟩
  item := by
    intro X hP hw hK hc i pins s σ H E I hf st hg
    subst hP hw hK
    obtain ⟨hz, hTI, ⟨x0, y0, hTO⟩, h1, h2⟩ := st
    have hg' : i < min x.cps.size y.cps.size := hg
    have hzl : z < s.heap.objs.size := Heap.lt_size hz
    have hd := I.ok.hd hc
    refine wpAny_pyNext_zipD2_item D (Draws.text (A := X.A.in1) hd i1 x t1) (Draws.text (A := X.A.in1) hd i2 y t2) hz hTI hTO h1 h2 (by omega) (by omega) fun u u2 h' tk p1 p2 z' TO' h1' h2' hT hsz hk => ?_
    obtain ⟨c, tc, hcx, rfl⟩ := p1
    obtain ⟨d, td, hdy, rfl⟩ := p2
    refine ⟨_, rfl, wpAny_letOwnedTupleGo_zip (s := { s with heap := h', toks := tk }) z' fun h'' z'' sb => ?_⟩
    have hT2 : h''.get? s.heap.objs.size = some { cls := .type "tuple", data := .seq #[.str ⟨#[c]⟩ tc, .str ⟨#[d]⟩ td] } := (sb.2 _ (Nat.ne_of_gt hzl)).trans hT
    have new : ObjOk X.prog X.w (upd H s.heap.objs.size (.tup [.str ⟨#[c]⟩, .str ⟨#[d]⟩])) h'' s.heap.objs.size (.tup [.str ⟨#[c]⟩, .str ⟨#[d]⟩]) :=
      ⟨by show 2 ≤ sizeLine; decide, [.str ⟨#[c]⟩ tc, .str ⟨#[d]⟩ td], .cons ⟨_, rfl⟩ (.cons ⟨_, rfl⟩ .nil), ⟨_, hT2, rfl, _, rfl⟩⟩
    have I1 : Inv X pins σ (upd H s.heap.objs.size (.tup [.str ⟨#[c]⟩, .str ⟨#[d]⟩])) { s with heap := h'', toks := tk } :=
      I.turnedNew (t' := tk) (ch := [z, TI, TO, i1, i2]) (fun c o hb q => (sb.2 c (fun q' => hb (by simp [q']))).trans (hk c o (fun q' => hb (by simp [q'])) (fun q' => hb (by simp [q'])) (fun q' => hb (by simp [q'])) (fun q' => hb (by simp [q'])) q)) hf (Nat.le_refl _) new
    have nz1 : i1 ≠ z := D.zi1.symm
    have nz2 : i2 ≠ z := D.zi2.symm
    refine ⟨.ref s.heap.objs.size, _, I1, rfl, ⟨_, c, d, rfl, I.hok.fresh (Nat.le_refl _), rfl, hcx, hdy⟩, ⟨z'', ?_, ⟨_, _, (sb.2 _ D.TOz).trans TO'⟩, ?_, ?_⟩, fun c hcm => ?_⟩
    · exact (sb.2 _ D.TIz).trans (hk _ _ D.TIz D.TITO D.TIi1 D.TIi2 hTI)
    · obtain ⟨o, e, r⟩ := h1'
      exact ⟨o, (sb.2 _ nz1).trans e, r⟩
    · obtain ⟨o, e, r⟩ := h2'
      exact ⟨o, (sb.2 _ nz2).trans e, r⟩
    · have hlt : c < s.heap.objs.size := by
        have e' : c = z ∨ c = TI ∨ c = TO ∨ c = i1 ∨ c = i2 := by simpa using hcm
        rcases e' with q | q | q | q | q
        · rw [q]; exact hzl
        · rw [q]; exact Heap.lt_size hTI
        · rw [q]; exact Heap.lt_size hTO
        · rw [q]; obtain ⟨_, e1, _⟩ := h1; exact Heap.lt_size e1
        · rw [q]; obtain ⟨_, e2, _⟩ := h2; exact Heap.lt_size e2
      rw [upd_ne (Nat.ne_of_lt hlt)]
      exact (hf c hcm).1
  done := by
    intro X hP hw hK hc i pins s σ H E I hf st hg
    subst hP hw hK
    obtain ⟨hz, hTI, ⟨x0, y0, hTO⟩, h1, h2⟩ := st
    have hg' : i = min x.cps.size y.cps.size := hg
    have hd := I.ok.hd hc
    exact wpAny_pyNext_zipD2_end D (Draws.text (A := X.A.in1) hd i1 x t1) (Draws.text (A := X.A.in1) hd i2 y t2) hz hTI hTO h1 h2 (by omega) (by omega) (by omega) fun h' tk hk => ⟨rfl, I.turnedL (t' := tk) (ch := [z, TI, TO, i1, i2]) (fun c o hb q =>
      hk c o (fun q' => hb (by simp [q'])) (fun q' => hb (by simp [q'])) (fun q' => hb (by simp [q'])) (fun q' => hb (by simp [q'])) q) hf⟩
  self := fun A i s Q E st h => wpAny_pyIter_zip st.1 h
def iZipS (ta : TA) : TI := fun σ H R => ta σ H fun vs H1 => ∃ x y, vs = [.str x, .str y] ∧ R (ItzS x y) H1
theorem pi_zipS {X : Cx} {e e2 : Expr} {ta : TA} {p pos tpos : Pos} {elts : List Expr} {kk : Nat} (hg : Gl X "zip") (hm : X.mg "zip" = none) (ha : PA X [e, e2] ta)
    (hs : starEach [e, e2] X.env = (false, eval e X.env) :: starEach [e2] X.env := by rfl) (hpl : (backTo pos (starEach [e2] X.env)).any (·.1) = false := by rfl) :
    PI X (.Tuple elts kk tpos) (.Call (.Name "zip" p) [e, e2] [] pos) (iZipS ta) := by
  refine ⟨fun pins s σ H R I h => ?_⟩
  refine Call_ (ld_blt I hg hm PyProof.Rows.boot_zip (PyProof.Rows.callWith_type1 (thn (ha.run pos pins s σ H _ I h) fun us s1 ⟨vs, H1, I1, r1, q1⟩ => ?_) hs hpl))
  obtain ⟨x, y, ex, q⟩ := q1
  subst ex
  cases r1 with
  | cons r rr =>
    cases rr with
    | cons r' rr =>
      cases rr
      obtain ⟨t1, rfl⟩ := r
      obtain ⟨t2, rfl⟩ := r'
      refine zip_begins2 (begins_text x t1) (begins_text y t2) trivial trivial fun h' hz hTI hTO h1 h2 hsz hk => wpAny_pyIter_zip hz ?_
      have I2 : Inv X pins σ H1 { s1 with heap := h' } := I1.kept (t' := s1.toks) hk
      generalize hn : s1.heap.objs.size = n at hz hTI hTO h1 h2 hsz ⊢
      have D : ZipSep2 (n + 4) (n + 2) (n + 3) n (n + 1) [n] [n + 1] := by constructor <;> simp <;> omega
      refine ⟨n + 4, [n + 4, n + 2, n + 3, n, n + 1], _, _, H1, rfl, I2, turn_zipS (t1 := t1) (t2 := t2) D, ⟨hz, hTI, ⟨_, _, hTO⟩, ⟨_, h1, rfl, rfl⟩, ⟨_, h2, rfl, rfl⟩⟩, fun c hcm => ?_, q⟩
      have e' : c = n + 4 ∨ c = n + 2 ∨ c = n + 3 ∨ c = n ∨ c = n + 1 := by simpa using hcm
      have hle : s1.heap.objs.size ≤ c := by
        rw [hn]
        rcases e' with q | q | q | q | q
        · rw [q]; exact Nat.le_add_right _ _
        · rw [q]; exact Nat.le_add_right _ _
        · rw [q]; exact Nat.le_add_right _ _
        · rw [q]; exact Nat.le_refl _
        · rw [q]; exact Nat.le_add_right _ _
      exact I1.fpOk hle (I1.hok.fresh hle)
end L2

set_option Elab.async false
set_option linter.all false
set_option maxRecDepth 100000
set_option maxHeartbeats 4000000
namespace J
open PySem L2

def spNumber : Sp := fun vs H Q _ => ∃ i lo hi : Int, vs = [.int i, .int lo, .int hi] ∧ ∀ b : Bool, (b = true ↔ lo ≤ i ∧ i ≤ hi) → Q (.bl b) H
def spSequence (K : PySem.W.Frag) : Sp := fun vs H Q _ => ∃ (a : Addr) (xs : List V) (lo hi : Int), vs = [.ref a, .int lo, .int hi] ∧ (H a = some (.lst xs) ∨ H a = some (.tup xs)) ∧ ∀ (H' : Hp) (b : Bool), Same H H' → (b = true ↔ lo ≤ xs.length ∧ xs.length ≤ hi) → Q (.bl b) H'
def spOver : Sp := fun vs H Q _ => ∃ (sg u : List Nat) (lo hi : Int), vs = [.str (SX.S sg), .str (SX.S u), .int lo, .int hi] ∧ lo ≤ u.length ∧ u.length ≤ hi ∧ hi ≤ 100000 ∧ (∀ c ∈ u, c ∈ sg) ∧ ∀ H' : Hp, Same H H' → Q (.bl true) H'
def spIsWord : Sp := fun vs H Q _ => ∃ (sg u : List Nat), vs = [.str (SX.S sg), .str (SX.S u)] ∧ Word sg u ∧ ∀ H' : Hp, Same H H' → Q (.bl true) H'
def spSigns : Sp := fun vs H Q _ => ∃ sg : List Nat, vs = [.str (SX.S sg)] ∧ Signs sg ∧ ∀ H' : Hp, Same H H' → Q (.bl true) H'
def spArc : Sp := fun vs H Q _ => ∃ (sg : List Nat) (t : Addr) (a : Arc), vs = [.str (SX.S sg), .ref t] ∧ H t = some (arcHO a) ∧ OkArc sg a ∧ ∀ H' : Hp, Same H H' → Q (.bl true) H'
def spState1 : Sp := fun vs H Q _ => ∃ i : Int, vs = [.int i] ∧ 0 ≤ i ∧ i ≤ 63 ∧ Q .non H
def spText1 : Sp := fun vs H Q _ => ∃ (sg u : List Nat), vs = [.str (SX.S sg), .str (SX.S u)] ∧ u.length ≤ 2000 ∧ (∀ c ∈ u, c ∈ sg) ∧ ∀ H' : Hp, Same H H' → Q .non H'
theorem rep_snoc (n : Nat) : (HO.lst ((List.replicate n true).map V.bl ++ [V.bl true])) = HO.lst ((List.replicate (n + 1) true).map V.bl) := by
  congr 1
  rw [List.replicate_succ']
  simp
theorem all_true {n : Nat} : (List.replicate n true).all id = true := by simp
section
variable {P : Program} {w : World} {K : PySem.W.Frag} {mg : Str → Option Value} {base : Heap}

theorem ok_is_number (T : Tx K mg) : FnOk P w K mg base CX0 1 T.f_is_number T.fd_is_number P_is_number spNumber := by
  refine T.F_is_number.ok sc_is_number (fun vs H Q E h => ?_) (fun cdv A outer s H vs Q E hr h => ?_)
  · obtain ⟨i, lo, hi, rfl, _⟩ := h
    rfl
  · obtain ⟨i, lo, hi, rfl, k⟩ := h
    refine ⟨_, (pss_one (ps_ret (pe_and (pe_callB (call_isiK' (K := K) rfl) rfl T.n_isinstance (by decide +kernel) (pa_cons (pv 0) (pa_cons (pe_bltn (v := V.ty "int") (u := .type "int") rfl T.n_int (by decide +kernel) rfl) pa_nil))) (pe_and (pe_not (pe_callB (call_isiK' (K := K) rfl) rfl T.n_isinstance (by decide +kernel) (pa_cons (pv 0) (pa_cons (pe_bltn (v := V.ty "bool") (u := .type "bool") rfl T.n_bool (by decide +kernel) rfl) pa_nil)))) (pe_one (pe_chain op_le op_le (pv 1) (pv 0) (pv 2))))))), ?_⟩
    refine ⟨_, rfl, _, _, _, _, true, rfl, .ty "int", .base (.int i), kit_ty (by decide +kernel), true, rfl, ?_⟩
    refine ⟨_, rfl, _, _, _, _, false, rfl, .ty "bool", .base (.int i), kit_ty (by decide +kernel), false, rfl, true, rfl, ?_⟩
    refine ⟨_, rfl, _, rfl, _, _, rfl, rfl, _, rfl, ?_⟩
    refine ite2 (fun c => ?_) (fun c => ?_)
    · refine ⟨_, rfl, _, _, rfl, rfl, k _ ?_⟩
      have c1 := of_decide_eq_true c
      constructor
      · intro h; exact ⟨c1, of_decide_eq_true h⟩
      · intro h; exact decide_eq_true h.2
    · refine k _ ?_
      constructor
      · intro h; cases h
      · intro h; exact absurd (decide_eq_true h.1) c

theorem ok_is_sequence (T : Tx K mg) : FnOk P w K mg base CX0 1 T.f_is_sequence T.fd_is_sequence P_is_sequence (spSequence K) := by
  refine T.F_is_sequence.ok sc_is_sequence (fun vs H Q E h => ?_) (fun cdv A outer s H vs Q E hr h => ?_)
  · obtain ⟨a, xs, lo, hi, rfl, _⟩ := h
    rfl
  · obtain ⟨a, xs, lo, hi, rfl, ha, k⟩ := h
    refine ⟨_, (pss_one (ps_ret (pe_and (pe_callB (call_isiTK (K := K) rfl) rfl T.n_isinstance (by decide +kernel) (pa_cons (pv 0) (pa_cons (pe_tup (pa_cons (pe_bltn (v := V.ty "list") (u := .type "list") rfl T.n_list (by decide +kernel) rfl) (pa_cons (pe_bltn (v := V.ty "tuple") (u := .type "tuple") rfl T.n_tuple (by decide +kernel) rfl) pa_nil))) pa_nil))) (pe_one (pe_chain op_le op_le (pv 1) (pe_callB (call_len_seqK (K := K) rfl) rfl T.n_len (by decide +kernel) (pa_cons (pv 0) pa_nil)) (pv 2)))))), ?_⟩
    refine ⟨_, rfl, le_size (by decide), fun t ht => ?_⟩
    have st := Same.new (.tup [V.ty "list", V.ty "tuple"]) ht
    have two : ∃ tv, TyX K (upd H t (.tup [V.ty "list", V.ty "tuple"])) (.ref a) tv ∧ PySem.W.kitAny K tv [.type "list", .type "tuple"] = some true := by
      rcases ha with ha | ha
      · exact ⟨_, .base (.lst (st _ _ ha)), kitAny_cons (b := true) (kit_ty (by decide +kernel)) (fun q => nomatch q) (fun _ => rfl)⟩
      · exact ⟨_, .base (.tup (st _ _ ha)), kitAny_cons (b := false) (kit_ty (by decide +kernel)) (fun _ => kitAny_cons (b := true) (kit_ty (by decide +kernel)) (fun q => nomatch q) (fun _ => rfl)) (fun q => nomatch q)⟩
    have one : SqL K (upd H t (.tup [V.ty "list", V.ty "tuple"])) a xs ∨ SqT K (upd H t (.tup [V.ty "list", V.ty "tuple"])) a xs := by
      rcases ha with ha | ha
      · exact .inl (SqL.of (st _ _ ha))
      · exact .inr (SqT.of (st _ _ ha))
    obtain ⟨tv, htv, hkt⟩ := two
    refine ⟨_, _, _, _, [.type "list", .type "tuple"], true, rfl, upd_same, .cons (.ty _) (.cons (.ty _) .nil), htv, hkt, true, rfl, ?_⟩
    refine ⟨_, rfl, _, rfl, a, xs, rfl, one, _, _, rfl, rfl, _, rfl, ?_⟩
    refine ite2 (fun c => ?_) (fun c => ?_)
    · refine ⟨_, rfl, _, _, rfl, rfl, k _ _ st ?_⟩
      have c1 := of_decide_eq_true c
      constructor
      · intro h; exact ⟨c1, of_decide_eq_true h⟩
      · intro h; exact decide_eq_true h.2
    · refine k _ _ st ?_
      constructor
      · intro h; cases h
      · intro h; exact absurd (decide_eq_true h.1) c

theorem ok_is_string_over (T : Tx K mg) : FnOk P w K mg base CX0 1 T.f_is_string_over T.fd_is_string_over P_is_string_over spOver := by
  refine T.F_is_string_over.ok sc_is_string_over (fun vs H Q E h => ?_) (fun cdv A outer s H vs Q E hr h => ?_)
  · obtain ⟨sg, u, lo, hi, rfl, _⟩ := h
    rfl
  · obtain ⟨sg, u, lo, hi, rfl, h1, h2, h3, hu, k⟩ := h
    refine ⟨_, (pss_cons (ps_if (PW.pt (pw_or (pt_not (pt_val (pe_callB (call_isiK' (K := K) rfl) rfl T.n_isinstance (by decide +kernel) (pa_cons (pv 1) (pa_cons (pe_bltn (v := V.ty "str") (u := .type "str") rfl T.n_str (by decide +kernel) rfl) pa_nil))))) (pw_or1 (pt_not (pt_chain op_le op_le (pv 2) (pe_callB call_len_str rfl T.n_len (by decide +kernel) (pa_cons (pv 1) pa_nil)) (pv 3)))))) (pss_one (ps_ret pe_bl)) pss_nil)
        (pss_one (ps_ret (pe_callB (cr_allK (K := K) rfl rfl) rfl T.n_all (by decide +kernel) (pa_cons (pe_lc (own := [("sign", 4)]) (g := (gName 4)) rfl sc_is_string_over.nd (pi_str (pv 1)) (blkOk_by (N := N_is_string_over) (sc := defScope s_is_string_over) (by decide +kernel)) (fun _ _ _ _ _ => (pg_name (i := 4) sc_is_string_over.nd rfl (Or.inl rfl))) (fun _ _ _ _ _ => pts_nil) (fun _ _ _ _ _ => (pe_cmpR op_in_sign (pv 4) (pv 0) rfl))) pa_nil))))), ?_⟩
    have hl : (SX.S u).length ≤ sizeLine := le_size (by rw [SX.S_len]; omega)
    refine ⟨_, rfl, _, _, _, _, true, rfl, .ty "str", .base (.str _), kit_ty (by decide +kernel), true, rfl, ?_⟩
    have e : ((SX.S u).length : Int) = u.length := by rw [SX.S_len]
    refine ⟨_, rfl, _, rfl, _, rfl, hl, _, _, rfl, rfl, true, congrArg V.bl (decide_eq_true (by rw [e]; exact h1)), ?_⟩
    refine ⟨_, rfl, _, _, rfl, rfl, true, congrArg V.bl (decide_eq_true (by rw [e]; exact h2)), ?_⟩
    refine ⟨_, rfl, _, rfl, fun D hD => lc_it (walk_str (z := SX.S u)) (fun i H' => H' D = some (.lst ((List.replicate i true).map V.bl)) ∧ Same H H') ⟨upd_same, Same.new _ hD⟩ (fun _ _ _ _ => trivial) ?_ ?_⟩
    · rintro i x H1 H2 hi ⟨hDl, sm⟩ ⟨rfl, c, hc, rfl⟩
      have hcu : c ∈ u := by
        have q : u[i]? = some c := by simpa using hc
        exact List.mem_of_getElem? q
      have hi2 : i ≤ 100000 := by
        have q : i < (SX.S u).length := hi
        rw [SX.S_len] at q
        omega
      refine ⟨rfl, _, rfl, _, rfl, c, _, rfl, rfl, _, hDl, lt_size (by simp; exact hi2), ?_, sm.updNew hD⟩
      rw [upd_same, decide_eq_true (by simpa using hu c hcu), rep_snoc]
    · rintro H1 ⟨hDl, sm⟩
      refine ⟨D, _, rfl, SqL.of hDl, ?_⟩
      rw [all_true]
      exact k _ sm

theorem ok_is_word (T : Tx K mg) : FnOk P w K mg base CX0 2 T.f_is_word T.fd_is_word P_is_word spIsWord := by
  have G_is_string_over : FnOk P w K mg base CX0 1 T.f_is_string_over T.fd_is_string_over P_is_string_over spOver := ok_is_string_over T
  refine T.F_is_word.ok sc_is_word (fun vs H Q E h => ?_) (fun cdv A outer s H vs Q E hr h => ?_)
  · obtain ⟨sg, u, rfl, _⟩ := h
    rfl
  · obtain ⟨sg, u, rfl, ⟨h1, h2, h3⟩, k⟩ := h
    refine ⟨_, (pss_one (ps_ret (pe_call G_is_string_over (hr.mono (by decide)) rfl T.m_is_string_over T.F_is_string_over.kp T.b_is_string_over .nil pass0 (pa_cons (pv 0) (pa_cons (pv 1) (pa_cons pe_int (pa_cons (pe_glob (v := V.int 12) rfl T.g_LONGEST_WORD ⟨_, rfl⟩) pa_nil))))))), ?_⟩
    exact ⟨_, rfl, _, rfl, sg, u, 1, 12, rfl, by omega, by omega, by omega, h3, k⟩
theorem ok_is_arc (T : Tx K mg) : FnOk P w K mg base CX0 3 T.f_is_arc T.fd_is_arc P_is_arc spArc := by
  have G_is_number : FnOk P w K mg base CX0 1 T.f_is_number T.fd_is_number P_is_number spNumber := ok_is_number T
  have G_is_word : FnOk P w K mg base CX0 2 T.f_is_word T.fd_is_word P_is_word spIsWord := ok_is_word T
  refine T.F_is_arc.ok sc_is_arc (fun vs H Q E h => ?_) (fun cdv A outer s H vs Q E hr h => ?_)
  · obtain ⟨sg, t, a, rfl, _⟩ := h
    rfl
  · obtain ⟨sg, t, ⟨s1, u, g1⟩, rfl, ht, ⟨hs, hw, hg⟩, k⟩ := h
    refine ⟨_, (pss_cons (ps_if (PW.pt (pw_or (pt_not (pt_val (pe_callB (call_isiK' (K := K) rfl) rfl T.n_isinstance (by decide +kernel) (pa_cons (pv 1) (pa_cons (pe_bltn (v := V.ty "tuple") (u := .type "tuple") rfl T.n_tuple (by decide +kernel) rfl) pa_nil))))) (pw_or1 (pt_cmpR op_ne (pe_callB (call_len_seqK (K := K) rfl) rfl T.n_len (by decide +kernel) (pa_cons (pv 1) pa_nil)) pe_int (nomark _))))) (pss_one (ps_ret pe_bl)) pss_nil)
        (pss_cons (ps_asg (pv 1) (pg_tup rfl (pgs_cons (pg_name (i := 2) sc_is_arc.nd rfl (Or.inl rfl)) (pgs_cons (pg_name (i := 3) sc_is_arc.nd rfl (Or.inl rfl)) (pgs_cons (pg_name (i := 4) sc_is_arc.nd rfl (Or.inl rfl)) pgs_nil)))))
        (pss_one (ps_ret (pe_and (pe_call G_is_number (hr.mono (by decide)) rfl T.m_is_number T.F_is_number.kp T.b_is_number .nil pass0 (pa_cons (pv 2) (pa_cons pe_int (pa_cons (pe_glob (v := V.int 63) rfl T.g_LAST_STATE ⟨_, rfl⟩) pa_nil)))) (pe_and (pe_call G_is_word (hr.mono (by decide)) rfl T.m_is_word T.F_is_word.kp T.b_is_word .nil pass0 (pa_cons (pv 0) (pa_cons (pv 3) pa_nil))) (pe_one (pe_call G_is_number (hr.mono (by decide)) rfl T.m_is_number T.F_is_number.kp T.b_is_number .nil pass0 (pa_cons (pv 4) (pa_cons pe_int (pa_cons (pe_glob (v := V.int 63) rfl T.g_LAST_STATE ⟨_, rfl⟩) pa_nil))))))))))), ?_⟩
    refine ⟨_, rfl, _, _, _, _, true, rfl, .ty "tuple", .base (.tup ht), kit_ty (by decide +kernel), true, rfl, ?_⟩
    refine ⟨_, rfl, t, _, rfl, .inr (SqT.of ht), rfl, false, rfl, ?_⟩
    refine ⟨_, rfl, t, _, rfl, SqT.of ht, rfl, ?_⟩
    have e1 : (0 : Int) ≤ ((s1 : Nat) : Int) ∧ ((s1 : Nat) : Int) ≤ 63 := by omega
    have e2 : (0 : Int) ≤ ((g1 : Nat) : Int) ∧ ((g1 : Nat) : Int) ≤ 63 := by have hg' : g1 ≤ 63 := hg; omega
    refine ⟨_, _, rfl, _, _, rfl, _, _, rfl, rfl, ?_⟩
    refine ⟨_, rfl, _, 0, 63, rfl, fun b hb => ⟨b, rfl, ?_⟩⟩
    rw [hb.mpr e1]
    refine ⟨_, rfl, _, rfl, sg, u, rfl, hw, fun H' sm => ⟨true, rfl, ?_⟩⟩
    refine ⟨_, rfl, _, 0, 63, rfl, fun b hb => ?_⟩
    rw [hb.mpr e2]
    exact k H' sm
end
end J


set_option Elab.async false
set_option linter.all false
set_option maxRecDepth 100000
set_option maxHeartbeats 4000000
namespace J
open PySem L2

theorem walk_zipS {x y : Str} : Walk (ItzS x y) (min x.cps.size y.cps.size) (fun _ => True) (fun i H v H' => ∃ T c d, v = .ref T ∧ H T = none ∧ H' = upd H T (.tup [.str ⟨#[c]⟩, .str ⟨#[d]⟩]) ∧ x.cps[i]? = some c ∧ y.cps[i]? = some d) :=
  ⟨fun _ _ h _ => h, fun _ _ => rfl, fun _ _ _ _ _ _ h => h⟩
theorem one_lt {c d : Nat} : ([c] < ([d] : List Nat)) ↔ c < d := by
  rw [List.cons_lt_cons_iff]
  constructor
  · rintro (h | ⟨_, h⟩)
    · exact h
    · exact absurd h (List.lt_irrefl _)
  · exact .inl
theorem signs_le {sg : List Nat} (h : Signs sg) : ∀ c ∈ sg, (!decide ([c] < ([97] : List Nat))) = true ∧ (!decide (([122] : List Nat) < [c])) = true := fun c hc => by
  obtain ⟨h1, h2⟩ := h.2.2.1 c hc
  rw [decide_eq_false (fun z => by rw [one_lt] at z; omega), decide_eq_false (fun z => by rw [one_lt] at z; omega)]
  exact ⟨rfl, rfl⟩
theorem signs_pair {sg : List Nat} (h : Signs sg) {i c d : Nat} (h1 : sg[i]? = some c) (h2 : (sg.drop 1)[i]? = some d) : decide ([c] < [d]) = true := by
  rw [List.getElem?_drop] at h2
  obtain ⟨l1, e1⟩ := List.getElem?_eq_some_iff.mp h1
  obtain ⟨l2, e2⟩ := List.getElem?_eq_some_iff.mp h2
  refine decide_eq_true (one_lt.mpr ?_)
  rw [← e1, ← e2]
  exact List.pairwise_iff_getElem.mp h.2.2.2 i (1 + i) l1 l2 (by omega)
section
variable {P : Program} {w : World} {K : PySem.W.Frag} {mg : Str → Option Value} {base : Heap}

theorem ok_is_signs (T : Tx K mg) : FnOk P w K mg base CX0 1 T.f_is_signs T.fd_is_signs P_is_signs spSigns := by
  refine T.F_is_signs.ok sc_is_signs (fun vs H Q E h => ?_) (fun cdv A outer s H vs Q E hr h => ?_)
  · obtain ⟨sg, rfl, _⟩ := h
    rfl
  · obtain ⟨sg, rfl, hsg, k⟩ := h
    refine ⟨_, (pss_cons (ps_if (PW.pt (pw_or (pt_not (pt_val (pe_callB (call_isiK' (K := K) rfl) rfl T.n_isinstance (by decide +kernel) (pa_cons (pv 0) (pa_cons (pe_bltn (v := V.ty "str") (u := .type "str") rfl T.n_str (by decide +kernel) rfl) pa_nil))))) (pw_or1 (pt_not (pt_chain op_le op_le pe_int (pe_callB call_len_str rfl T.n_len (by decide +kernel) (pa_cons (pv 0) pa_nil)) (pe_glob (v := V.int 4) rfl T.g_MOST_SIGNS ⟨_, rfl⟩)))))) (pss_one (ps_ret pe_bl)) pss_nil)
        (pss_cons (ps_set (i := 1) sc_is_signs.nd rfl (Or.inl rfl) (pe_callB (cr_allK (K := K) rfl rfl) rfl T.n_all (by decide +kernel) (pa_cons (pe_lc (own := [("sign", 2)]) (g := (gName 2)) rfl sc_is_signs.nd (pi_str (pv 0)) (blkOk_by (N := N_is_signs) (sc := defScope s_is_signs) (by decide +kernel)) (fun _ _ _ _ _ => (pg_name (i := 2) sc_is_signs.nd rfl (Or.inl rfl))) (fun _ _ _ _ _ => pts_nil) (fun _ _ _ _ _ => (pe_chain op_le_str op_le_str pe_str (pv 2) pe_str))) pa_nil)))
        (pss_one (ps_ret (pe_and (pv 1) (pe_one (pe_callB (cr_allK (K := K) rfl rfl) rfl T.n_all (by decide +kernel) (pa_cons (pe_lc (own := [("one", 3), ("other", 4)]) (g := (gTup K 2 (gCons (gName 3) (gCons (gName 4) gNil)))) rfl sc_is_signs.nd (pi_zipS rfl T.n_zip (pa_cons (pv 0) (pa_cons (pe_slice sl_str (pv 0) (po_some pe_int) po_none) pa_nil))) (blkOk_by (N := N_is_signs) (sc := defScope s_is_signs) (by decide +kernel)) (fun _ _ _ _ _ => (pg_tup rfl (pgs_cons (pg_name (i := 3) sc_is_signs.nd rfl (Or.inl rfl)) (pgs_cons (pg_name (i := 4) sc_is_signs.nd rfl (Or.inl rfl)) pgs_nil)))) (fun _ _ _ _ _ => pts_nil) (fun _ _ _ _ _ => (pe_cmpR op_lt_str (pv 3) (pv 4) (nomark _)))) pa_nil)))))))), ?_⟩
    have hlen := hsg.len
    have hl : (SX.S sg).length ≤ sizeLine := le_size (by rw [SX.S_len]; omega)
    have e : ((SX.S sg).length : Int) = sg.length := by rw [SX.S_len]
    refine ⟨_, rfl, _, _, _, _, true, rfl, .ty "str", .base (.str _), kit_ty (by decide +kernel), true, rfl, ?_⟩
    refine ⟨_, rfl, _, rfl, hl, _, _, rfl, rfl, true, congrArg V.bl (decide_eq_true (by rw [e]; omega)), ?_⟩
    refine ⟨_, _, rfl, rfl, true, congrArg V.bl (decide_eq_true (by rw [e]; omega)), ?_⟩
    refine ⟨_, rfl, _, rfl, fun D hD => lc_it (walk_str (z := SX.S sg)) (fun i H' => H' D = some (.lst ((List.replicate i true).map V.bl)) ∧ Same H H') ⟨upd_same, Same.new _ hD⟩ (fun _ _ _ _ => trivial) ?_ ?_⟩
    · rintro i x H1 H2 hi ⟨hDl, sm⟩ ⟨rfl, c, hc, rfl⟩
      have hcu : c ∈ sg := by
        have q : sg[i]? = some c := by simpa using hc
        exact List.mem_of_getElem? q
      have hi2 : i ≤ 100000 := by
        have q : i < (SX.S sg).length := hi
        rw [SX.S_len] at q
        omega
      obtain ⟨l1, l2⟩ := signs_le hsg c hcu
      refine ⟨rfl, _, rfl, _, _, rfl, rfl, true, congrArg V.bl l1, _, _, rfl, rfl, _, hDl, lt_size (by simp; exact hi2), ?_, sm.updNew hD⟩
      rw [upd_same]
      show some (HO.lst (_ ++ [V.bl (!decide (([122] : List Nat) < [c]))])) = _
      rw [l2, rep_snoc]
    · rintro H1 ⟨hDl, sm⟩
      refine ⟨D, _, rfl, SqL.of hDl, ?_⟩
      rw [all_true]
      refine ⟨_, rfl, true, rfl, ?_⟩
      refine ⟨_, rfl, _, rfl, _, rfl, _, rfl, hl, ?_⟩
      rw [C8.cutS_slice, SX.slice_from (by decide)]
      refine ⟨_, _, rfl, fun D2 hD2 => lc_it (walk_zipS (x := SX.S sg) (y := SX.S (sg.drop 1))) (fun i H' => H' D2 = some (.lst ((List.replicate i true).map V.bl)) ∧ Same H H') ⟨upd_same, sm.trans (Same.new _ hD2)⟩ (fun _ _ _ _ => trivial) ?_ ?_⟩
      · rintro i x H2 H3 hi ⟨hDl2, sm2⟩ ⟨t, c, d, rfl, ht, rfl, hc, hd⟩
        have hcu : sg[i]? = some c := by simpa using hc
        have hdu : (sg.drop 1)[i]? = some d := by simpa using hd
        have hi2 : i ≤ 100000 := by
          have q := (List.getElem?_eq_some_iff.mp hcu).1
          omega
        have nt : D2 ≠ t := fun z => hp_ne hDl2 ht z.symm
        refine ⟨t, _, rfl, SqT.of upd_same, rfl, _, _, rfl, _, _, rfl, rfl, rfl, _, rfl, _, rfl, _, _, rfl, rfl, _, by rw [upd_ne nt]; exact hDl2, lt_size (by simp; exact hi2), ?_, (sm2.trans (Same.new _ ht)).updNew (sm.free hD2)⟩
        rw [upd_same]
        show some (HO.lst (_ ++ [V.bl (decide ([c] < [d]))])) = _
        rw [signs_pair hsg hcu hdu, rep_snoc]
      · rintro H2 ⟨hDl2, sm2⟩
        refine ⟨D2, _, rfl, SqL.of hDl2, ?_⟩
        rw [all_true]
        exact k _ sm2
end
end J


set_option Elab.async false
set_option linter.all false
set_option maxRecDepth 100000
set_option maxHeartbeats 4000000
namespace J
open PySem L2
/-- arcs that a loom may have -/
def OkW (sg : List Nat) (as : List Arc) : Prop := 1 ≤ as.length ∧ as.length ≤ 200 ∧ ∀ a ∈ as, OkArc sg a
theorem OkArcs.w {sg : List Nat} {as : List Arc} (h : OkArcs sg as) : OkW sg as := ⟨h.1, by have := h.2.1; omega, h.2.2.1⟩
/-- a loom's fields -/
def lf (sg : List Nat) (T : Addr) : List (Str × V) := putF "arcs" (.ref T) (putF "signs" (.str (SX.S sg)) [])
theorem ne_sa : ¬ (("signs" : Str) = "arcs") := by decide +kernel
theorem lf_signs (sg : List Nat) (T : Addr) : (lf sg T).lookup ("signs" : Str) = some (.str (SX.S sg)) := by
  unfold lf
  rw [lookup_putF, if_neg ne_sa, lookup_putF, if_pos rfl]
theorem lf_arcs (sg : List Nat) (T : Addr) : (lf sg T).lookup ("arcs" : Str) = some (.ref T) := by
  unfold lf
  rw [lookup_putF, if_pos rfl]
/-- a loom stands at p -/
def LoomAt (C : Addr) (H : Hp) (p : Addr) (sg : List Nat) (us : List V) (as : List Arc) : Prop := ∃ dx T, H p = some (.ins C dx (lf sg T)) ∧ H T = some (.tup us) ∧ Arcs H us as ∧ OkW sg as ∧ Signs sg
def spInit (C : Addr) : Sp := fun vs H Q _ => ∃ (p dx a : Addr) (sg : List Nat) (us : List V) (as : List Arc), vs = [.ref p, .str (SX.S sg), .ref a] ∧ H p = some (.ins C dx []) ∧ H a = some (.lst us) ∧ Arcs H us as ∧ OkW sg as ∧ Signs sg ∧
  ∀ (H' : Hp) (T : Addr), Ex p H H' → H T = none → H' T = some (.tup us) → H' p = some (.ins C dx (lf sg T)) → Q .non H'
theorem take_snoc {α : Type} {l : List α} {i : Nat} {x : α} (h : l[i]? = some x) : l.take i ++ [x] = l.take (i + 1) := by
  rw [List.take_add_one, h]
  rfl
def spChkSigns : Sp := fun vs H Q _ => ∃ sg : List Nat, vs = [.str (SX.S sg)] ∧ Signs sg ∧ ∀ H', Same H H' → Q .non H'
section
variable {P : Program} {w : World} {K : PySem.W.Frag} {mg : Str → Option Value} {base : Heap}
theorem ok_check_signs (T : Tx K mg) : FnOk P w K mg base CX0 2 T.f_check_signs T.fd_check_signs P_check_signs spChkSigns := by
  have G_is_signs : FnOk P w K mg base CX0 1 T.f_is_signs T.fd_is_signs P_is_signs spSigns := ok_is_signs T
  refine T.F_check_signs.ok sc_check_signs (fun vs H Q E h => ?_) (fun cdv A outer s H vs Q E hr h => ?_)
  · obtain ⟨sg, rfl, _⟩ := h
    rfl
  · obtain ⟨sg, rfl, hsg, k⟩ := h
    refine ⟨_, (pss_one (ps_if (pt_not (pt_val (pe_call G_is_signs (hr.mono (by decide)) rfl T.m_is_signs T.F_is_signs.kp T.b_is_signs .nil pass0 (pa_cons (pv 0) pa_nil)))) (pss_one ps_never) pss_nil)), ?_⟩
    refine ⟨_, rfl, sg, rfl, hsg, fun H1 s1 => ⟨true, rfl, ?_⟩⟩
    exact k _ s1
theorem ok_Loom_init (T : Tx K mg) : FnOk P w K mg base CX0 4 T.f_Loom_init T.fd_Loom_init P_Loom_init (spInit T.C_Loom) := by
  have G_check_signs : FnOk P w K mg base CX0 2 T.f_check_signs T.fd_check_signs P_check_signs spChkSigns := ok_check_signs T
  have G_is_sequence : FnOk P w K mg base CX0 1 T.f_is_sequence T.fd_is_sequence P_is_sequence (spSequence K) := ok_is_sequence T
  have G_is_arc : FnOk P w K mg base CX0 3 T.f_is_arc T.fd_is_arc P_is_arc spArc := ok_is_arc T
  refine T.F_Loom_init.ok sc_Loom_init (fun vs H Q E h => ?_) (fun cdv A outer s H vs Q E hr h => ?_)
  · obtain ⟨p, dx, a, sg, us, as, rfl, _⟩ := h
    rfl
  · obtain ⟨p, dx, a, sg, us, as, rfl, hp, ha, harc, hok, hsg, k⟩ := h
    refine ⟨_, (pss_cons (ps_expr (pe_call G_check_signs (hr.mono (by decide)) rfl T.m_check_signs T.F_check_signs.kp T.b_check_signs .nil pass0 (pa_cons (pv 1) pa_nil)))
        (pss_cons (ps_if (pt_not (pt_val (pe_call G_is_sequence (hr.mono (by decide)) rfl T.m_is_sequence T.F_is_sequence.kp T.b_is_sequence .nil pass0 (pa_cons (pv 2) (pa_cons pe_int (pa_cons (pe_glob (v := V.int 200) rfl T.g_MOST_ARCS ⟨_, rfl⟩) pa_nil)))))) (pss_one ps_never) pss_nil)
        (pss_cons (ps_for PassesOwn.never rfl (pi_enum rfl T.n_enumerate (pa_cons (pv 2) pa_nil)) (pg_tup rfl (pgs_cons (pg_name (i := 3) sc_Loom_init.nd rfl (Or.inl rfl)) (pgs_cons (pg_name (i := 4) sc_Loom_init.nd rfl (Or.inl rfl)) pgs_nil))) (pss_one (ps_if (pt_not (pt_val (pe_call G_is_arc (hr.mono (by decide)) rfl T.m_is_arc T.F_is_arc.kp T.b_is_arc .nil pass0 (pa_cons (pv 1) (pa_cons (pv 4) pa_nil))))) (pss_one ps_never) pss_nil)))
        (pss_cons (ps_fld (pv 0) (pv 1) rfl)
        (pss_one (ps_fld (pv 0) (pe_callTy (call_tuple_ofK (K := K) rfl) rfl T.n_tuple (by decide +kernel) (pa_cons (pe_lc (own := [("arc", 4)]) (g := (gName 4)) rfl sc_Loom_init.nd (pi_list (pv 2)) (blkOk_by (N := N_Loom_init) (sc := defScope s_Loom_init) (by decide +kernel)) (fun _ _ _ _ _ => (pg_name (i := 4) sc_Loom_init.nd rfl (Or.inl rfl))) (fun _ _ _ _ _ => pts_nil) (fun _ _ _ _ _ => (pe_callTy (call_tuple_ofK (K := K) rfl) rfl T.n_tuple (by decide +kernel) (pa_cons (pv 4) pa_nil)))) pa_nil)) rfl)))))), ?_⟩
    refine ⟨_, rfl, sg, rfl, hsg, fun H1 s1 => ?_⟩
    refine ⟨_, rfl, a, us, 1, 200, rfl, .inl (s1 _ _ ha), fun H2 b s2 hb => ⟨b, rfl, ?_⟩⟩
    have hl := hok.2.1
    have hl0 := hok.1
    have hl2 := harc.1
    rw [hb.mpr ⟨by omega, by omega⟩]
    have s12 := s1.trans s2
    refine ⟨_, rfl, a, us, rfl, SqL.of (s12 _ _ ha), for_it walk_enum (fun i σ H' => ∃ v3 v4, σ = [some (.ref p), some (.str (SX.S sg)), some (.ref a), v3, v4] ∧ Same H H') ⟨_, _, rfl, s12⟩ (fun i σ H' _ ⟨_, _, _, sm⟩ => SqL.of (sm _ _ ha)) ?_ ?_⟩
    · rintro i x σ H3 H4 hi ⟨v3, v4, rfl, s3⟩ ⟨tp, x1, y1, rfl, ht, rfl, hx1, hy1⟩
      cases hx1
      have hia : i < as.length := by omega
      obtain ⟨t, hut, htt⟩ := harc.2 i as[i] (List.getElem?_eq_getElem hia)
      replace hy1 : us[i]? = some y1 := hy1
      rw [hut] at hy1
      cases hy1
      have sn := Same.new (.tup [V.int (i : Int), .ref t]) ht
      refine ⟨tp, _, rfl, SqT.of upd_same, rfl, _, _, rfl, _, _, rfl, rfl, ?_⟩
      refine ⟨_, rfl, _, rfl, sg, t, as[i], rfl, sn _ _ (s3 _ _ htt), hok.2.2 _ (List.getElem_mem hia), fun H5 s5 => ⟨true, rfl, ?_⟩⟩
      exact ⟨_, _, rfl, s3.trans (sn.trans s5)⟩
    · rintro σ H3 ⟨v3, v4, rfl, s3⟩
      have hp3 := s3 _ _ hp
      refine ⟨_, rfl, _, rfl, p, _, dx, _, rfl, hp3, T.cl_Loom, T.na_Loom_signs, (by show 0 < 1000; decide), ?_⟩
      have x3 : Ex p H (upd H3 p (.ins T.C_Loom dx (putF "signs" (.str (SX.S sg)) []))) := (Same.ex s3).trans (Ex.upd _)
      have nap : a ≠ p := fun z => by rw [z, hp] at ha; cases ha
      refine ⟨_, rfl, a, rfl, ⟨_, SqL.of (x3 _ _ nap ha)⟩, fun D hD => lc_list (K := K) (a := a) (xs := us) (fun i H' => H' D = some (.lst (us.take i)) ∧ Ex p H H' ∧ H' p = some (.ins T.C_Loom dx (putF "signs" (.str (SX.S sg)) []))) ?_ ?_ ?_ ?_⟩
      · have nDp : D ≠ p := hp_ne upd_same hD
        exact ⟨upd_same, x3.trans (Ex.new _ hD), by rw [upd_ne nDp.symm]; exact upd_same⟩
      · rintro i H4 hi ⟨_, x4, _⟩
        exact SqL.of (x4 _ _ nap ha)
      · rintro i y H4 hy ⟨hDl, x4, hp4⟩
        have hia : i < us.length := (List.getElem?_eq_some_iff.mp hy).1
        obtain ⟨t, hut, htt⟩ := harc.2 i as[i] (List.getElem?_eq_getElem (by omega))
        rw [hut] at hy
        cases hy
        have ntp : t ≠ p := fun z => by rw [z, hp] at htt; cases htt
        have nDp : D ≠ p := hp_ne upd_same hD
        refine ⟨rfl, _, rfl, t, _, rfl, .inr ⟨SqT.of (x4 _ _ ntp htt), _, hDl, lt_size (by simp; omega), ?_, x4.updNew (x3.free hD nDp), by rw [upd_ne nDp.symm]; exact hp4⟩⟩
        rw [upd_same, take_snoc hut]
      · rintro H4 ⟨hDl, x4, hp4⟩
        rw [List.take_length] at hDl
        refine ⟨D, us, rfl, .inl ⟨SqL.of hDl, fun T1 hT1 => ?_⟩⟩
        have nT : T1 ≠ p := hp_ne hp4 hT1
        refine ⟨_, rfl, p, _, dx, _, rfl, by rw [upd_ne nT.symm]; exact hp4, T.cl_Loom, T.na_Loom_arcs, (by show 1 < 1000; decide), ?_⟩
        exact k _ T1 ((x4.trans (Ex.new _ hT1)).trans (Ex.upd _)) (x4.free hT1 nT) (by rw [upd_ne nT]; exact upd_same) upd_same
end
end J


set_option Elab.async false
set_option linter.all false
set_option maxRecDepth 100000
set_option maxHeartbeats 4000000
/-! x != y of two objects of a class with an own __eq__ and no __ne__ -/
namespace HNB
open PySem PySem.Spec PyProof.Rows PySem.SeqAt
section
variable {M : Model} {prog : Program} {w : World} {A : Around} {E : Value → Shared → Prop} {s : Shared} {K : PySem.W.Frag} {x C f : Addr} {ox : Obj} {od : Option Obj} {b tb : Value} {rb : Bool}
theorem ifBound_objNe {args : List Value} {Q : Option Value → Shared → Prop} (X : K.In s.heap) (I : PySem.W.InstAt s.heap x ox C od) (hs : PySem.W.findIn K (.ref C) "__ne__" = some (some (.builtin "object.__ne__")))
    (h : wpAny M A (call (.builtin "object.__ne__") (.ref x :: args)) (fun v => Q (some v)) E s) : wpAny M A (callSpecialIfBound? (.ref x) "__ne__" args) Q E s := by
  simp only [callSpecialIfBound?, bindSpecialIfBound?]
  refine wpAny_holding (wpAny_bind (wpAny_bind (wpAny_bind (I.type.here ((PySem.W.looks_findIn X hs).here ?_)))))
  refine wpAny_bind (wpAny_askSetting (wpAny_ite ?_))
  have fin : wpAny M A (call (.builtin "object.__ne__") ([.ref x] ++ args) >>= fun v => pure (some v)) Q E s := wpAny_bind (wpAny_mono h (fun v s' h' => wpAny_pure h') fun _ _ h' => h')
  split
  · exact wpAny_bind (wpAny_of_eq (F.cmp_object.ne.bind _) (wpAny_pure (by exact fin)))
  · exact wpAny_tryCatch (wpAny_bind (wpAny_of_eq (F.cmp_object.ne.bind _) (wpAny_pure (by exact fin))))
/-- what object.__ne__ does, where the class's own __eq__ says True -/
theorem entry_ne {R : Fin → Shared → Prop} (hu : A.units < cLine) (X : K.In s.heap) (I : PySem.W.InstAt s.heap x ox C od) (hs : PySem.W.findIn K (.ref C) "__eq__" = some (some (.ref f))) (hf : PySem.W.isFn K (.ref f) = true)
    (h : wpAny M A (call (.ref f) [.ref x, b]) (fun v s' => v = .bool rb ∧ R (.done (.ret (.bool (!rb)))) s') E s) : wpAny M A (Builtin.«object.__ne__» ⟨[.ref x, b], []⟩) R E s := by
  unfold Builtin.«object.__ne__»
  have q : wpAny M A (callSpecialIfBound? (.ref x) "__eq__" [b]) (fun r s' => r = some (.bool rb) ∧ R (.done (.ret (.bool (!rb)))) s') E s :=
    PySem.W.ifBound_K X I hs hf (wpAny_mono h (fun v s' ⟨e, z⟩ => ⟨by rw [e], z⟩) fun _ _ z => z)
  repeat (first | with_reducible refine wpAny_cRoomFor hu ?_ | with_reducible refine wpAny_bind (wpAny_mono q (fun r s' ⟨e, z⟩ => ?_) fun _ _ z => z) | wp_step)
  subst e
  refine wpAny_bind (wpAny_truthy_bool ?_)
  exact wpAny_pure z
theorem call_objNe {Q : Value → Shared → Prop} (hu : A.in1.units < cLine) (X : K.In s.heap) (I : PySem.W.InstAt s.heap x ox C od) (hm : PySem.W.mroIn K C (.type "object") = some true) (hs : PySem.W.findIn K (.ref C) "__eq__" = some (some (.ref f))) (hf : PySem.W.isFn K (.ref f) = true)
    (h : wpAny (model prog w) A.in1 (call (.ref f) [.ref x, b]) (fun v s' => v = .bool rb ∧ Q (.bool (!rb)) s') E s) :
    wpAny (model prog w) A (call (.builtin "object.__ne__") [.ref x, b]) Q E s :=
  wpAny_call (codeAny_call_builtin F.cmp_object.ne.plain F.cmpEntry_ne (PySem.W.check_slot F.cmpKind_ne F.cmpSplit_ne (I.type.andThen (PySem.W.looks_mroIn X hm)) (F.cmpArgs_ne _ _) (entry_ne (rb := rb) hu X I hs hf h)))
theorem rc_ne {L : Addr} {h₀ : Heap} {m : Str → Option Value} {Q : Value → Shared → Prop} (hu : A.units < cLine) (hu1 : A.in1.units < cLine) (F : Fr h₀ L s.heap m) (X₀ : K.In h₀) (I : PySem.W.InstAt s.heap x ox C od) (hb : PySem.W.Looks (model prog w) s.heap (typeOf b) tb) (hn : PySem.W.notFirst K C tb = true)
    (hm : PySem.W.mroIn K C (.type "object") = some true) (hne : PySem.W.findIn K (.ref C) "__ne__" = some (some (.builtin "object.__ne__"))) (hs : PySem.W.findIn K (.ref C) "__eq__" = some (some (.ref f))) (hf : PySem.W.isFn K (.ref f) = true)
    (h : wpAny (model prog w) A.in1 (call (.ref f) [.ref x, b]) (fun v s' => v = .bool rb ∧ Q (.bool (!rb)) s') E s) : wpAny (model prog w) A (richCompare .NotEq (.ref x) b) Q E s := by
  have X := X₀.keeps F.keep
  have one : wpAny (model prog w) A (tryCompare (.ref x) (cmpInfo .NotEq).2.1 b) (fun r s' => ∃ v, r = some v ∧ Q v s') E s := by
    unfold tryCompare
    refine wpAny_bind (ifBound_objNe X I hne (call_objNe (rb := rb) hu1 X I hm hs hf (wpAny_mono h (fun v s' hv => ?_) fun _ _ e => e)))
    exact ⟨hv.1, wpAny_pure ⟨_, rfl, hv.2⟩⟩
  unfold richCompare
  simp only [oneThing_ref]
  refine wpAny_holding (wpAny_bind (wpAny_cRoomFor hu ?_))
  refine wpAny_bind (I.type.here (wpAny_bind (hb.here ?_)))
  split
  · rename_i q
    have e : PySem.W.subIn K tb (.ref C) = some false := by
      rcases Bool.or_eq_true_iff.mp hn with e | e
      · rw [beq_iff_eq.mp e] at q; simp at q
      · exact beq_iff_eq.mp e
    refine wpAny_bind ((PySem.W.looks_subIn X e).here ?_)
    simp only [Bool.false_eq_true, if_false]
    refine wpAny_bind (wpAny_mono one (fun r s' z => ?_) fun _ _ e => e)
    obtain ⟨v, rfl, hq⟩ := z
    exact wpAny_pure hq
  · refine wpAny_bind (wpAny_pure ?_)
    simp only [Bool.false_eq_true, if_false]
    refine wpAny_bind (wpAny_mono one (fun r s' z => ?_) fun _ _ e => e)
    obtain ⟨v, rfl, hq⟩ := z
    exact wpAny_pure hq
end
end HNB
namespace L2
open PySem PySem.Spec PyProof.Rows
section
variable {X : Cx} {n : Nat}
/-- what the own == says of two objects -/
def spEqB (R : Addr → Addr → Bool → Hp → Prop) : Sp := fun vs H Q _ => ∃ a b r, vs = [.ref a, .ref b] ∧ R a b r H ∧ ∀ H', Ext H H' → Q (.bl r) H'
def rEqB (C : Addr) (R : Addr → Addr → Bool → Hp → Prop) : R2 := fun x y H Q => ∃ a b dx dy fs gs r, x = .ref a ∧ y = .ref b ∧ H a = some (.ins C dx fs) ∧ H b = some (.ins C dy gs) ∧ R a b r H ∧ ∀ H', Ext H H' → Q (.bl r) H'
def rNeB (C : Addr) (R : Addr → Addr → Bool → Hp → Prop) : R2 := fun x y H Q => ∃ a b dx dy fs gs r, x = .ref a ∧ y = .ref b ∧ H a = some (.ins C dx fs) ∧ H b = some (.ins C dy gs) ∧ R a b r H ∧ ∀ H', Ext H H' → Q (.bl (!r)) H'
/-- the call of the own == -/
theorem call_eqB {CX : CXT} {f : Addr} {fd : FuncData} {ps : List Str} {R : Addr → Addr → Bool → Hp → Prop} {E : XK} {A : Around} {pins : List (Addr × Obj)} {σ : St} {H : Hp} {s : Shared} {a b : Addr} {r : Bool} (F : FnOk X.prog X.w X.K X.mg X.base CX n f fd ps (spEqB R))
    (hb : Binds X.K fd ps []) (hx : Passes CX X E) (sb : Sub X n A) (I : Inv X pins σ H s) (hr : R a b r H) :
    wpAny (model X.prog X.w) A (call (.ref f) [.ref a, .ref b]) (fun v s' => v = .bool r ∧ ∃ H', Inv X pins σ H' s' ∧ Ext H H') X.xe s := by
  have hsp : spEqB R [.ref a, .ref b] H (fun v H' => v = .bl r ∧ Ext H H') E := ⟨a, b, r, rfl, hr, fun H' e => ⟨rfl, e⟩⟩
  have e0 : Env0 X.prog X.w X.K X.mg X.base A X.stack s H := by
    obtain ⟨p1, p2, p3, p4, p5, p6, p7, p8⟩ := I.env0
    exact ⟨by rw [sb.fr]; exact p1, p2, p3, p4, p5, p6, p7, p8⟩
  have two : Vals [V.ref a, V.ref b] [Value.ref a, Value.ref b] := .cons rfl (.cons rfl .nil)
  have bd := hb s [.ref a, .ref b] I.kIn (by simpa using F.len _ _ _ _ hsp)
  have go := F.run A X.stack s H ⟨[.ref a, .ref b], []⟩ [.ref a, .ref b] [.ref a, .ref b] _ E sb.room e0 (by simpa using bd) two hsp
  refine wpAny_call (codeAny_mono go fun z t hz => ?_)
  match z, hz with
  | .error e, hz => exact hx pins σ H s e t I hz
  | .ok (.ret w'), hz =>
    obtain ⟨y, H', I', ry, rfl, ex⟩ := I.after hz
    cases ry
    exact ⟨rfl, H', I', ex⟩
  | .ok .next, hz => exact hz.elim
  | .ok .brk, hz => exact hz.elim
  | .ok .cont, hz => exact hz.elim
theorem op_eqB {CX : CXT} {C f : Addr} {fd : FuncData} {ps : List Str} {R : Addr → Addr → Bool → Hp → Prop} {E : XK} (F : FnOk X.prog X.w X.K X.mg X.base CX n f fd ps (spEqB R))
    (hs : PySem.W.findIn X.K (.ref C) "__eq__" = some (some (.ref f))) (hf : PySem.W.isFn X.K (.ref f) = true) (hb : Binds X.K fd ps []) (hx : Passes CX X E) (hr : Room n X.A) : OpR X (compareOp .Eq) (rEqB C R) := by
  intro pins s σ H x y u v Q I rx ry hq
  obtain ⟨a, b, dx, dy, fs, gs, r, rfl, rfl, ha, hb', hR, q⟩ := hq
  cases rx
  cases ry
  obtain ⟨mA, J, _⟩ := ins_get I.hok ha
  obtain ⟨mB, J', _⟩ := ins_get I.hok hb'
  obtain ⟨od, J, _⟩ := J.look
  obtain ⟨od', J', _⟩ := J'.look
  obtain ⟨m, hF⟩ := I.fr
  show wpAny (model X.prog X.w) X.A (richCompare .Eq (.ref a) (.ref b)) (EP X pins σ Q) X.xe s
  refine PySem.W.cmp_K (tb := .ref C) hr.units0 hF I.ok.mod.kin J J'.type (by simp [PySem.W.notFirst]) hs hf (wpAny_mono (call_eqB F hb hx ⟨hr, rfl⟩ I hR) (fun w' t z => ?_) fun _ _ e => e)
  obtain ⟨rfl, H', I', ex⟩ := z
  exact ⟨.bl r, H', I', rfl, q H' ex⟩
theorem op_neB {CX : CXT} {C f : Addr} {fd : FuncData} {ps : List Str} {R : Addr → Addr → Bool → Hp → Prop} {E : XK} (F : FnOk X.prog X.w X.K X.mg X.base CX n f fd ps (spEqB R))
    (hs : PySem.W.findIn X.K (.ref C) "__eq__" = some (some (.ref f))) (hf : PySem.W.isFn X.K (.ref f) = true) (hne : PySem.W.findIn X.K (.ref C) "__ne__" = some (some (.builtin "object.__ne__"))) (hm : PySem.W.mroIn X.K C (.type "object") = some true)
    (hb : Binds X.K fd ps []) (hx : Passes CX X E) (hr : Room (n + 1) X.A) : OpR X (compareOp .NotEq) (rNeB C R) := by
  intro pins s σ H x y u v Q I rx ry hq
  obtain ⟨a, b, dx, dy, fs, gs, r, rfl, rfl, ha, hb', hR, q⟩ := hq
  cases rx
  cases ry
  obtain ⟨mA, J, _⟩ := ins_get I.hok ha
  obtain ⟨mB, J', _⟩ := ins_get I.hok hb'
  obtain ⟨od, J, _⟩ := J.look
  obtain ⟨od', J', _⟩ := J'.look
  obtain ⟨m, hF⟩ := I.fr
  have sb : Sub X n X.A.in1 := Sub.in1 ⟨hr, rfl⟩
  show wpAny (model X.prog X.w) X.A (richCompare .NotEq (.ref a) (.ref b)) (EP X pins σ Q) X.xe s
  refine HNB.rc_ne (tb := .ref C) (rb := r) hr.units0 sb.room.units0 hF I.ok.mod.kin J J'.type (by simp [PySem.W.notFirst]) hm hne hs hf (wpAny_mono (call_eqB F hb hx sb I hR) (fun w' t z => ?_) fun _ _ e => e)
  obtain ⟨rfl, H', I', ex⟩ := z
  exact ⟨rfl, .bl (!r), H', I', rfl, q H' ex⟩
end
end L2

set_option Elab.async false
set_option linter.all false
set_option maxRecDepth 100000
set_option maxHeartbeats 4000000
namespace J
open PySem L2
theorem pi_or {X : Cx} {tg l : Expr} {ti tj : TI} (h1 : PI X tg l ti) (h2 : PI X tg l tj) : PI X tg l (fun σ H R => ti σ H R ∨ tj σ H R) := ⟨fun pins s σ H R I h => h.elim (h1.run pins s σ H R I) (h2.run pins s σ H R I)⟩
/-- the arcs of a book -/
def bka (ws : List (List Nat)) : List Arc := ws.map fun u => (0, u, 0)
theorem bka_len (ws : List (List Nat)) : (bka ws).length = ws.length := by simp [bka]
theorem bka_ok {sg : List Nat} {ws : List (List Nat)} (h1 : 1 ≤ ws.length) (h2 : ws.length ≤ 200) (h : ∀ u ∈ ws, Word sg u) : OkW sg (bka ws) := by
  refine ⟨by rw [bka_len]; exact h1, by rw [bka_len]; exact h2, fun a ha => ?_⟩
  obtain ⟨u, hu, rfl⟩ := List.mem_map.mp ha
  exact ⟨Nat.zero_le _, h u hu, Nat.zero_le _⟩
theorem LoomAt.same {C : Addr} {H H' : Hp} {p : Addr} {sg : List Nat} {us : List V} {as : List Arc} (h : LoomAt C H p sg us as) (s : Same H H') : LoomAt C H' p sg us as := by
  obtain ⟨dx, T, h1, h2, h3, h4, h5⟩ := h
  exact ⟨dx, T, s _ _ h1, s _ _ h2, h3.same s, h4, h5⟩
/-- a list or a tuple -/
def Seq (H : Hp) (a : Addr) (xs : List V) : Prop := H a = some (.lst xs) ∨ H a = some (.tup xs)
theorem Seq.same {H H' : Hp} {a : Addr} {xs : List V} (h : Seq H a xs) (s : Same H H') : Seq H' a xs := h.imp (s _ _) (s _ _)
def spBook (C : Addr) : Sp := fun vs H Q _ => ∃ (a : Addr) (sg : List Nat) (ws : List (List Nat)), vs = [.str (SX.S sg), .ref a] ∧ Seq H a (txts ws) ∧ Signs sg ∧ 1 ≤ ws.length ∧ ws.length ≤ 200 ∧ (∀ u ∈ ws, Word sg u) ∧
  ∀ H' (q : Addr) us, Same H H' → H q = none → LoomAt C H' q sg us (bka ws) → Q (.ref q) H'
def kdB (as : List Arc) : Bool := as.all fun a => a.1 == 0 && a.2.2 == 0
def spIsBook (K : PySem.W.Frag) (C : Addr) : Sp := fun vs H Q _ => ∃ v, vs = [v] ∧ ((∃ (q : Addr) (sg : List Nat) (us : List V) (as : List Arc), v = .ref q ∧ LoomAt C H q sg us as ∧ ∀ H', Same H H' → Q (.bl (kdB as)) H') ∨
  (∃ t, TyZ K H v t ∧ PySem.W.kitOne K t (.ref C) = some false ∧ Q (.bl false) H))
def spChkBook (C : Addr) : Sp := fun vs H Q _ => ∃ (q : Addr) (sg : List Nat) (us : List V) (as : List Arc), vs = [.ref q] ∧ LoomAt C H q sg us as ∧ kdB as = true ∧ ∀ H', Same H H' → Q .non H'
def spPWords (C : Addr) : Sp := fun vs H Q _ => ∃ (q : Addr) (sg : List Nat) (us : List V) (ws : List (List Nat)), vs = [.ref q] ∧ LoomAt C H q sg us (bka ws) ∧
  ∀ H' (r : Addr), Same H H' → H r = none → H' r = some (.lst (txts ws)) → Q (.ref r) H'
theorem kd_book (ws : List (List Nat)) : kdB (bka ws) = true := by simp [kdB, bka]
theorem kit_self {K : PySem.W.Frag} (t : Value) : PySem.W.kitOne K t t = some true := by unfold PySem.W.kitOne; simp
theorem all_map_bl (l : List Bool) : (l.map V.bl).length = l.length := List.length_map _
theorem txt_at {ws : List (List Nat)} {i : Nat} {y : V} (h : (txts ws)[i]? = some y) : ∃ u, ws[i]? = some u ∧ y = .str (SX.S u) := by
  rw [txts, List.getElem?_map] at h
  obtain ⟨u, hu, e⟩ := Option.map_eq_some_iff.mp h
  exact ⟨u, hu, e.symm⟩
theorem nat_zero (n : Nat) : decide (V.int (n : Int) = V.int 0) = (n == 0) := by
  by_cases h : n = 0
  · subst h; rfl
  · rw [decide_eq_false (fun z => h (by injection z with z; omega))]
    exact (beq_false_of_ne h).symm
section
variable {P : Program} {w : World} {K : PySem.W.Frag} {mg : Str → Option Value} {base : Heap}
theorem ok_book (T : Tx K mg) : FnOk P w K mg base CX0 6 T.f_book T.fd_book P_book (spBook T.C_Loom) := by
  have G_check_signs : FnOk P w K mg base CX0 2 T.f_check_signs T.fd_check_signs P_check_signs spChkSigns := ok_check_signs T
  have G_is_sequence : FnOk P w K mg base CX0 1 T.f_is_sequence T.fd_is_sequence P_is_sequence (spSequence K) := ok_is_sequence T
  have G_Loom_init : FnOk P w K mg base CX0 4 T.f_Loom_init T.fd_Loom_init P_Loom_init (spInit T.C_Loom) := ok_Loom_init T
  refine T.F_book.ok sc_book (fun vs H Q E h => ?_) (fun cdv A outer s H vs Q E hr h => ?_)
  · obtain ⟨a, sg, ws, rfl, _⟩ := h
    rfl
  · obtain ⟨a, sg, ws, rfl, ha, hsg, h1, h2, hw, k⟩ := h
    refine ⟨_, (pss_cons (ps_expr (pe_call G_check_signs (hr.mono (by decide)) rfl T.m_check_signs T.F_check_signs.kp T.b_check_signs .nil pass0 (pa_cons (pv 0) pa_nil)))
        (pss_cons (ps_if (pt_not (pt_val (pe_call G_is_sequence (hr.mono (by decide)) rfl T.m_is_sequence T.F_is_sequence.kp T.b_is_sequence .nil pass0 (pa_cons (pv 1) (pa_cons pe_int (pa_cons (pe_glob (v := V.int 200) rfl T.g_MOST_ARCS ⟨_, rfl⟩) pa_nil)))))) (pss_one ps_never) pss_nil)
        (pss_one (ps_ret (pe_make T.M_Loom G_Loom_init (hr.mono (by decide)) rfl T.g_Loom T.b_Loom_init .nil pass0 (pa_cons (pv 0) (pa_cons (pe_lc (own := [("word", 2)]) (g := (gName 2)) rfl sc_book.nd (pi_or (pi_list (pv 1)) (pi_tup (pv 1))) (blkOk_by (N := N_book) (sc := defScope s_book) (by decide +kernel)) (fun _ _ _ _ _ => (pg_name (i := 2) sc_book.nd rfl (Or.inl rfl))) (fun _ _ _ _ _ => pts_nil) (fun _ _ _ _ _ => (pe_tup (pa_cons pe_int (pa_cons (pv 2) (pa_cons pe_int pa_nil)))))) pa_nil))))))), ?_⟩
    refine ⟨_, rfl, sg, rfl, hsg, fun H1 s1 => ?_⟩
    refine ⟨_, rfl, a, txts ws, 1, 200, rfl, ha.same s1, fun H2 b s2 hb => ⟨b, rfl, ?_⟩⟩
    have wl : (txts ws).length = ws.length := by rw [txts, List.length_map]
    rw [hb.mpr ⟨by omega, by omega⟩]
    have s12 := s1.trans s2
    refine ⟨_, rfl, ?_⟩
    have step : ∀ {Q : VK} {D : Addr} {i : Nat} {H' : Hp} {u : List Nat}, H2 D = none → ws[i]? = some u → (∃ us, us.length = i ∧ H' D = some (.lst us) ∧ Arcs H' us ((bka ws).take i) ∧ Same H2 H') →
        ∀ t, H' t = none → ∃ acc, upd H' t (.tup [.int 0, .str (SX.S u), .int 0]) D = some (.lst acc) ∧ acc.length < sizeLine ∧ ∃ us, us.length = i + 1 ∧ upd (upd H' t (.tup [.int 0, .str (SX.S u), .int 0])) D (.lst (acc ++ [.ref t])) D = some (.lst us) ∧ Arcs (upd (upd H' t (.tup [.int 0, .str (SX.S u), .int 0])) D (.lst (acc ++ [.ref t]))) us ((bka ws).take (i + 1)) ∧ Same H2 (upd (upd H' t (.tup [.int 0, .str (SX.S u), .int 0])) D (.lst (acc ++ [.ref t]))) := by
      rintro Q D i H' u hD hu ⟨us, rfl, hDl, harc, sm⟩ t ht
      have nt : D ≠ t := fun z => hp_ne hDl ht z.symm
      have hi := (List.getElem?_eq_some_iff.mp hu).1
      have sn : Same H' (upd H' t (.tup [.int 0, .str (SX.S u), .int 0])) := Same.new _ ht
      have hD1 : upd H' t (.tup [.int 0, .str (SX.S u), .int 0]) D = some (.lst us) := by rw [upd_ne nt]; exact hDl
      refine ⟨us, hD1, lt_size (by omega), us ++ [.ref t], by simp, upd_same, ?_, (sm.trans sn).updNew hD⟩
      have e : (bka ws).take (us.length + 1) = (bka ws).take us.length ++ [(0, u, 0)] := by
        rw [take_snoc (by rw [bka, List.getElem?_map, hu]; rfl)]
      rw [e]
      exact ((harc.same sn).snoc (t := t) (a := (0, u, 0)) upd_same).updL hD1
    have fin : ∀ {H3 : Hp} {D : Addr}, H2 D = none → (∃ us, us.length = ws.length ∧ H3 D = some (.lst us) ∧ Arcs H3 us ((bka ws).take ws.length) ∧ Same H2 H3) → ∃ us, H3 D = some (.lst us) ∧ Arcs H3 us (bka ws) ∧ Same H H3 := by
      rintro H3 D hD ⟨us, hl, hDl, harc, sm⟩
      rw [List.take_of_length_le (by rw [bka_len]; exact Nat.le_refl _)] at harc
      exact ⟨us, hDl, harc, s12.trans sm⟩
    have mk : ∀ {H3 : Hp} {D : Addr} {us : List V}, H3 D = some (.lst us) → Arcs H3 us (bka ws) → Same H H3 → ∀ x dx, H3 x = none → H3 dx = none → x ≠ dx → ∃ p dx' a' sg' us' as', [V.ref x, .str (SX.S sg), .ref D] = [.ref p, .str (SX.S sg'), .ref a'] ∧ upd (upd H3 dx (.own x)) x (.ins T.C_Loom dx []) p = some (.ins T.C_Loom dx' []) ∧
        upd (upd H3 dx (.own x)) x (.ins T.C_Loom dx []) a' = some (.lst us') ∧ Arcs (upd (upd H3 dx (.own x)) x (.ins T.C_Loom dx [])) us' as' ∧ OkW sg' as' ∧ Signs sg' ∧
        ∀ (H' : Hp) (Tt : Addr), Ex p (upd (upd H3 dx (.own x)) x (.ins T.C_Loom dx [])) H' → upd (upd H3 dx (.own x)) x (.ins T.C_Loom dx []) Tt = none → H' Tt = some (.tup us') → H' p = some (.ins T.C_Loom dx' (lf sg' Tt)) → V.non = V.non ∧ Q (.ref x) H' := by
      intro H3 D us hDl harc sm x dx hx hd hne
      have S : Same H3 (upd (upd H3 dx (.own x)) x (.ins T.C_Loom dx [])) := (Same.new _ hd).trans (Same.new _ (by rw [upd_ne hne]; exact hx))
      refine ⟨x, dx, D, sg, us, bka ws, rfl, upd_same, S _ _ hDl, harc.same S, bka_ok h1 h2 hw, hsg, fun H' Tt x3 hT hTus g => ⟨rfl, ?_⟩⟩
      have s3 : Same H3 H' := fun b o e => x3 _ _ (ne_of_none e hx) (S _ _ e)
      exact k H' x us (sm.trans s3) (sm.free hx) ⟨dx, Tt, g, hTus, (harc.same s3), bka_ok h1 h2 hw, hsg⟩
    rcases ha with ha | ha
    · refine .inl ⟨_, rfl, a, rfl, ⟨_, SqL.of (s12 _ _ ha)⟩, fun D hD => lc_list (K := K) (a := a) (xs := txts ws) (fun i H' => ∃ us, us.length = i ∧ H' D = some (.lst us) ∧ Arcs H' us ((bka ws).take i) ∧ Same H2 H') ⟨[], rfl, upd_same, Arcs.nil _, Same.new _ hD⟩ (fun i H' _ ⟨_, _, _, _, sm⟩ => SqL.of (sm _ _ (s12 _ _ ha))) ?_ ?_⟩
      · rintro i y H' hy P
        obtain ⟨u, hu, rfl⟩ := txt_at hy
        exact ⟨rfl, _, rfl, le_size (by simp), fun t ht => step (Q := Q) hD hu P t ht⟩
      · intro H3 P
        rw [wl] at P
        obtain ⟨us, hDl, harc, sm⟩ := fin hD P
        exact fun x dx hx hd hne => mk hDl harc sm x dx hx hd hne.symm
    · refine .inr ⟨_, rfl, a, rfl, ⟨_, SqT.of (s12 _ _ ha)⟩, fun D hD => lc_tup (K := K) (a := a) (xs := txts ws) (fun i H' => ∃ us, us.length = i ∧ H' D = some (.lst us) ∧ Arcs H' us ((bka ws).take i) ∧ Same H2 H') ⟨[], rfl, upd_same, Arcs.nil _, Same.new _ hD⟩ (fun i H' _ ⟨_, _, _, _, sm⟩ => SqT.of (sm _ _ (s12 _ _ ha))) ?_ ?_⟩
      · rintro i y H' hy P
        obtain ⟨u, hu, rfl⟩ := txt_at hy
        exact ⟨rfl, _, rfl, le_size (by simp), fun t ht => step (Q := Q) hD hu P t ht⟩
      · intro H3 P
        rw [wl] at P
        obtain ⟨us, hDl, harc, sm⟩ := fin hD P
        exact fun x dx hx hd hne => mk hDl harc sm x dx hx hd hne.symm
end
end J


set_option Elab.async false
set_option linter.all false
set_option maxRecDepth 100000
set_option maxHeartbeats 4000000
namespace J
open PySem L2
/-! ### what two looms are, held against each other -/
theorem S_inj {u v : List Nat} (h : SX.S u = SX.S v) : u = v := by
  unfold SX.S at h
  injection h with h
  simpa using h
def arcD (a : Arc) : PyData := .tuple [.int (a.1 : Int), .str (SX.S a.2.1), .int (a.2.2 : Int)]
theorem dp_arc {K : PySem.W.Frag} {H : Hp} {t : Addr} {a : Arc} (h : H t = some (arcHO a)) : Dp K H (.ref t) (arcD a) := .tup (SqT.of h) (.cons (.int _) (.cons (.str _) (.cons (.int _) .nil)))
theorem dp_arcs {K : PySem.W.Frag} {H : Hp} : ∀ {us : List V} {as : List Arc}, Arcs H us as → DpAll K H us (as.map arcD)
  | [], [], _ => .nil
  | [], _ :: _, h => by have := h.1; simp at this
  | _ :: _, [], h => by have := h.1; simp at this
  | u :: us, a :: as, h => by
    obtain ⟨t, e, ht⟩ := h.2 0 a rfl
    cases e
    refine .cons (dp_arc ht) (dp_arcs ⟨by have := h.1; simpa using this, fun i b hb => ?_⟩)
    obtain ⟨t', e', ht'⟩ := h.2 (i + 1) b (by simpa using hb)
    exact ⟨t', by simpa using e', ht'⟩
theorem str_beq (u v : List Nat) : (SX.S u == SX.S v) = decide (u = v) := by
  by_cases h : u = v
  · subst h; simp
  · have n : SX.S u ≠ SX.S v := fun z => h (S_inj z)
    rw [decide_eq_false h]
    exact beq_false_of_ne n
theorem nat_beq (m n : Nat) : ((m : Int) == (n : Int)) = decide (m = n) := by
  by_cases h : m = n
  · subst h; simp
  · rw [decide_eq_false h]
    exact beq_false_of_ne (fun z => h (by exact_mod_cast z))
theorem eqv_arc (a b : Arc) : PyData.eqv (arcD a) (arcD b) = decide (a = b) := by
  show (((a.1 : Int) == (b.1 : Int)) && ((SX.S a.2.1 == SX.S b.2.1) && (((a.2.2 : Int) == (b.2.2 : Int)) && true))) = _
  rw [nat_beq, nat_beq, str_beq]
  obtain ⟨a1, a2, a3⟩ := a
  obtain ⟨b1, b2, b3⟩ := b
  rw [Bool.eq_iff_iff]
  simp
theorem eqv_arcs : ∀ as bs : List Arc, PyData.eqvAll (as.map arcD) (bs.map arcD) = decide (as = bs)
  | [], [] => rfl
  | [], b :: bs => by rw [decide_eq_false (by simp)]; rfl
  | a :: as, [] => by rw [decide_eq_false (by simp)]; rfl
  | a :: as, b :: bs => by
    show (PyData.eqv (arcD a) (arcD b) && PyData.eqvAll (as.map arcD) (bs.map arcD)) = _
    rw [eqv_arc, eqv_arcs as bs, Bool.eq_iff_iff]
    simp
def txtD (ws : List (List Nat)) : List PyData := ws.map fun u => .str (SX.S u)
theorem dp_txts {K : PySem.W.Frag} {H : Hp} : ∀ ws : List (List Nat), DpAll K H (txts ws) (txtD ws)
  | [] => .nil
  | _ :: r => .cons (.str _) (dp_txts r)
theorem eqv_txts : ∀ as bs : List (List Nat), PyData.eqvAll (txtD as) (txtD bs) = decide (as = bs)
  | [], [] => rfl
  | [], b :: bs => by rw [decide_eq_false (by simp)]; rfl
  | a :: as, [] => by rw [decide_eq_false (by simp)]; rfl
  | a :: as, b :: bs => by
    show ((SX.S a == SX.S b) && PyData.eqvAll (txtD as) (txtD bs)) = _
    rw [str_beq, eqv_txts as bs, Bool.eq_iff_iff]
    simp
theorem str_ok {u : List Nat} (h : ∀ c ∈ u, c < 1114112) : PyData.strOk (SX.S u) = true := by
  unfold PyData.strOk SX.S
  simp only [List.all_toArray, List.all_eq_true, decide_eq_true_eq]
  exact h
theorem word_small {sg u : List Nat} (hs : Signs sg) (h : Word sg u) : ∀ c ∈ u, c < 1114112 := fun c hc => by
  have := (hs.2.2.1 c (h.2.2 c hc)).2
  omega
theorem lay_arcs {sg : List Nat} (hs : Signs sg) : ∀ as : List Arc, (∀ a ∈ as, OkArc sg a) → PyData.canLayAll0 (as.map arcD) = true
  | [], _ => rfl
  | a :: r, h => by
    have e : PyData.strOk (SX.S a.2.1) = true := str_ok (word_small hs (h a (by simp)).2.1)
    have ea : PyData.canLay0 (arcD a) = true := by
      show (true && (PyData.strOk (SX.S a.2.1) && (true && true))) = true
      rw [e]; rfl
    show (PyData.canLay0 (arcD a) && PyData.canLayAll0 (r.map arcD)) = true
    rw [ea, lay_arcs hs r fun b hb => h b (by simp [hb])]
    rfl
theorem deep_arcs : ∀ as : List Arc, PyData.depthAll (as.map arcD) ≤ 1
  | [] => by simp [PyData.depthAll]
  | a :: r => by
    show max (PyData.depth (arcD a)) (PyData.depthAll (r.map arcD)) ≤ 1
    have e : PyData.depth (arcD a) = 1 := by simp [arcD, PyData.depth, PyData.depthAll]
    have := deep_arcs r
    omega
theorem shaped_arcsL {sg : List Nat} {as : List Arc} (hs : Signs sg) (h : ∀ a ∈ as, OkArc sg a) : SeqAt.shaped (.tuple (as.map arcD)) = true ∧ SeqAt.shaped (.list (as.map arcD)) = true := by
  have e1 := lay_arcs hs as h
  have e2 : PyData.depthAll (as.map arcD) + 1 ≤ 64 := by
    have := deep_arcs as
    omega
  constructor
  · have q1 : PyData.canLay0 (.tuple (as.map arcD)) = true := e1
    have q2 : PyData.depth (.tuple (as.map arcD)) ≤ 64 := e2
    unfold SeqAt.shaped
    rw [q1, decide_eq_true q2]
    rfl
  · have q1 : PyData.canLay0 (.list (as.map arcD)) = true := e1
    have q2 : PyData.depth (.list (as.map arcD)) ≤ 64 := e2
    unfold SeqAt.shaped
    rw [q1, decide_eq_true q2]
    rfl
theorem lay_txts : ∀ ws : List (List Nat), (∀ u ∈ ws, ∀ c ∈ u, c < 1114112) → PyData.canLayAll0 (txtD ws) = true
  | [], _ => rfl
  | u :: r, h => by
    show (PyData.strOk (SX.S u) && PyData.canLayAll0 (txtD r)) = true
    rw [str_ok (h u (by simp)), lay_txts r fun v hv => h v (by simp [hv])]
    rfl
theorem deep_txts : ∀ ws : List (List Nat), PyData.depthAll (txtD ws) = 0
  | [] => by simp [txtD, PyData.depthAll]
  | u :: r => by
    show max (PyData.depth (.str (SX.S u))) (PyData.depthAll (txtD r)) = 0
    rw [deep_txts r]
    simp [PyData.depth]
theorem shaped_txts {ws : List (List Nat)} (h : ∀ u ∈ ws, ∀ c ∈ u, c < 1114112) : SeqAt.shaped (.list (txtD ws)) = true := by
  have q1 : PyData.canLay0 (.list (txtD ws)) = true := lay_txts ws h
  have q2 : PyData.depth (.list (txtD ws)) ≤ 64 := by
    show PyData.depthAll (txtD ws) + 1 ≤ 64
    rw [deep_txts]
    decide
  unfold SeqAt.shaped
  rw [q1, decide_eq_true q2]
  rfl
/-- two looms, and whether they are the same -/
def Eql (C : Addr) (a b : Addr) (r : Bool) (H : Hp) : Prop := ∃ sg us as sg' us' as', LoomAt C H a sg us as ∧ LoomAt C H b sg' us' as' ∧ r = decide (sg = sg' ∧ as = as')
/-- values that are told apart by what they are -/
def Flat (v : V) : Prop := (∃ b, v = .bl b) ∨ (∃ i, v = .int i) ∨ (∃ z, v = .str z)
def spLike : Sp := fun vs H Q _ => ∃ x y, vs = [x, y] ∧ (Flat x ∧ y = x ∧ Q (.bl true) H ∨
  ∃ (a b : Addr) (xs : List V), x = .ref a ∧ y = .ref b ∧ H a = some (.lst xs) ∧ H b = some (.lst xs) ∧ (∀ v ∈ xs, Flat v) ∧ xs.length ≤ 1000 ∧ ∀ H', Same H H' → Q (.bl true) H')
def spFlat : Sp := fun vs H Q _ => ∃ x, vs = [x, x] ∧ Flat x ∧ Q (.bl true) H
theorem flat_txts (ws : List (List Nat)) : ∀ v ∈ txts ws, Flat v := fun v hv => by
  obtain ⟨u, _, rfl⟩ := List.mem_map.mp hv
  exact .inr (.inr ⟨_, rfl⟩)
theorem third {r : Int} (h0 : 0 ≤ r) (h1 : r < 4) : ∃ m : Nat, r.fdiv 3 = (m : Int) ∧ m ≤ 63 := by
  have h : r = 0 ∨ r = 1 ∨ r = 2 ∨ r = 3 := by omega
  rcases h with rfl | rfl | rfl | rfl
  · exact ⟨0, rfl, by decide⟩
  · exact ⟨0, rfl, by decide⟩
  · exact ⟨0, rfl, by decide⟩
  · exact ⟨1, rfl, by decide⟩
def spNo : Sp := fun _ _ _ _ => False
def spOdd (K : PySem.W.Frag) (ns : List Int) (C : Addr) : Sp := fun vs H Q _ => ∃ (a p : Addr), vs = [.ref a, .ref p] ∧ St K ns a H p ∧ ∀ H' x t, Ex p H H' → St K ns a H' p → TyZ K H' x t → PySem.W.kitOne K t (.ref C) = some false → Q x H'
def spArcs (K : PySem.W.Frag) (ns : List Int) : Sp := fun vs H Q _ => ∃ (a p : Addr) (sg : List Nat), vs = [.ref a, .ref p, .str (SX.S sg)] ∧ St K ns a H p ∧ Signs sg ∧
  ∀ H' (q : Addr) us as, Ex p H H' → St K ns a H' p → H q = none → q ≠ p → H' q = some (.lst us) → Arcs H' us as → OkW sg as → Q (.ref q) H'
theorem kit_own {K : PySem.W.Frag} {t : Value} {C : Addr} {b : Bool} (h1 : PySem.W.isClsIn K C = true) (h2 : PySem.W.typeIn K (.ref C) = some (.type "type")) (h3 : PySem.W.subIn K t (.ref C) = some b) (hb : t = .ref C → b = true) : PySem.W.kitOne K t (.ref C) = some b := by
  unfold PySem.W.kitOne
  by_cases e : (t == Value.ref C) = true
  · rw [if_pos e, hb (eq_of_beq e)]
  · rw [if_neg e]
    have q : ((PySem.W.clsIn K C).isSome && PySem.W.typeIn K (.ref C) == some (.type "type")) = true := by
      have h1' : (PySem.W.clsIn K C).isSome = true := h1
      rw [h1', h2] <;> rfl
    show (if ((PySem.W.clsIn K C).isSome && PySem.W.typeIn K (.ref C) == some (.type "type")) = true then PySem.W.subIn K t (.ref C) else none) = some b
    rw [if_pos q]
    exact h3
theorem Arcs.st {K : PySem.W.Frag} {ns : List Int} {a p : Addr} {H H' : Hp} {vs : List V} {as : List Arc} (h : Arcs H vs as) (st : St K ns a H p) (x : Ex p H H') : Arcs H' vs as := by
  obtain ⟨⟨b0, b1, b2, b3, hp, _⟩, _⟩ := st
  exact h.ex x hp
section
variable {P : Program} {w : World} {K : PySem.W.Frag} {mg : Str → Option Value} {base : Heap}
theorem ok_Loom_eq (T : Tx K mg) : FnOk P w K mg base CX0 1 T.f_Loom_eq T.fd_Loom_eq P_Loom_eq (spEqB (Eql T.C_Loom)) := by
  refine T.F_Loom_eq.ok sc_Loom_eq (fun vs H Q E h => ?_) (fun cdv A outer s H vs Q E hr h => ?_)
  · obtain ⟨a, b, r, rfl, _⟩ := h
    rfl
  · obtain ⟨a, b, r, rfl, ⟨sg, us, as, sg', us', as', ⟨dx, TT, hq, hT, harc, hok, hsg⟩, ⟨dx', TT', hq', hT', harc', hok', hsg'⟩, rfl⟩, k⟩ := h
    refine ⟨_, (pss_one (ps_ret (pe_and (pe_callB (call_isiZ (K := K) rfl) rfl T.n_isinstance (by decide +kernel) (pa_cons (pv 1) (pa_cons (pe_glob (v := V.ref T.C_Loom) rfl T.g_Loom rfl) pa_nil))) (pe_and (pe_cmpR op_eq (pe_fld (pv 0) rfl) (pe_fld (pv 1) rfl) (nomark _)) (pe_one (pe_cmpR (op_eqD hr.units) (pe_fld (pv 0) rfl) (pe_fld (pv 1) rfl) (nomark _))))))), ?_⟩
    refine ⟨_, rfl, _, _, _, _, true, rfl, .own _, .x (.base (.ins hq' T.cl_Loom T.ic_Loom T.ig T.it T.im_Loom)), kit_self _, true, rfl, ?_⟩
    refine ⟨_, rfl, a, _, dx, _, _, rfl, hq, T.cl_Loom, T.na_Loom_signs, lf_signs _ _, ?_⟩
    refine ⟨_, rfl, b, _, dx', _, _, rfl, hq', T.cl_Loom, T.na_Loom_signs, lf_signs _ _, ?_⟩
    refine ⟨rfl, _, rfl, ?_⟩
    refine ite2 (fun c => ?_) (fun c => ?_)
    · have e0 := of_decide_eq_true c
      injection e0 with e0
      have e1 : sg = sg' := S_inj e0
      subst e1
      refine ⟨_, rfl, a, _, dx, _, _, rfl, hq, T.cl_Loom, T.na_Loom_arcs, lf_arcs _ _, ?_⟩
      refine ⟨_, rfl, b, _, dx', _, _, rfl, hq', T.cl_Loom, T.na_Loom_arcs, lf_arcs _ _, ?_⟩
      refine ⟨_, _, .tup (SqT.of hT) (dp_arcs harc), .tup (SqT.of hT') (dp_arcs harc'), (shaped_arcsL hsg hok.2.2).1, (shaped_arcsL hsg hok'.2.2).1, ?_⟩
      have e2 : PyData.eqv (.tuple (as.map arcD)) (.tuple (as'.map arcD)) = decide (sg = sg ∧ as = as') := by
        show PyData.eqvAll (as.map arcD) (as'.map arcD) = _
        rw [eqv_arcs]
        simp
      rw [e2]
      exact k H Ext.rfl'
    · have n : ¬ (sg = sg' ∧ as = as') := fun z => c (decide_eq_true (by rw [z.1]))
      rw [decide_eq_false n] at k
      exact k H Ext.rfl'
end
end J


set_option linter.all false
namespace J
/-- the last L digits of n, in the base k -/
def wd (k : Nat) : Nat → Nat → List Nat
  | 0, _ => []
  | L + 1, n => wd k L (n / k) ++ [n % k]
theorem wd_len (k : Nat) : ∀ L n, (wd k L n).length = L
  | 0, _ => rfl
  | L + 1, n => by show (wd k L (n / k) ++ [n % k]).length = L + 1; simp [wd_len k L]
theorem wd_lt {k : Nat} (hk : 0 < k) : ∀ L n, ∀ d ∈ wd k L n, d < k
  | 0, _, d, h => nomatch h
  | L + 1, n, d, h => by
    rcases List.mem_append.mp h with h | h
    · exact wd_lt hk L _ d h
    · rw [List.mem_singleton.mp h]; exact Nat.mod_lt _ hk
theorem wd_front (k : Nat) : ∀ L n, wd k (L + 1) n = ((n / k ^ L) % k) :: wd k L n
  | 0, n => by simp [wd]
  | L + 1, n => by
    show wd k (L + 1) (n / k) ++ [n % k] = _ :: (wd k L (n / k) ++ [n % k])
    rw [wd_front k L (n / k), Nat.div_div_eq_div_mul, Nat.pow_succ, Nat.mul_comm k]
    rfl
theorem wd_pad {k : Nat} (hk : 0 < k) (L t : Nat) : ∀ j, wd k (L + j) (t * k ^ j) = wd k L t ++ List.replicate j 0
  | 0 => by simp
  | j + 1 => by
    show wd k (L + j) (t * k ^ (j + 1) / k) ++ [t * k ^ (j + 1) % k] = _
    have e : t * k ^ (j + 1) = t * k ^ j * k := by rw [Nat.pow_succ, Nat.mul_assoc]
    rw [e, Nat.mul_div_cancel _ hk, Nat.mul_mod_left, wd_pad hk L t j, List.replicate_succ', List.append_assoc]
theorem wd_inj {k : Nat} (hk : 0 < k) : ∀ L n m, n < k ^ L → m < k ^ L → wd k L n = wd k L m → n = m
  | 0, n, m, h1, h2, _ => by simp at h1 h2; omega
  | L + 1, n, m, h1, h2, h => by
    obtain ⟨e1, e2⟩ := List.append_inj' h rfl
    have e3 : n % k = m % k := by simpa using e2
    have b : ∀ {x}, x < k ^ (L + 1) → x / k < k ^ L := fun {x} hx => by
      rw [Nat.div_lt_iff_lt_mul hk]
      rw [Nat.pow_succ] at hx
      exact hx
    have e4 := wd_inj hk L _ _ (b h1) (b h2) e1
    rw [← Nat.div_add_mod n k, ← Nat.div_add_mod m k, e3, e4]
theorem wd_take (k L : Nat) : ∀ j n, (wd k (L + j) n).take L = wd k L (n / k ^ j)
  | 0, n => by
    rw [Nat.pow_zero, Nat.div_one]
    exact List.take_of_length_le (by rw [wd_len]; omega)
  | j + 1, n => by
    show (wd k (L + j) (n / k) ++ [n % k]).take L = _
    rw [List.take_append_of_le_length (by rw [wd_len]; omega), wd_take k L j, Nat.div_div_eq_div_mul, Nat.pow_succ, Nat.mul_comm k]
theorem wd_inc {k : Nat} (M q : Nat) (h : q % k + 1 < k) : wd k (M + 1) (q + 1) = wd k M (q / k) ++ [q % k + 1] := by
  have hk : 0 < k := by omega
  have e : q + 1 = k * (q / k) + (q % k + 1) := by have := Nat.div_add_mod q k; omega
  show wd k M ((q + 1) / k) ++ [(q + 1) % k] = _
  rw [e, Nat.mul_add_div hk, Nat.div_eq_of_lt h, Nat.add_zero, Nat.mul_add_mod, Nat.mod_eq_of_lt h]
/-- the numbers of the words, by their sizes -/
def gn (k : Nat) : Nat → Nat → List Nat → Option (List Nat)
  | _, _, [] => some []
  | L, t, s :: r => if t * k ^ (s - L) = k ^ s then none else (gn k s (t * k ^ (s - L) + 1) r).map (t * k ^ (s - L) :: ·)
theorem gn_low {k : Nat} (hk : 0 < k) : ∀ {sz ts : List Nat} {L t : Nat}, gn k L t sz = some ts → t ≤ k ^ L → (L :: sz).Pairwise (· ≤ ·) → ts.length = sz.length ∧ ∀ (j s x : Nat), sz[j]? = some s → ts[j]? = some x → t * k ^ (s - L) ≤ x ∧ x < k ^ s
  | [], ts, L, t, h, _, _ => by
    cases h
    exact ⟨rfl, fun j s x h => by simp at h⟩
  | s :: r, ts, L, t, h, ht, hp => by
    unfold gn at h
    have hs : L ≤ s := (List.pairwise_cons.mp hp).1 s (by simp)
    have hr := (List.pairwise_cons.mp hp).2
    have e : k ^ L * k ^ (s - L) = k ^ s := by rw [← Nat.pow_add]; congr 1; omega
    have le : t * k ^ (s - L) ≤ k ^ s := by rw [← e]; exact Nat.mul_le_mul_right _ ht
    by_cases c : t * k ^ (s - L) = k ^ s
    · rw [if_pos c] at h; cases h
    · rw [if_neg c] at h
      obtain ⟨us, hu, rfl⟩ := Option.map_eq_some_iff.mp h
      obtain ⟨q1, q2⟩ := gn_low hk hu (by omega) hr
      refine ⟨by simp [q1], fun j s' x h1 h2 => ?_⟩
      match j, h1, h2 with
      | 0, h1, h2 =>
        cases h1; cases h2
        exact ⟨Nat.le_refl _, by omega⟩
      | j + 1, h1, h2 =>
        obtain ⟨p1, p2⟩ := q2 j s' x (by simpa using h1) (by simpa using h2)
        refine ⟨?_, p2⟩
        have hs' : s ≤ s' := (List.pairwise_cons.mp hr).1 s' (List.mem_of_getElem? (by simpa using h1))
        have e2 : k ^ (s' - L) = k ^ (s - L) * k ^ (s' - s) := by rw [← Nat.pow_add]; congr 1; omega
        rw [e2, ← Nat.mul_assoc]
        exact Nat.le_trans (Nat.mul_le_mul_right _ (by omega)) p1
theorem gn_two {k : Nat} (hk : 0 < k) : ∀ {sz ts : List Nat} {L t : Nat}, gn k L t sz = some ts → t ≤ k ^ L → (L :: sz).Pairwise (· ≤ ·) → ∀ (i j s s' x y : Nat), i < j → sz[i]? = some s → sz[j]? = some s' → ts[i]? = some x → ts[j]? = some y → (x + 1) * k ^ (s' - s) ≤ y
  | [], ts, L, t, h, _, _ => fun i j s s' x y _ h1 => by simp at h1
  | s0 :: r, ts, L, t, h, ht, hp => by
    unfold gn at h
    have hs : L ≤ s0 := (List.pairwise_cons.mp hp).1 s0 (by simp)
    have hr := (List.pairwise_cons.mp hp).2
    have e : k ^ L * k ^ (s0 - L) = k ^ s0 := by rw [← Nat.pow_add]; congr 1; omega
    have le : t * k ^ (s0 - L) ≤ k ^ s0 := by rw [← e]; exact Nat.mul_le_mul_right _ ht
    by_cases c : t * k ^ (s0 - L) = k ^ s0
    · rw [if_pos c] at h; cases h
    · rw [if_neg c] at h
      obtain ⟨us, hu, rfl⟩ := Option.map_eq_some_iff.mp h
      intro i j s s' x y hij h1 h2 h3 h4
      obtain ⟨j, rfl⟩ : ∃ m, j = m + 1 := ⟨j - 1, by omega⟩
      match i, hij, h1, h3 with
      | 0, _, h1, h3 =>
        cases h1; cases h3
        exact ((gn_low hk hu (by omega) hr).2 j s' y (by simpa using h2) (by simpa using h4)).1
      | i + 1, hij, h1, h3 => exact gn_two hk hu (by omega) hr i j s s' x y (by omega) (by simpa using h1) (by simpa using h2) (by simpa using h3) (by simpa using h4)
theorem asc_uniq : ∀ {xs ys : List Nat}, xs.Pairwise (· < ·) → ys.Pairwise (· < ·) → (∀ x, x ∈ xs ↔ x ∈ ys) → xs = ys
  | [], [], _, _, _ => rfl
  | [], y :: ys, _, _, h => absurd ((h y).mpr (by simp)) (by simp)
  | x :: xs, [], _, _, h => absurd ((h x).mp (by simp)) (by simp)
  | x :: xs, y :: ys, h1, h2, h => by
    obtain ⟨a1, a2⟩ := List.pairwise_cons.mp h1
    obtain ⟨b1, b2⟩ := List.pairwise_cons.mp h2
    have e : x = y := by
      rcases List.mem_cons.mp ((h x).mp (by simp)) with q | q
      · exact q
      · rcases List.mem_cons.mp ((h y).mpr (by simp)) with p | p
        · exact p.symm
        · have := a1 y p; have := b1 x q; omega
    subst e
    rw [asc_uniq a2 b2 fun z => ?_]
    constructor
    · intro hz
      rcases List.mem_cons.mp ((h z).mp (by simp [hz])) with q | q
      · have := a1 z hz; omega
      · exact q
    · intro hz
      rcases List.mem_cons.mp ((h z).mpr (by simp [hz])) with q | q
      · have := b1 z hz; omega
      · exact q
/-- the places, by sizes first: size times 16 and place -/
def Ord (ls os : List Nat) : Prop := os.Pairwise (· < ·) ∧ os.length = ls.length ∧ ∀ c, c ∈ os ↔ ls[c % 16]? = some (c / 16)
theorem Ord.uniq {ls os os' : List Nat} (h : Ord ls os) (h' : Ord ls os') : os = os' := asc_uniq h.1 h'.1 fun c => (h.2.2 c).trans (h'.2.2 c).symm
def szo (os : List Nat) : List Nat := os.map (· / 16)
theorem Ord.asc {ls os : List Nat} (h : Ord ls os) : (0 :: szo os).Pairwise (· ≤ ·) := by
  refine List.pairwise_cons.mpr ⟨fun _ _ => Nat.zero_le _, ?_⟩
  refine List.pairwise_map.mpr (h.1.imp fun {a b} hab => ?_)
  exact Nat.div_le_div_right (Nat.le_of_lt hab)
def tx (sg : List Nat) (L n : Nat) : List Nat := (wd sg.length L n).map fun d => sg.getD d 0
theorem tx_len (sg : List Nat) (L n : Nat) : (tx sg L n).length = L := by rw [tx, List.length_map, wd_len]
/-- the words that are due: by their places -/
def Res (sg ls : List Nat) (us : List (List Nat)) : Prop := us.length = ls.length ∧ ∃ os ts, Ord ls os ∧ gn sg.length 0 0 (szo os) = some ts ∧ ∀ (j c t : Nat), os[j]? = some c → ts[j]? = some t → us[c % 16]? = some (tx sg (c / 16) t)
theorem Res.at {sg ls : List Nat} {us : List (List Nat)} (h : Res sg ls us) (hl : ls.length ≤ 12) (h0 : ∀ l ∈ ls, 1 ≤ l) (hk : 0 < sg.length) {i : Nat} (hi : i < us.length) : ∃ (os ts : List Nat) (j t l : Nat), Ord ls os ∧ gn sg.length 0 0 (szo os) = some ts ∧ ls[i]? = some l ∧ os[j]? = some (l * 16 + i) ∧ ts[j]? = some t ∧ us[i]? = some (tx sg l t) := by
  obtain ⟨h1, os, ts, ho, hg, hw⟩ := h
  have hi2 : i < ls.length := by omega
  have ei : ls[i]? = some ls[i] := List.getElem?_eq_getElem hi2
  have e1 : (ls[i] * 16 + i) % 16 = i := by omega
  have e2 : (ls[i] * 16 + i) / 16 = ls[i] := by omega
  have hm : ls[i] * 16 + i ∈ os := (ho.2.2 _).mpr (by rw [e1, e2]; exact ei)
  obtain ⟨j, hj⟩ := List.mem_iff_getElem?.mp hm
  have hlt := (gn_low hk hg (by simp) ho.asc).1
  have hj2 : j < ts.length := by
    rw [hlt, szo, List.length_map]
    exact (List.getElem?_eq_some_iff.mp hj).1
  have et : ts[j]? = some ts[j] := List.getElem?_eq_getElem hj2
  have q := hw j _ _ hj et
  rw [e1, e2] at q
  exact ⟨os, ts, j, ts[j], ls[i], ho, hg, ei, hj, et, q⟩
theorem Res.uniq {sg ls : List Nat} {us vs : List (List Nat)} (h : Res sg ls us) (h' : Res sg ls vs) (hl : ls.length ≤ 12) (h0 : ∀ l ∈ ls, 1 ≤ l) (hk : 0 < sg.length) : us = vs := by
  refine List.ext_getElem? fun i => ?_
  by_cases hi : i < ls.length
  · obtain ⟨os, ts, j, t, l, ho, hg, hls, hj, ht, hu⟩ := h.at hl h0 hk (by rw [h.1]; exact hi)
    obtain ⟨os', ts', j', t', l', ho', hg', hls', hj', ht', hu'⟩ := h'.at hl h0 hk (by rw [h'.1]; exact hi)
    have e := ho.uniq ho'
    subst e
    rw [hg] at hg'
    cases hg'
    rw [hls] at hls'
    cases hls'
    have ej : j = j' := by
      have p1 := List.getElem?_eq_some_iff.mp hj
      have p2 := List.getElem?_eq_some_iff.mp hj'
      obtain ⟨b1, c1⟩ := p1
      obtain ⟨b2, c2⟩ := p2
      rcases Nat.lt_trichotomy j j' with q | q | q
      · have := List.pairwise_iff_getElem.mp ho.1 j j' b1 b2 q; omega
      · exact q
      · have := List.pairwise_iff_getElem.mp ho.1 j' j b2 b1 q; omega
    subst ej
    rw [ht] at ht'
    cases ht'
    rw [hu, hu']
  · rw [List.getElem?_eq_none (by rw [h.1]; omega), List.getElem?_eq_none (by rw [h'.1]; omega)]
theorem getD_inj {sg : List Nat} (hs : sg.Pairwise (· < ·)) {a b : Nat} (ha : a < sg.length) (hb : b < sg.length) (h : sg.getD a 0 = sg.getD b 0) : a = b := by
  rw [List.getD_eq_getElem?_getD, List.getD_eq_getElem?_getD, List.getElem?_eq_getElem ha, List.getElem?_eq_getElem hb] at h
  simp only [Option.getD_some] at h
  rcases Nat.lt_trichotomy a b with q | q | q
  · have := List.pairwise_iff_getElem.mp hs a b ha hb q; omega
  · exact q
  · have := List.pairwise_iff_getElem.mp hs b a hb ha q; omega
theorem map_inj_on {f : Nat → Nat} {k : Nat} (hf : ∀ a b, a < k → b < k → f a = f b → a = b) : ∀ {xs ys : List Nat}, (∀ x ∈ xs, x < k) → (∀ y ∈ ys, y < k) → xs.map f = ys.map f → xs = ys
  | [], [], _, _, _ => rfl
  | [], _ :: _, _, _, h => by simp at h
  | _ :: _, [], _, _, h => by simp at h
  | x :: xs, y :: ys, hx, hy, h => by
    simp only [List.map_cons, List.cons.injEq] at h
    rw [hf x y (hx x (by simp)) (hy y (by simp)) h.1, map_inj_on hf (fun z hz => hx z (by simp [hz])) (fun z hz => hy z (by simp [hz])) h.2]
theorem tx_inj {sg : List Nat} (hs : sg.Pairwise (· < ·)) (hk : 0 < sg.length) {L n m : Nat} (hn : n < sg.length ^ L) (hm : m < sg.length ^ L) (h : tx sg L n = tx sg L m) : n = m :=
  wd_inj hk L n m hn hm (map_inj_on (k := sg.length) (fun a b ha hb e => getD_inj hs ha hb e) (wd_lt hk L n) (wd_lt hk L m) h)
/-- no word that is due begins with another one -/
theorem Res.plain {sg ls : List Nat} {us : List (List Nat)} (h : Res sg ls us) (hl : ls.length ≤ 12) (h0 : ∀ l ∈ ls, 1 ≤ l) (hs : sg.Pairwise (· < ·)) (hk : 0 < sg.length) {i o : Nat} {u v : List Nat} (hio : i ≠ o) (hi : us[i]? = some u) (ho : us[o]? = some v) : u.take v.length ≠ v := by
  intro z
  have hi2 := (List.getElem?_eq_some_iff.mp hi).1
  have ho2 := (List.getElem?_eq_some_iff.mp ho).1
  obtain ⟨os, ts, j, t, l, hor, hg, hls, hj, ht, hu⟩ := h.at hl h0 hk hi2
  obtain ⟨os', ts', j', t', l', hor', hg', hls', hj', ht', hu'⟩ := h.at hl h0 hk ho2
  have e := hor.uniq hor'
  subst e
  rw [hg] at hg'
  cases hg'
  rw [hu] at hi
  rw [hu'] at ho
  cases hi
  cases ho
  rw [tx_len] at z
  have szj : (szo os)[j]? = some l := by rw [szo, List.getElem?_map, hj]; show some ((l * 16 + i) / 16) = _; congr 1; have := h.1; omega
  have szj' : (szo os)[j']? = some l' := by rw [szo, List.getElem?_map, hj']; show some ((l' * 16 + o) / 16) = _; congr 1; have := h.1; omega
  obtain ⟨_, low⟩ := gn_low hk hg (by simp) hor.asc
  have b1 := (low j l t szj ht).2
  have b2 := (low j' l' t' szj' ht').2
  have hll : l' ≤ l := by
    have := congrArg List.length z
    rw [List.length_take, tx_len, tx_len] at this
    omega
  have e3 : (tx sg l t).take l' = tx sg l' (t / sg.length ^ (l - l')) := by
    unfold tx
    rw [← List.map_take]
    have q := wd_take sg.length l' (l - l') t
    rw [show l' + (l - l') = l by omega] at q
    rw [q]
  rw [e3] at z
  have e4 : sg.length ^ l' * sg.length ^ (l - l') = sg.length ^ l := by rw [← Nat.pow_add]; congr 1; omega
  have pp : 0 < sg.length ^ (l - l') := Nat.pow_pos hk
  have b3 : t / sg.length ^ (l - l') < sg.length ^ l' := by
    rw [Nat.div_lt_iff_lt_mul pp, e4]; exact b1
  have e5 := tx_inj hs hk b3 b2 z
  have hjj : j ≠ j' := fun q => by
    subst q
    rw [hj] at hj'
    injection hj' with q
    have := h.1
    omega
  have hij : (j < j') ∨ (j' < j) := by omega
  rcases hij with q | q
  · have hlt : l ≤ l' := by
      have w1 := List.getElem?_eq_some_iff.mp hj
      have w2 := List.getElem?_eq_some_iff.mp hj'
      obtain ⟨a1, a2⟩ := w1
      obtain ⟨c1, c2⟩ := w2
      have := List.pairwise_iff_getElem.mp hor.1 j j' a1 c1 q
      have := h.1
      omega
    have el : l = l' := by omega
    subst el
    have g := gn_two hk hg (by simp) hor.asc j j' l l t t' q szj szj' ht ht'
    rw [Nat.sub_self, Nat.pow_zero, Nat.div_one] at e5
    rw [Nat.sub_self, Nat.pow_zero] at g
    omega
  · have g := gn_two hk hg (by simp) hor.asc j' j l' l t' t q szj' szj ht' ht
    have : t' + 1 ≤ t / sg.length ^ (l - l') := (Nat.le_div_iff_mul_le pp).mpr g
    omega
end J

set_option Elab.async false
set_option linter.all false
set_option maxRecDepth 100000
set_option maxHeartbeats 4000000
namespace J
open PySem L2
def nums (ls : List Nat) : List V := ls.map fun n : Nat => V.int (n : Int)
theorem nums_len (ls : List Nat) : (nums ls).length = ls.length := by simp [nums]
theorem nums_at {ls : List Nat} {i l : Nat} (h : ls[i]? = some l) : (nums ls)[i]? = some (V.int (l : Int)) := by rw [nums, List.getElem?_map, h]; rfl
theorem int_at {ls : List Nat} {i : Nat} {y : V} (h : (nums ls)[i]? = some y) : ∃ l, ls[i]? = some l ∧ y = .int (l : Nat) := by
  rw [nums, List.getElem?_map] at h
  obtain ⟨l, hl, e⟩ := Option.map_eq_some_iff.mp h
  exact ⟨l, hl, e.symm⟩
/-- signs of this law's menu -/
def SgM (sg : List Nat) : Prop := sg ∈ ([[97, 98], [97, 98, 99], [120, 122], [97], [98, 100, 102, 104]] : List (List Nat))
theorem SgM.signs {sg : List Nat} (h : SgM sg) : Signs sg := by
  have q : ∀ l ∈ ([[97, 98], [97, 98, 99], [120, 122], [97], [98, 100, 102, 104]] : List (List Nat)), Signs l := by decide
  exact q sg h
theorem menu46 {v : V} (h : v ∈ ([.str "ab", .str "ab", .str "abc", .str "xz", .str "a", .str "bdfh"] : List V)) : ∃ sg, v = .str (SX.S sg) ∧ SgM sg := by
  simp only [List.mem_cons, List.not_mem_nil, or_false] at h
  rcases h with rfl | rfl | rfl | rfl | rfl | rfl
  · exact ⟨[97, 98], rfl, by unfold SgM; decide⟩
  · exact ⟨[97, 98], rfl, by unfold SgM; decide⟩
  · exact ⟨[97, 98, 99], rfl, by unfold SgM; decide⟩
  · exact ⟨[120, 122], rfl, by unfold SgM; decide⟩
  · exact ⟨[97], rfl, by unfold SgM; decide⟩
  · exact ⟨[98, 100, 102, 104], rfl, by unfold SgM; decide⟩
/-- lengths that may be handed in -/
def Lens (ls : List Nat) : Prop := 1 ≤ ls.length ∧ ls.length ≤ 12 ∧ ∀ l ∈ ls, 1 ≤ l ∧ l ≤ 12
/-! ### the order of the places -/
def keyOf (H : Hp) (v : V) : Int × Int := match v with
  | .ref t => match H t with
    | some (.tup [.int i, .int j]) => (i, j)
    | _ => (0, 0)
  | _ => (0, 0)
theorem keyOf_at {H : Hp} {t : Addr} {i j : Int} (h : H t = some (.tup [.int i, .int j])) : keyOf H (.ref t) = (i, j) := by
  unfold keyOf
  simp only [h]
def cdOf (H : Hp) (v : V) : Nat := ((keyOf H v).1 * 16 + (keyOf H v).2).toNat
theorem order_of {H : Hp} {ls : List Nat} (hl : ls.length ≤ 12) {ps : List Addr} (hps : ps.length = ls.length) (hp : ∀ i l : Nat, ls[i]? = some l → ∃ t, ps[i]? = some t ∧ H t = some (.tup [.int (l : Nat), .int (i : Nat)]))
    {ys : List V} (hs : SrtO.Srtd (ltP (keyOf H)) ys) (hy : ys.Perm (ps.map V.ref)) :
    ∃ os, Ord ls os ∧ ys.length = os.length ∧ ∀ j c : Nat, os[j]? = some c → ∃ t, ys[j]? = some (.ref t) ∧ H t = some (.tup [.int (c / 16 : Nat), .int (c % 16 : Nat)]) := by
  have one : ∀ v ∈ ys, ∃ t l i : Nat, v = .ref t ∧ ls[i]? = some l ∧ i < 12 ∧ H t = some (.tup [.int (l : Nat), .int (i : Nat)]) ∧ cdOf H v = l * 16 + i := fun v hv => by
    obtain ⟨t, ht, rfl⟩ := List.mem_map.mp (hy.mem_iff.mp hv)
    obtain ⟨i, hi⟩ := List.mem_iff_getElem?.mp ht
    have hi2 := (List.getElem?_eq_some_iff.mp hi).1
    have el : ls[i]? = some ls[i] := List.getElem?_eq_getElem (by omega)
    obtain ⟨t', ht', hH⟩ := hp i _ el
    rw [hi] at ht'
    cases ht'
    refine ⟨t, _, i, rfl, el, by omega, hH, ?_⟩
    unfold cdOf
    rw [keyOf_at hH]
    show ((ls[i] : Int) * 16 + (i : Int)).toNat = _
    omega
  have ce : (ps.map V.ref).map (cdOf H) = (List.range ls.length).map fun i => ls.getD i 0 * 16 + i := by
    refine List.ext_getElem? fun i => ?_
    by_cases h : i < ls.length
    · have el : ls[i]? = some ls[i] := List.getElem?_eq_getElem h
      obtain ⟨t, ht, hH⟩ := hp i _ el
      rw [List.getElem?_map, List.getElem?_map, ht, List.getElem?_map, List.getElem?_range h]
      simp only [Option.map_some]
      congr 1
      unfold cdOf
      rw [keyOf_at hH, List.getD_eq_getElem?_getD, el]
      show ((ls[i] : Int) * 16 + (i : Int)).toNat = ls[i] * 16 + i
      omega
    · rw [List.getElem?_eq_none (by simp; omega), List.getElem?_eq_none (by simp; omega)]
  have hperm : (ys.map (cdOf H)).Perm ((List.range ls.length).map fun i => ls.getD i 0 * 16 + i) := by rw [← ce]; exact hy.map _
  have nd : (ys.map (cdOf H)).Nodup := by
    refine hperm.nodup_iff.mpr ?_
    refine List.pairwise_map.mpr (List.nodup_range.imp_of_mem fun {a b} ha hb hab => ?_)
    have := List.mem_range.mp ha
    have := List.mem_range.mp hb
    omega
  have le : (ys.map (cdOf H)).Pairwise (· ≤ ·) := by
    refine List.pairwise_map.mpr (hs.imp_of_mem fun {a b} ha hb hab => ?_)
    obtain ⟨t, l, i, rfl, _, hi, hH, e1⟩ := one a ha
    obtain ⟨t', l', i', rfl, _, hi', hH', e2⟩ := one b hb
    have q := SrtO.lexB_no.mp hab
    rw [keyOf_at hH, keyOf_at hH'] at q
    simp only at q
    rw [e1, e2]
    omega
  refine ⟨ys.map (cdOf H), ⟨?_, by rw [List.length_map, hy.length_eq, List.length_map, hps], fun c => ?_⟩, by rw [List.length_map], fun j c hc => ?_⟩
  · exact (le.and nd).imp fun {a b} h => by omega
  · rw [hperm.mem_iff, List.mem_map]
    constructor
    · rintro ⟨i, hi, rfl⟩
      have hi' := List.mem_range.mp hi
      rw [show (ls.getD i 0 * 16 + i) % 16 = i by omega, show (ls.getD i 0 * 16 + i) / 16 = ls.getD i 0 by omega, List.getD_eq_getElem?_getD, List.getElem?_eq_getElem hi']
      rfl
    · intro h
      have hi := (List.getElem?_eq_some_iff.mp h).1
      refine ⟨c % 16, List.mem_range.mpr hi, ?_⟩
      rw [List.getD_eq_getElem?_getD, h]
      show c / 16 * 16 + c % 16 = c
      omega
  · rw [List.getElem?_map] at hc
    obtain ⟨v, hv, rfl⟩ := Option.map_eq_some_iff.mp hc
    obtain ⟨t, l, i, rfl, _, hi, hH, e⟩ := one v (List.mem_of_getElem? hv)
    rw [e]
    refine ⟨t, hv, ?_⟩
    rw [show (l * 16 + i) / 16 = l by omega, show (l * 16 + i) % 16 = i by omega]
    exact hH
theorem S_app (u v : List Nat) : SX.S u ++ SX.S v = SX.S (u ++ v) := by
  show (⟨u.toArray ++ v.toArray⟩ : Str) = ⟨(u ++ v).toArray⟩
  rw [List.append_toArray]
def spSigns46 (K : PySem.W.Frag) (ns : List Int) : Sp := fun vs H Q _ => ∃ (a p : Addr), vs = [.ref a, .ref p] ∧ St K ns a H p ∧ ∀ H' sg, Ex p H H' → St K ns a H' p → SgM sg → Q (.str (SX.S sg)) H'
def spFirst : Sp := fun vs H Q _ => ∃ (a : Addr) (ls : List Nat), vs = [.ref a, .int 1, .int 12, .int 1, .int 12] ∧ Seq H a (nums ls) ∧ Lens ls ∧ ∀ H', Same H H' → Q .non H'
def spTextAt : Sp := fun vs H Q _ => ∃ (sg : List Nat) (n L : Nat), vs = [.str (SX.S sg), .int (n : Nat), .int (L : Nat)] ∧ Signs sg ∧ L ≤ 12 ∧ Q (.str (SX.S (tx sg L n))) H
def spLens (K : PySem.W.Frag) (ns : List Int) : Sp := fun vs H Q _ => ∃ (a p : Addr), vs = [.ref a, .ref p] ∧ St K ns a H p ∧
  ∀ H' (q : Addr) ls, Ex p H H' → St K ns a H' p → H q = none → q ≠ p → H' q = some (.lst (nums ls)) → Lens ls → Q (.ref q) H'
theorem menu3 {v : V} {x y z : Int} (h : v ∈ ([.int x, .int y, .int z] : List V)) : v = .int x ∨ v = .int y ∨ v = .int z := by simpa using h
section
variable {P : Program} {w : World} {K : PySem.W.Frag} {mg : Str → Option Value} {base : Heap}
theorem ok_l_signs46 (T : Tx K mg) (ns : List Int) : FnOk P w K mg base CX0 2 T.f_l_signs T.fd_l_signs P_l_signs (spSigns46 K ns) := by
  have G_l_take : FnOk P w K mg base CX0 1 T.f_l_take T.fd_l_take P_l_take (spTake K ns) := ok_l_take T ns
  refine T.F_l_signs.ok sc_l_signs (fun vs H Q E h => ?_) (fun cdv A outer s H vs Q E hr h => ?_)
  · obtain ⟨a, p, rfl, _⟩ := h
    rfl
  · obtain ⟨a, p, rfl, hst, k⟩ := h
    refine ⟨_, (pss_one (ps_ret (pe_ix (ix_listK (K := K) rfl) (pe_lst (pa_cons pe_str (pa_cons pe_str (pa_cons pe_str (pa_cons pe_str (pa_cons pe_str (pa_cons pe_str pa_nil))))))) (pe_call G_l_take (hr.mono (by decide)) rfl T.m_l_take T.F_l_take.kp T.b_l_take .nil pass0 (pa_cons (pv 0) (pa_cons (pv 1) (pa_cons pe_int pa_nil)))) (fun _ _ => rfl)))), ?_⟩
    refine ⟨le_size (by simp), fun l hl => ?_⟩
    have nl := hst.ne hl
    refine ⟨_, rfl, _, rfl, a, p, 6, rfl, hst.same (Same.new _ hl), by decide, by decide, fun H1 r x1 st1 r0 r1 => ?_⟩
    obtain ⟨v, hv, hat⟩ := atI_mem (xs := ([.str "ab", .str "ab", .str "abc", .str "xz", .str "a", .str "bdfh"] : List V)) r0 (by simpa using r1)
    obtain ⟨sg, rfl, hs⟩ := menu46 hv
    exact ⟨l, _, _, _, rfl, rfl, SqL.of (x1 _ _ nl upd_same), hat, k _ _ ((Ex.new _ hl).trans x1) st1 hs⟩
theorem ok_first_wrong (T : Tx K mg) : FnOk P w K mg base CX0 2 T.f_first_wrong T.fd_first_wrong P_first_wrong spFirst := by
  have G_is_sequence : FnOk P w K mg base CX0 1 T.f_is_sequence T.fd_is_sequence P_is_sequence (spSequence K) := ok_is_sequence T
  have G_is_number : FnOk P w K mg base CX0 1 T.f_is_number T.fd_is_number P_is_number spNumber := ok_is_number T
  refine T.F_first_wrong.ok sc_first_wrong (fun vs H Q E h => ?_) (fun cdv A outer s H vs Q E hr h => ?_)
  · obtain ⟨a, ls, rfl, _⟩ := h
    rfl
  · obtain ⟨a, ls, rfl, ha, ⟨h1, h2, h3⟩, k⟩ := h
    refine ⟨_, (pss_cons (ps_if (pt_not (pt_val (pe_call G_is_sequence (hr.mono (by decide)) rfl T.m_is_sequence T.F_is_sequence.kp T.b_is_sequence .nil pass0 (pa_cons (pv 0) (pa_cons (pv 1) (pa_cons (pv 2) pa_nil)))))) (pss_one (ps_ret (pe_un un_neg pe_int))) pss_nil)
        (pss_cons (ps_for PassesOwn.never rfl (pi_or (pi_enum rfl T.n_enumerate (pa_cons (pv 0) pa_nil)) (pi_enumT rfl T.n_enumerate (pa_cons (pv 0) pa_nil))) (pg_tup rfl (pgs_cons (pg_name (i := 5) sc_first_wrong.nd rfl (Or.inl rfl)) (pgs_cons (pg_name (i := 6) sc_first_wrong.nd rfl (Or.inl rfl)) pgs_nil))) (pss_one (ps_if (pt_not (pt_val (pe_call G_is_number (hr.mono (by decide)) rfl T.m_is_number T.F_is_number.kp T.b_is_number .nil pass0 (pa_cons (pv 6) (pa_cons (pv 3) (pa_cons (pv 4) pa_nil)))))) (pss_one (ps_ret (pv 5))) pss_nil)))
        (pss_one (ps_ret pe_non)))), ?_⟩
    refine ⟨_, rfl, _, rfl, _, rfl, a, nums ls, 1, 12, rfl, ha, fun H1 b s1 hb => ⟨b, rfl, ?_⟩⟩
    rw [hb.mpr ⟨by rw [nums_len]; omega, by rw [nums_len]; omega⟩]
    rcases ha.same s1 with ha1 | ha1
    · refine .inl ⟨_, rfl, a, nums ls, rfl, SqL.of ha1, for_it walk_enum (fun i σ H' => ∃ v4 v5, σ = [some (.ref a), some (.int 1), some (.int 12), some (.int 1), some (.int 12), v4, v5] ∧ Same H1 H') ⟨_, _, rfl, fun _ _ e => e⟩ (fun i σ H' _ ⟨_, _, _, sm⟩ => SqL.of (sm _ _ ha1)) ?_ ?_⟩
      · rintro i x σ H3 H4 hi ⟨v4, v5, rfl, s3⟩ ⟨tp, x1, y1, rfl, ht, rfl, hx1, hy1⟩
        cases hx1
        obtain ⟨l, hl, rfl⟩ := int_at hy1
        obtain ⟨b1, b2⟩ := h3 l (List.mem_of_getElem? hl)
        have sn := Same.new (.tup [V.int (i : Int), .int (l : Nat)]) ht
        refine ⟨tp, _, rfl, SqT.of upd_same, rfl, _, _, rfl, _, _, rfl, rfl, ?_⟩
        refine ⟨_, rfl, _, rfl, _, rfl, (l : Int), 1, 12, rfl, fun b hb => ⟨b, rfl, ?_⟩⟩
        rw [hb.mpr ⟨by omega, by omega⟩]
        exact ⟨_, _, rfl, s3.trans sn⟩
      · rintro σ H3 ⟨v4, v5, rfl, s3⟩
        exact k H3 (s1.trans s3)
    · refine .inr ⟨_, rfl, a, nums ls, rfl, SqT.of ha1, for_it walk_enumT (fun i σ H' => ∃ v4 v5, σ = [some (.ref a), some (.int 1), some (.int 12), some (.int 1), some (.int 12), v4, v5] ∧ Same H1 H') ⟨_, _, rfl, fun _ _ e => e⟩ (fun i σ H' _ ⟨_, _, _, sm⟩ => SqT.of (sm _ _ ha1)) ?_ ?_⟩
      · rintro i x σ H3 H4 hi ⟨v4, v5, rfl, s3⟩ ⟨tp, x1, y1, rfl, ht, rfl, hx1, hy1⟩
        cases hx1
        obtain ⟨l, hl, rfl⟩ := int_at hy1
        obtain ⟨b1, b2⟩ := h3 l (List.mem_of_getElem? hl)
        have sn := Same.new (.tup [V.int (i : Int), .int (l : Nat)]) ht
        refine ⟨tp, _, rfl, SqT.of upd_same, rfl, _, _, rfl, _, _, rfl, rfl, ?_⟩
        refine ⟨_, rfl, _, rfl, _, rfl, (l : Int), 1, 12, rfl, fun b hb => ⟨b, rfl, ?_⟩⟩
        rw [hb.mpr ⟨by omega, by omega⟩]
        exact ⟨_, _, rfl, s3.trans sn⟩
      · rintro σ H3 ⟨v4, v5, rfl, s3⟩
        exact k H3 (s1.trans s3)
theorem ok_text_at (T : Tx K mg) : FnOk P w K mg base CX0 1 T.f_text_at T.fd_text_at P_text_at spTextAt := by
  refine T.F_text_at.ok sc_text_at (fun vs H Q E h => ?_) (fun cdv A outer s H vs Q E hr h => ?_)
  · obtain ⟨sg, n, L, rfl, _⟩ := h
    rfl
  · obtain ⟨sg, n, L, rfl, hsg, hL, k⟩ := h
    refine ⟨_, (pss_cons (ps_set (i := 3) sc_text_at.nd rfl (Or.inl rfl) pe_str)
        (pss_cons (ps_for PassesOwn.never rfl (pi_range1 rfl T.n_range (pa_cons (pv 2) pa_nil)) (pg_name (i := 4) sc_text_at.nd rfl (Or.inl rfl)) (pss_cons (ps_set (i := 3) sc_text_at.nd rfl (Or.inl rfl) (pe_op op_add_str (pe_ix ix_str (pv 0) (pe_op op_modN (pv 1) (pe_callB call_len_str rfl T.n_len (by decide +kernel) (pa_cons (pv 0) pa_nil))) (fun _ _ => rfl)) (pv 3)))
        (pss_one (ps_set (i := 1) sc_text_at.nd rfl (Or.inl rfl) (pe_op op_fdivN (pv 1) (pe_callB call_len_str rfl T.n_len (by decide +kernel) (pa_cons (pv 0) pa_nil)))))))
        (pss_one (ps_ret (pv 3))))), ?_⟩
    have hlen := hsg.len
    have hsl : (SX.S sg).length ≤ sizeLine := le_size (by rw [SX.S_len]; omega)
    have hk : ((SX.S sg).length : Int) = (sg.length : Nat) := by rw [SX.S_len]
    refine ⟨_, rfl, _, rfl, by omega, by omega, for_range (lo := 0) (n := ((L : Nat) : Int).toNat) (fun i σ H' => ∃ v, σ = [some (.str (SX.S sg)), some (.int (n / sg.length ^ i : Nat)), some (.int (L : Nat)), some (.str (SX.S (tx sg i n))), v] ∧ H' = H) ?_ ?_ ?_⟩
    · exact ⟨none, by rw [Nat.pow_zero, Nat.div_one]; rfl, rfl⟩
    · rintro i σ H' hi ⟨v, rfl, rfl⟩
      have hi2 : i < L := by omega
      have hm : n / sg.length ^ i % sg.length < sg.length := Nat.mod_lt _ (by omega)
      have hc : sg[n / sg.length ^ i % sg.length]? = some (sg.getD (n / sg.length ^ i % sg.length) 0) := by
        rw [List.getD_eq_getElem?_getD, List.getElem?_eq_getElem hm]; rfl
      refine ⟨_, rfl, _, rfl, _, rfl, _, rfl, hsl, _, _, rfl, rfl, by rw [hk]; omega, _, _, _, rfl, rfl, hsl, by rw [hk, ← Int.ofNat_fmod]; exact atI_nat hc, _, rfl, _, _, rfl, rfl, le_size (by show 1 + (SX.S (tx sg i n)).length ≤ 100000; rw [SX.S_len, tx_len]; omega), ?_⟩
      refine ⟨_, rfl, _, rfl, _, rfl, hsl, _, _, rfl, rfl, ⟨by rw [hk]; omega, by rw [hk]; omega⟩, ?_⟩
      refine ⟨some (.int (0 + (i : Int))), ?_, rfl⟩
      simp only [List.set_cons_succ, List.set_cons_zero]
      have e1 : ((n / sg.length ^ i : Nat) : Int).fdiv ((SX.S sg).length : Int) = ((n / sg.length ^ (i + 1) : Nat) : Int) := by
        rw [hk, ← Int.ofNat_fdiv, Nat.div_div_eq_div_mul, Nat.pow_succ]
      have e2 : ((⟨#[sg.getD (n / sg.length ^ i % sg.length) 0]⟩ : Str) ++ SX.S (tx sg i n)) = SX.S (tx sg (i + 1) n) := by
        have e3 : tx sg (i + 1) n = [sg.getD (n / sg.length ^ i % sg.length) 0] ++ tx sg i n := by
          unfold tx
          rw [wd_front]
          rfl
        rw [e3]
        exact S_app _ _
      rw [e1, e2]
    · rintro σ H' ⟨v, rfl, rfl⟩
      rw [Int.toNat_natCast]
      exact ⟨_, rfl, k⟩
theorem ok_l_lengths (T : Tx K mg) (ns : List Int) : FnOk P w K mg base CX0 2 T.f_l_lengths T.fd_l_lengths P_l_lengths (spLens K ns) := by
  have G_l_take : FnOk P w K mg base CX0 1 T.f_l_take T.fd_l_take P_l_take (spTake K ns) := ok_l_take T ns
  refine T.F_l_lengths.ok sc_l_lengths (fun vs H Q E h => ?_) (fun cdv A outer s H vs Q E hr h => ?_)
  · obtain ⟨a, p, rfl, _⟩ := h
    rfl
  · obtain ⟨a, p, rfl, hst, k⟩ := h
    refine ⟨_, (pss_cons (ps_set (i := 2) sc_l_lengths.nd rfl (Or.inr rfl) (pe_ix (ix_listK (K := K) rfl) (pe_lst (pa_cons pe_int (pa_cons pe_int (pa_cons pe_int pa_nil)))) (pe_call G_l_take (hr.mono (by decide)) rfl T.m_l_take T.F_l_take.kp T.b_l_take .nil pass0 (pa_cons (pv 0) (pa_cons (pv 1) (pa_cons pe_int pa_nil)))) (fun _ _ => rfl)))
        (pss_cons (ps_set (i := 3) sc_l_lengths.nd rfl (Or.inl rfl) (pe_op op_add pe_int (pe_call G_l_take (hr.mono (by decide)) rfl T.m_l_take T.F_l_take.kp T.b_l_take .nil pass0 (pa_cons (pv 0) (pa_cons (pv 1) (pa_cons (pe_ix (ix_listK (K := K) rfl) (pe_lst (pa_cons pe_int (pa_cons pe_int (pa_cons pe_int pa_nil)))) (pe_call G_l_take (hr.mono (by decide)) rfl T.m_l_take T.F_l_take.kp T.b_l_take .nil pass0 (pa_cons (pv 0) (pa_cons (pv 1) (pa_cons pe_int pa_nil)))) (fun _ _ => rfl)) pa_nil))))))
        (pss_one (ps_ret (pe_lc (own := [("_law_k", 4)]) (g := (gName 4)) rfl sc_l_lengths.nd (pi_range1 rfl T.n_range (pa_cons (pv 3) pa_nil)) (blkOk_by (N := N_l_lengths) (sc := defScope s_l_lengths) (by decide +kernel)) (fun _ _ _ _ _ => (pg_name (i := 4) sc_l_lengths.nd rfl (Or.inl rfl))) (fun _ _ _ _ _ => pts_nil) (fun _ _ _ _ _ => (pe_op op_add pe_int (pe_call G_l_take (hr.mono (by decide)) rfl T.m_l_take T.F_l_take.kp T.b_l_take .nil pass0 (pa_cons (pv 0) (pa_cons (pv 1) (pa_cons (pv 2) pa_nil))))))))))), ?_⟩
    refine ⟨le_size (by simp), fun l hl => ?_⟩
    have nl := hst.ne hl
    refine ⟨_, rfl, _, rfl, a, p, 3, rfl, hst.same (Same.new _ hl), by decide, by decide, fun H1 r x1 st1 r0 r1 => ?_⟩
    obtain ⟨v, hv, hat⟩ := atI_mem (xs := ([.int 3, .int 4, .int 12] : List V)) r0 (by simpa using r1)
    refine ⟨l, _, _, _, rfl, rfl, SqL.of (x1 _ _ nl upd_same), hat, ?_⟩
    have hm : ∃ m : Int, v = .int m ∧ 0 < m ∧ m ≤ 12 := by
      rcases menu3 hv with rfl | rfl | rfl
      · exact ⟨3, rfl, by decide, by decide⟩
      · exact ⟨4, rfl, by decide, by decide⟩
      · exact ⟨12, rfl, by decide, by decide⟩
    obtain ⟨m, rfl, hm1, hm2⟩ := hm
    have X1 : Ex p H H1 := (Ex.new _ hl).trans x1
    clear hat hv nl hl x1 r0 r1
    refine ⟨_, rfl, _, rfl, le_size (by simp), fun l hl => ?_⟩
    have nl := st1.ne hl
    refine ⟨_, rfl, _, rfl, a, p, 3, rfl, st1.same (Same.new _ hl), by decide, by decide, fun H2 r x2 st2 r0 r1 => ?_⟩
    obtain ⟨v, hv, hat⟩ := atI_mem (xs := ([.int 4, .int 8, .int 12] : List V)) r0 (by simpa using r1)
    refine ⟨l, _, _, _, rfl, rfl, SqL.of (x2 _ _ nl upd_same), hat, ?_⟩
    have hn : ∃ n : Int, v = .int n ∧ 0 < n ∧ n ≤ 12 := by
      rcases menu3 hv with rfl | rfl | rfl
      · exact ⟨4, rfl, by decide, by decide⟩
      · exact ⟨8, rfl, by decide, by decide⟩
      · exact ⟨12, rfl, by decide, by decide⟩
    obtain ⟨n, rfl, hn1, hn2⟩ := hn
    have X2 : Ex p H H2 := X1.trans ((Ex.new _ hl).trans x2)
    clear hat hv nl hl x2 r0 r1
    refine ⟨a, p, n, rfl, st2, hn1, by omega, fun H3 r x3 st3 r0 r1 => ⟨_, _, rfl, rfl, ?_⟩⟩
    have X3 := X2.trans x3
    refine ⟨_, rfl, _, rfl, by omega, by omega, fun D hD => lc_range (lo := 0) (n := (1 + r).toNat) (fun i H' => ∃ ls : List Nat, ls.length = i ∧ (∀ l ∈ ls, 1 ≤ l ∧ l ≤ 12) ∧ H' D = some (.lst (nums ls)) ∧ Ex p H H' ∧ St K ns a H' p) ?_ ?_ ?_⟩
    · exact ⟨[], rfl, fun _ h => (nomatch h), upd_same, X3.trans (Ex.new _ hD), st3.same (Same.new _ hD)⟩
    · rintro i H4 hi ⟨ls, rfl, hb, hDl, X4, st4⟩
      have nD := st3.ne hD
      have hD0 := X3.free hD nD
      refine ⟨rfl, _, rfl, _, rfl, _, rfl, a, p, m, rfl, st4, hm1, by omega, fun H5 r5 x5 st5 r50 r51 => ⟨_, _, rfl, rfl, ?_⟩⟩
      obtain ⟨j, rfl⟩ := Int.eq_ofNat_of_zero_le r50
      refine ⟨_, x5 _ _ nD hDl, lt_size (by rw [nums_len]; omega), ls ++ [1 + j], by simp, ?_, ?_, (X4.trans x5).updNew hD0, hst.upd st5 ((X4.trans x5).updNew hD0) nD⟩
      · intro l hl
        rcases List.mem_append.mp hl with h | h
        · exact hb l h
        · rw [List.mem_singleton.mp h]; omega
      · rw [upd_same]
        simp [nums]
    · rintro H4 ⟨ls, hl, hb, hDl, X4, st4⟩
      have nD := st3.ne hD
      exact k H4 D ls X4 st4 (X3.free hD nD) nD hDl ⟨by omega, by omega, hb⟩
end
end J


set_option Elab.async false
set_option linter.all false
set_option maxRecDepth 100000
/-! o.name(e, ..) with a letter for the frozen heap: for the word of a comprehension -/
namespace L2
open PySem PySem.Spec PyProof.Rows
theorem pe_bmK {X : Cx} {K : PySem.W.Frag} (hK : X.K = K) {o e : Expr} {es : List Expr} {to : TE} {t : TA} {name : Str} {apos cpos : Pos} {T id : String} {r : V → List V → Hp → VK → Prop}
    (pa : PlainAttrs T) (slot : Slot T name id) (hty : typeOf (.builtin id) = pure (.type "method_descriptor")) (hm : MtR X id r) (ho : PE X o to) (ha : PA X (e :: es) t)
    (h1 : attributeBase o name X.env (eval o X.env) = eval o X.env := by rfl)
    (h2 : (((backTo cpos (starEach (e :: es) X.env)).all (!·.1) && (backToKw cpos (keywordEach [] X.env)).all (·.1.isSome)) && decide ((e :: es).length + ([] : List Keyword).length + (if ([] : List Keyword).isEmpty then 0 else 1) < 30)) = true := by rfl)
    (h3 : (apos.endLine == cpos.line) = true := by rfl) (h4 : starEach (e :: es) X.env = (false, eval e X.env) :: starEach es X.env := by rfl) (h5 : (backTo cpos (starEach es X.env)).any (·.1) = false := by rfl) :
    PE X (.Call (.Attribute o name apos) (e :: es) [] cpos) (tBM K T r to t) := by
  subst hK
  exact pe_bm pa slot hty hm ho ha h1 h2 h3 h4 h5
end L2

set_option Elab.async false
set_option linter.all false
set_option maxRecDepth 100000
set_option maxHeartbeats 4000000
namespace J
open PySem L2
theorem carry_at (k M q c : Nat) : (wd k (M + 1) q ++ List.replicate c 0)[M]? = some (q % k) := by
  show ((wd k M (q / k) ++ [q % k]) ++ List.replicate c 0)[M]? = _
  rw [List.append_assoc, List.getElem?_append_right (by rw [wd_len]; exact Nat.le_refl _), wd_len, Nat.sub_self]
  rfl
theorem carry_set (k M q c x : Nat) : (wd k (M + 1) q ++ List.replicate c 0).set M x = wd k M (q / k) ++ [x] ++ List.replicate c 0 := by
  show ((wd k M (q / k) ++ [q % k]) ++ List.replicate c 0).set M x = _
  rw [List.append_assoc, List.set_append_right _ _ (by rw [wd_len]; exact Nat.le_refl _), wd_len, Nat.sub_self, List.append_assoc]
  rfl
theorem carry_num {k q c n : Nat} (hk : 0 < k) (h : n = q * k ^ c + (k ^ c - 1)) (hq : q % k + 1 = k) : n = q / k * k ^ (c + 1) + (k ^ (c + 1) - 1) := by
  have p : 0 < k ^ c := Nat.pow_pos hk
  have e := Nat.div_add_mod q k
  have e1 : q + 1 = k * (q / k + 1) := by rw [Nat.mul_add]; omega
  have e2 : n + 1 = (q + 1) * k ^ c := by rw [Nat.add_mul]; omega
  have e3 : (q + 1) * k ^ c = (q / k + 1) * k ^ (c + 1) := by rw [e1, Nat.pow_succ, Nat.mul_comm k, Nat.mul_assoc, Nat.mul_comm k]
  have p2 : 0 < k ^ (c + 1) := Nat.pow_pos hk
  have e4 : (q / k + 1) * k ^ (c + 1) = q / k * k ^ (c + 1) + k ^ (c + 1) := by rw [Nat.add_mul, Nat.one_mul]
  omega
theorem nums_set (ls : List Nat) (j x : Nat) : (nums ls).set j (V.int (x : Int)) = nums (ls.set j x) := by simp [nums]
theorem nums_cat (a b : List Nat) : nums a ++ nums b = nums (a ++ b) := by simp [nums]
theorem ix_at {n M : Nat} (h : M < n) : ixN n (M : Int) = some M := by
  unfold ixN
  rw [if_pos (by omega), if_pos (by omega)]
  rfl
theorem cutS_to (x : List Nat) (k : Nat) : cutS (SX.S x) none (some (k : Int)) = SX.S (x.take k) := by
  unfold cutS
  rw [HT.sIx_nat, HT.sIx_none, SX.S_len]
  show SX.S ((x.drop 0).take (min k x.length - 0)) = _
  rw [List.drop_zero, Nat.sub_zero, ← List.take_take, List.take_length]
theorem occ {sg : List Nat} (h : SgM sg) : ∀ d, d < sg.length → Builtin.Str.occurrences (SX.S sg) (SX.S [sg.getD d 0]) 0 (SX.S sg).length 1 = [d] := by
  have q : ∀ l ∈ ([[97, 98], [97, 98, 99], [120, 122], [97], [98, 100, 102, 104]] : List (List Nat)), ∀ d, d < l.length → Builtin.Str.occurrences (SX.S l) (SX.S [l.getD d 0]) 0 (SX.S l).length 1 = [d] := by decide +kernel
  exact q sg h
theorem sum_ones2 (f : Nat → Nat) (us : List Nat) : ((us.map fun c => SX.S [f c]).map (·.length)).sum = us.length := by
  induction us with
  | nil => rfl
  | cons a r ih => simp only [List.map_cons, List.sum_cons, ih, SX.S_len, List.length_cons, List.length_nil]; omega
def spBehind : Sp := fun vs H Q _ => ∃ (sg : List Nat) (L n : Nat), vs = [.str (SX.S sg), .str (SX.S (tx sg L n))] ∧ SgM sg ∧ L ≤ 12 ∧ n < sg.length ^ L ∧
  ∀ H', Same H H' → Q (if n + 1 = sg.length ^ L then .non else .str (SX.S (tx sg L (n + 1)))) H'
def spPlain2 : Sp := fun vs H Q _ => ∃ (a : Addr) (us : List (List Nat)), vs = [.ref a] ∧ H a = some (.lst (txts us)) ∧ us.length ≤ 1000 ∧ (∀ u ∈ us, u.length ≤ 1000) ∧ (∀ (i o : Nat) (u v : List Nat), i ≠ o → us[i]? = some u → us[o]? = some v → u.take v.length ≠ v) ∧ Q (.bl true) H
section
variable {P : Program} {w : World} {K : PySem.W.Frag} {mg : Str → Option Value} {base : Heap}
theorem ok_l_behind (T : Tx K mg) : FnOk P w K mg base CX0 1 T.f_l_behind T.fd_l_behind P_l_behind spBehind := by
  refine T.F_l_behind.ok sc_l_behind (fun vs H Q E h => ?_) (fun cdv A outer s H vs Q E hr h => ?_)
  · obtain ⟨sg, L, n, rfl, _⟩ := h
    rfl
  · obtain ⟨sg, L, n, rfl, hsg, hL, hn, k⟩ := h
    refine ⟨_, (pss_cons (ps_setLc (i := 2) (own := [("_law_sign", 5)]) (g := (gName 5)) rfl sc_l_behind.nd rfl rfl (sw_true rfl rfl rfl (by decide +kernel)) (pi_str (pv 1)) (blkOk_by (N := N_l_behind) (sc := defScope s_l_behind) (by decide +kernel)) (fun _ _ _ _ _ => (pg_name (i := 5) sc_l_behind.nd rfl (Or.inl rfl))) (fun _ _ _ _ _ => pts_nil) (fun _ _ _ _ _ => (pe_bmK (K := K) rfl PySem.F.plainAttrs_str PySem.F.slot_str_index PySem.F.type_str_index mt_sindex (pv 0) (pa_cons (pv 5) pa_nil))))
        (pss_cons (ps_set (i := 3) sc_l_behind.nd rfl (Or.inl rfl) (pe_op op_sub (pe_callB (call_len_seqK (K := K) rfl) rfl T.n_len (by decide +kernel) (pa_cons (pv 2) pa_nil)) pe_int))
        (pss_cons (ps_for PassesOwn.never rfl (pi_range1 rfl T.n_range (pa_cons (pe_callB call_len_str rfl T.n_len (by decide +kernel) (pa_cons (pv 1) pa_nil)) pa_nil)) (pg_name (i := 4) sc_l_behind.nd rfl (Or.inl rfl)) (pss_one (ps_if (PW.pt (pw_and (pt_cmpR op_ge (pv 3) pe_int (nomark _)) (pw_and1 (pt_cmpR op_eq (pe_ix (ix_listK (K := K) rfl) (pv 2) (pv 3) (fun _ _ => rfl)) (pe_op op_sub (pe_callB call_len_str rfl T.n_len (by decide +kernel) (pa_cons (pv 0) pa_nil)) pe_int) (nomark _))))) (pss_cons (ps_asg pe_int (pg_sub (pv 2) (pv 3) set_list))
        (pss_one (ps_set (i := 3) sc_l_behind.nd rfl (Or.inl rfl) (pe_op op_sub (pv 3) pe_int)))) pss_nil)))
        (pss_cons (ps_if (pt_cmpR op_lt (pv 3) pe_int (nomark _)) (pss_one (ps_ret pe_non)) pss_nil)
        (pss_cons (ps_asg (pe_op op_add (pe_ix (ix_listK (K := K) rfl) (pv 2) (pv 3) (fun _ _ => rfl)) pe_int) (pg_sub (pv 2) (pv 3) set_list))
        (pss_one (ps_ret (pe_join pe_str (pe_lc (own := [("_law_place", 6)]) (g := (gName 6)) rfl sc_l_behind.nd (pi_list (pv 2)) (blkOk_by (N := N_l_behind) (sc := defScope s_l_behind) (by decide +kernel)) (fun _ _ _ _ _ => (pg_name (i := 6) sc_l_behind.nd rfl (Or.inl rfl))) (fun _ _ _ _ _ => pts_nil) (fun _ _ _ _ _ => (pe_ix ix_str (pv 0) (pv 6) (fun _ _ => rfl)))))))))))), ?_⟩
    have hlen := hsg.signs.len
    have hk0 : 0 < sg.length := hlen.1
    have hsl : (SX.S sg).length ≤ sizeLine := le_size (by rw [SX.S_len]; omega)
    have hk : ((SX.S sg).length : Int) = (sg.length : Nat) := by rw [SX.S_len]
    have htl : (SX.S (tx sg L n)).length = L := by rw [SX.S_len, tx_len]
    refine ⟨_, rfl, _, rfl, fun D hD => lc_it (walk_str (z := SX.S (tx sg L n))) (fun i H' => H' D = some (.lst (nums ((wd sg.length L n).take i))) ∧ Same H H') ⟨upd_same, Same.new _ hD⟩ (fun _ _ _ _ => trivial) ?_ ?_⟩
    · rintro i x H1 H2 hi ⟨hDl, sm⟩ ⟨rfl, c, hc, rfl⟩
      have hi2 : i < L := by
        have q : i < (SX.S (tx sg L n)).length := hi
        omega
      obtain ⟨d, hdi⟩ : ∃ d, (wd sg.length L n)[i]? = some d := ⟨_, List.getElem?_eq_getElem (by rw [wd_len]; exact hi2)⟩
      have hdl := wd_lt hk0 L n _ (List.mem_of_getElem? hdi)
      have hcc : c = sg.getD d 0 := by
        have q : (tx sg L n)[i]? = some c := by simpa using hc
        rw [tx, List.getElem?_map, hdi] at q
        exact (Option.some.inj q).symm
      subst hcc
      refine ⟨rfl, _, rfl, rfl, _, rfl, SX.S sg, SX.S [sg.getD d 0], d, [], rfl, rfl, occ hsg _ hdl, _, hDl, lt_size (by rw [nums_len, List.length_take]; omega), ?_, sm.updNew hD⟩
      rw [upd_same, ← take_snoc hdi, ← nums_cat]
      rfl
    · rintro H1 ⟨hDl, sm⟩
      have ht : (wd sg.length L n).take (SX.S (tx sg L n)).cps.size = wd sg.length L n := List.take_of_length_le (by rw [wd_len]; exact Nat.le_of_eq htl.symm)
      rw [ht] at hDl
      refine ⟨_, rfl, D, _, rfl, .inl (SqL.of hDl), _, _, rfl, rfl, ?_⟩
      have e0 : ((nums (wd sg.length L n)).length : Int) - 1 = (L : Int) - 1 := by rw [nums_len, wd_len]
      dsimp only
      rw [e0]
      refine ⟨_, rfl, _, rfl, le_size (by omega), _, rfl, by omega, by omega, for_range (lo := 0) (n := (((SX.S (tx sg L n)).length : Nat) : Int).toNat) (fun i σ H' => ∃ (c q : Nat) (v : Option V), σ = [some (.str (SX.S sg)), some (.str (SX.S (tx sg L n))), some (.ref D), some (.int ((L : Int) - 1 - c)), v, none, none] ∧ c ≤ L ∧ n = q * sg.length ^ c + (sg.length ^ c - 1) ∧ H' D = some (.lst (nums (wd sg.length (L - c) q ++ List.replicate c 0))) ∧ Same H H' ∧ (c = i ∨ c < L ∧ q % sg.length + 1 < sg.length)) ?_ ?_ ?_⟩
      · refine ⟨0, n, none, ?_, by omega, by simp, by simpa using hDl, sm, .inl rfl⟩
        rw [show (L : Int) - 1 - ((0 : Nat) : Int) = (L : Int) - 1 by omega]
        rfl
      · rintro i σ H2 hi ⟨c, q, v, rfl, hcL, hnq, hD2, s2, hor⟩
        rw [htl, Int.toNat_natCast] at hi
        refine ⟨_, rfl, _, _, rfl, rfl, _, rfl, ?_⟩
        refine ite2 (fun c1 => ?_) (fun c1 => ?_)
        · have hc2 : c < L := by have := of_decide_eq_true c1; omega
          obtain ⟨M, hM⟩ : ∃ M, L - c = M + 1 := ⟨L - c - 1, by omega⟩
          have eM : (L : Int) - 1 - c = (M : Int) := by omega
          rw [hM] at hD2
          refine ⟨_, rfl, _, rfl, D, _, _, _, rfl, rfl, SqL.of hD2, by rw [eM]; exact atI_nat (nums_at (carry_at _ M q c)), _, rfl, _, rfl, hsl, _, _, rfl, rfl, rfl, _, rfl, ?_⟩
          refine ite2 (fun c2 => ?_) (fun c2 => ?_)
          · have hqk : q % sg.length + 1 = sg.length := by
              have z := of_decide_eq_true c2
              injection z with z
              rw [hk] at z
              omega
            refine ⟨_, rfl, _, rfl, D, _, _, M, rfl, rfl, hD2, by rw [eM]; exact ix_at (by rw [nums_len, List.length_append, wd_len, List.length_replicate]; omega), ?_⟩
            refine ⟨_, rfl, _, _, rfl, rfl, c + 1, q / sg.length, some (.int (0 + (i : Int))), ?_, by omega, carry_num hk0 hnq hqk, ?_, s2.updNew hD, ?_⟩
            · rw [show (L : Int) - 1 - ((c + 1 : Nat) : Int) = (L : Int) - 1 - c - 1 by omega]
              rfl
            · rw [upd_same, show (V.int 0) = V.int ((0 : Nat) : Int) from rfl, nums_set, carry_set, show L - (c + 1) = M by omega, List.append_assoc]
              rfl
            · rcases hor with rfl | ⟨_, h⟩
              · exact .inl rfl
              · omega
          · have hlt : q % sg.length + 1 < sg.length := by
              have h1 := Nat.mod_lt q hk0
              have h2 : ¬ (q % sg.length + 1 = sg.length) := fun z => c2 (decide_eq_true (congrArg V.int (by rw [hk]; omega)))
              omega
            exact ⟨c, q, _, rfl, hcL, hnq, by rw [hM]; exact hD2, s2, .inr ⟨hc2, hlt⟩⟩
        · have h1 : ¬ ((0 : Int) ≤ (L : Int) - 1 - c) := fun z => c1 (decide_eq_true z)
          rcases hor with h | ⟨h, _⟩ <;> omega
      · rintro σ H2 ⟨c, q, v, rfl, hcL, hnq, hD2, s2, hor⟩
        rw [htl, Int.toNat_natCast] at hor
        have p1 : 0 < sg.length ^ c := Nat.pow_pos hk0
        have eN : n + 1 = (q + 1) * sg.length ^ c := by rw [Nat.add_mul]; omega
        refine ⟨_, rfl, _, _, rfl, rfl, _, rfl, ?_⟩
        refine ite2 (fun c1 => ?_) (fun c1 => ?_)
        · have h1 := of_decide_eq_true c1
          have hc : c = L := by omega
          subst hc
          have hq : q = 0 := by
            rcases Nat.eq_zero_or_pos q with h | h
            · exact h
            · have : 1 * sg.length ^ c ≤ q * sg.length ^ c := Nat.mul_le_mul_right _ h
              omega
          have e : n + 1 = sg.length ^ c := by rw [eN, hq]; omega
          have g := k H2 s2
          rw [if_pos e] at g
          exact g
        · have h1 : ¬ ((L : Int) - 1 - c < 0) := fun z => c1 (decide_eq_true z)
          have hc2 : c < L := by omega
          have hlt : q % sg.length + 1 < sg.length := by
            rcases hor with h | ⟨_, h⟩
            · omega
            · exact h
          obtain ⟨M, hM⟩ : ∃ M, L - c = M + 1 := ⟨L - c - 1, by omega⟩
          have eM : (L : Int) - 1 - c = (M : Int) := by omega
          rw [hM] at hD2
          have ne : ¬ (n + 1 = sg.length ^ L) := fun z => by
            have e2 : sg.length ^ L = sg.length ^ (M + 1) * sg.length ^ c := by rw [← Nat.pow_add]; congr 1; omega
            have e3 : q + 1 = sg.length ^ (M + 1) := Nat.eq_of_mul_eq_mul_right p1 (by rw [← eN, z, e2])
            have e4 : (q + 1) % sg.length = 0 := by rw [e3, Nat.pow_succ, Nat.mul_mod_left]
            have e5 : (q + 1) % sg.length = q % sg.length + 1 := by
              rw [Nat.add_mod, Nat.mod_eq_of_lt (a := 1) (by omega), Nat.mod_eq_of_lt (by omega)]
            omega
          have eW : wd sg.length L (n + 1) = wd sg.length M (q / sg.length) ++ [q % sg.length + 1] ++ List.replicate c 0 := by
            rw [← wd_inc M q hlt, eN, ← wd_pad hk0 (M + 1) (q + 1) c]
            congr 1
            omega
          have hseq : ixN (nums (wd sg.length (M + 1) q ++ List.replicate c 0)).length ((L : Int) - 1 - c) = some M := by
            rw [eM]
            exact ix_at (by rw [nums_len, List.length_append, wd_len, List.length_replicate]; omega)
          refine ⟨_, rfl, _, rfl, D, _, _, _, rfl, rfl, SqL.of hD2, by rw [eM]; exact atI_nat (nums_at (carry_at _ M q c)), _, _, rfl, rfl, _, rfl, _, rfl, D, _, _, M, rfl, rfl, hD2, hseq, ?_⟩
          have hD3 : upd H2 D (.lst ((nums (wd sg.length (M + 1) q ++ List.replicate c 0)).set M (V.int ((q % sg.length : Nat) + 1)))) D = some (.lst (nums (wd sg.length L (n + 1)))) := by
            rw [upd_same, show (V.int (((q % sg.length : Nat) : Int) + 1)) = V.int ((q % sg.length + 1 : Nat) : Int) from rfl, nums_set, carry_set, eW]
          have s3 : Same H (upd H2 D (.lst ((nums (wd sg.length (M + 1) q ++ List.replicate c 0)).set M (V.int ((q % sg.length : Nat) + 1))))) := s2.updNew hD
          dsimp only
          generalize upd H2 D (.lst ((nums (wd sg.length (M + 1) q ++ List.replicate c 0)).set M (V.int ((q % sg.length : Nat) + 1)))) = H3 at *
          refine ⟨⟨_, rfl⟩, _, rfl, D, rfl, ⟨_, SqL.of hD3⟩, fun D2 hD2' => lc_list (K := K) (a := D) (xs := nums (wd sg.length L (n + 1))) (fun i H' => H' D2 = some (.lst ((((wd sg.length L (n + 1)).take i).map fun d => SX.S [sg.getD d 0]).map V.str)) ∧ Same H3 H') ⟨upd_same, Same.new _ hD2'⟩ (fun i H' _ ⟨_, sm⟩ => SqL.of (sm _ _ hD3)) ?_ ?_⟩
          · rintro i y H4 hy ⟨hDl, sm⟩
            obtain ⟨d, hd, rfl⟩ := int_at hy
            have hi := (List.getElem?_eq_some_iff.mp hd).1
            rw [wd_len] at hi
            have hdl := wd_lt hk0 L (n + 1) _ (List.mem_of_getElem? hd)
            have hcc : sg[d]? = some (sg.getD d 0) := by rw [List.getD_eq_getElem?_getD, List.getElem?_eq_getElem hdl]; rfl
            refine ⟨rfl, _, rfl, _, rfl, _, _, _, rfl, rfl, hsl, atI_nat hcc, _, hDl, lt_size (by rw [List.length_map, List.length_map, List.length_take]; omega), ?_, sm.updNew hD2'⟩
            rw [upd_same, ← take_snoc hd, List.map_append, List.map_append]
            rfl
          · rintro H4 ⟨hDl, sm⟩
            rw [nums_len, List.take_length] at hDl
            have hf : ∀ l : List Nat, (l.map fun d => [sg.getD d 0]).flatten = l.map fun d => sg.getD d 0 := fun l => by induction l with
              | nil => rfl
              | cons a l ih => simpa using ih
            refine ⟨_, _, (wd sg.length L (n + 1)).map fun d => SX.S [sg.getD d 0], rfl, rfl, .inl (SqL.of hDl), ?_, ?_⟩
            · have es : (((wd sg.length L (n + 1)).map fun d => SX.S [sg.getD d 0]).map (·.length)).sum = L := by
                rw [sum_ones2, wd_len]
              rw [es, emptyS, SX.S_len]
              simp
              omega
            · have e : (wd sg.length L (n + 1)).map (fun d => SX.S [sg.getD d 0]) = ((wd sg.length L (n + 1)).map fun d => [sg.getD d 0]).map SX.S := by rw [List.map_map]; rfl
              rw [e, emptyS, join_flat, hf]
              have g := k H4 (s3.trans sm)
              rw [if_neg ne] at g
              exact g
theorem ok_l_is_plain (T : Tx K mg) : FnOk P w K mg base CX0 1 T.f_l_is_plain T.fd_l_is_plain P_l_is_plain spPlain2 := by
  refine T.F_l_is_plain.ok sc_l_is_plain (fun vs H Q E h => ?_) (fun cdv A outer s H vs Q E hr h => ?_)
  · obtain ⟨a, us, rfl, _⟩ := h
    rfl
  · obtain ⟨a, us, rfl, ha, hl, hw, hp, k⟩ := h
    refine ⟨_, (pss_cons (ps_for PassesOwn.never rfl (pi_range1 rfl T.n_range (pa_cons (pe_callB (call_len_seqK (K := K) rfl) rfl T.n_len (by decide +kernel) (pa_cons (pv 0) pa_nil)) pa_nil)) (pg_name (i := 1) sc_l_is_plain.nd rfl (Or.inl rfl)) (pss_one (ps_for PassesOwn.never rfl (pi_range1 rfl T.n_range (pa_cons (pe_callB (call_len_seqK (K := K) rfl) rfl T.n_len (by decide +kernel) (pa_cons (pv 0) pa_nil)) pa_nil)) (pg_name (i := 2) sc_l_is_plain.nd rfl (Or.inl rfl)) (pss_one (ps_if (PW.pt (pw_and (pt_cmpR op_ne (pv 1) (pv 2) (nomark _)) (pw_and1 (pt_cmpR op_eq (pe_slice sl_str (pe_ix (ix_listK (K := K) rfl) (pv 0) (pv 1) (fun _ _ => rfl)) po_none (po_some (pe_callB call_len_str rfl T.n_len (by decide +kernel) (pa_cons (pe_ix (ix_listK (K := K) rfl) (pv 0) (pv 2) (fun _ _ => rfl)) pa_nil)))) (pe_ix (ix_listK (K := K) rfl) (pv 0) (pv 2) (fun _ _ => rfl)) (nomark _))))) (pss_one (ps_ret pe_bl)) pss_nil)))))
        (pss_one (ps_ret pe_bl))), ?_⟩
    have wl : (txts us).length = us.length := by rw [txts, List.length_map]
    refine ⟨_, rfl, a, _, rfl, .inl (SqL.of ha), _, rfl, by omega, by omega, for_range (lo := 0) (n := (txts us).length) (fun i σ H' => ∃ v1 v2, σ = [some (.ref a), v1, v2] ∧ H' = H) ⟨none, none, rfl, rfl⟩ ?_ ?_⟩
    · rintro i σ H' hi ⟨v1, v2, rfl, rfl⟩
      refine ⟨_, rfl, a, _, rfl, .inl (SqL.of ha), _, rfl, by omega, by omega, for_range (lo := 0) (n := (txts us).length) (fun j σ H'' => ∃ v2, σ = [some (.ref a), some (.int (0 + (i : Int))), v2] ∧ H'' = H') ⟨_, rfl, rfl⟩ ?_ ?_⟩
      · rintro j σ H'' hj ⟨v2, rfl, rfl⟩
        have ei : us[i]? = some us[i] := List.getElem?_eq_getElem (by omega)
        have ej : us[j]? = some us[j] := List.getElem?_eq_getElem (by omega)
        have ti : (txts us)[i]? = some (.str (SX.S us[i])) := by rw [txts, List.getElem?_map, ei]; rfl
        have tj : (txts us)[j]? = some (.str (SX.S us[j])) := by rw [txts, List.getElem?_map, ej]; rfl
        have zi : (0 : Int) + (i : Int) = (i : Int) := by omega
        have zj : (0 : Int) + (j : Int) = (j : Int) := by omega
        have li := hw _ (List.mem_of_getElem? ei)
        have lj := hw _ (List.mem_of_getElem? ej)
        refine ⟨_, rfl, _, rfl, rfl, _, rfl, ?_⟩
        refine ite2 (fun c => ?_) (fun c => iteF ⟨_, rfl, rfl⟩)
        have hij : i ≠ j := fun z => by
          subst z
          simp at c
        refine ⟨_, rfl, _, rfl, a, _, _, _, rfl, rfl, SqL.of ha, by rw [zi]; exact atI_nat ti, _, rfl, _, rfl, a, _, _, _, rfl, rfl, SqL.of ha, by rw [zj]; exact atI_nat tj, _, rfl, le_size (by rw [SX.S_len]; omega), _, rfl, _, rfl, le_size (by rw [SX.S_len]; omega), ?_⟩
        rw [SX.S_len, cutS_to]
        refine ⟨_, rfl, _, rfl, a, _, _, _, rfl, rfl, SqL.of ha, by rw [zj]; exact atI_nat tj, rfl, false, congrArg V.bl (decide_eq_false fun z => ?_), iteF ⟨_, rfl, rfl⟩⟩
        injection z with z
        exact hp i j _ _ hij ei ej (S_inj z)
      · rintro σ H'' ⟨v2, rfl, rfl⟩
        exact ⟨_, _, rfl, rfl⟩
    · rintro σ H' ⟨v1, v2, rfl, rfl⟩
      exact k
end
end J


set_option Elab.async false
set_option linter.all false
set_option maxRecDepth 100000
set_option maxHeartbeats 4000000
namespace J
open PySem L2
/-- where the making of the words stands -/
def InvG (k : Nat) (sz : List Nat) (j L t : Nat) (ts : List Nat) : Prop :=
  gn k 0 0 sz = (gn k L t (sz.drop j)).map (ts ++ ·) ∧ ts.length = j ∧ t ≤ k ^ L ∧ ∀ s ∈ sz.drop j, L ≤ s
theorem InvG.start (k : Nat) (sz : List Nat) : InvG k sz 0 0 0 [] := by
  refine ⟨?_, rfl, by simp, fun _ _ => Nat.zero_le _⟩
  show gn k 0 0 sz = (gn k 0 0 sz).map fun x => [] ++ x
  cases gn k 0 0 sz <;> rfl
theorem drop_at {sz : List Nat} {j s : Nat} (h : sz[j]? = some s) : sz.drop j = s :: sz.drop (j + 1) := by
  have hj := (List.getElem?_eq_some_iff.mp h).1
  rw [List.drop_eq_getElem_cons hj]
  congr 1
  exact Option.some.inj ((List.getElem?_eq_getElem hj).symm.trans h)
theorem InvG.none {k j L t s : Nat} {sz ts : List Nat} (h : InvG k sz j L t ts) (hs : sz[j]? = some s) (e : t * k ^ (s - L) = k ^ s) : gn k 0 0 sz = none := by
  rw [h.1, drop_at hs]
  unfold gn
  rw [if_pos e]
  rfl
theorem InvG.le {k j L t s : Nat} {sz ts : List Nat} (h : InvG k sz j L t ts) (hs : sz[j]? = some s) : L ≤ s ∧ t * k ^ (s - L) ≤ k ^ s := by
  have hLs : L ≤ s := h.2.2.2 s (by rw [drop_at hs]; simp)
  refine ⟨hLs, ?_⟩
  have e : k ^ L * k ^ (s - L) = k ^ s := by rw [← Nat.pow_add]; congr 1; omega
  rw [← e]
  exact Nat.mul_le_mul_right _ h.2.2.1
theorem InvG.next {k j L t s : Nat} {sz ts : List Nat} (h : InvG k sz j L t ts) (hp : sz.Pairwise (· ≤ ·)) (hs : sz[j]? = some s) (e : t * k ^ (s - L) ≠ k ^ s) : InvG k sz (j + 1) s (t * k ^ (s - L) + 1) (ts ++ [t * k ^ (s - L)]) := by
  have le := (h.le hs).2
  refine ⟨?_, by simp [h.2.1], by omega, fun x hx => ?_⟩
  · rw [h.1, drop_at hs]
    conv => lhs; unfold gn
    rw [if_neg e]
    cases gn k s (t * k ^ (s - L) + 1) (sz.drop (j + 1)) with
    | none => rfl
    | some us => simp
  · have q : (sz.drop j).Pairwise (· ≤ ·) := hp.drop
    rw [drop_at hs] at q
    exact (List.pairwise_cons.mp q).1 x hx
theorem InvG.fin {k L t : Nat} {sz ts : List Nat} (h : InvG k sz sz.length L t ts) : gn k 0 0 sz = some ts := by
  rw [h.1, List.drop_length]
  unfold gn
  simp
/-- what the dict of the words holds -/
def wordOf (kvs : List (Key × V)) (i : Nat) : List Nat := match valV kvs (.inl (i : Int)) with
  | some (.str z) => z.cps.toList
  | _ => []
theorem wordOf_at {kvs : List (Key × V)} {i : Nat} {u : List Nat} (h : valV kvs (.inl (i : Int)) = some (.str (SX.S u))) : wordOf kvs i = u := by
  unfold wordOf
  rw [h]
def DW (sg os ts : List Nat) (j : Nat) (kvs : List (Key × V)) : Prop := kvs.length ≤ j ∧ ∀ j' c t : Nat, j' < j → os[j']? = some c → ts[j']? = some t → valV kvs (.inl ((c % 16 : Nat) : Int)) = some (.str (SX.S (tx sg (c / 16) t)))
theorem Ord.place {ls os : List Nat} (h : Ord ls os) {i j c d : Nat} (hij : i ≠ j) (hi : os[i]? = some c) (hj : os[j]? = some d) : c % 16 ≠ d % 16 := by
  intro z
  have e1 := (h.2.2 c).mp (List.mem_of_getElem? hi)
  have e2 := (h.2.2 d).mp (List.mem_of_getElem? hj)
  rw [z, e2] at e1
  injection e1 with e1
  have e3 : c = d := by omega
  subst e3
  obtain ⟨b1, c1⟩ := List.getElem?_eq_some_iff.mp hi
  obtain ⟨b2, c2⟩ := List.getElem?_eq_some_iff.mp hj
  rcases Nat.lt_trichotomy i j with q | q | q
  · have := List.pairwise_iff_getElem.mp h.1 i j b1 b2 q; omega
  · exact hij q
  · have := List.pairwise_iff_getElem.mp h.1 j i b2 b1 q; omega
theorem DW.put {sg ls os ts : List Nat} {j c t : Nat} {kvs : List (Key × V)} (h : DW sg os ts j kvs) (ho : Ord ls os) (hj : os[j]? = some c) (ht : ts.length = j) : DW sg os (ts ++ [t]) (j + 1) (putK kvs (.inl ((c % 16 : Nat) : Int)) (.str (SX.S (tx sg (c / 16) t)))) := by
  refine ⟨Nat.le_trans (length_putK _ _ _) (by have := h.1; omega), fun j' c' t' h1 h2 h3 => ?_⟩
  rw [valV_put]
  by_cases e : j' = j
  · subst e
    rw [hj] at h2
    cases h2
    rw [List.getElem?_append_right (by omega), ht, Nat.sub_self] at h3
    cases h3
    rw [if_pos rfl]
  · have ne := ho.place e h2 hj
    rw [if_neg (by
      intro z
      injection z with z
      exact ne (by exact_mod_cast z))]
    rw [List.getElem?_append_left (by omega)] at h3
    exact h.2 j' c' t' (by omega) h2 h3
theorem DW.all {sg ls os ts : List Nat} {kvs : List (Key × V)} (h : DW sg os ts os.length kvs) (ho : Ord ls os) (hl : ls.length ≤ 12) (hg : gn sg.length 0 0 (szo os) = some ts) (ht : ts.length = os.length) :
    Res sg ls ((List.range ls.length).map (wordOf kvs)) ∧ ∀ i, i < ls.length → valV kvs (.inl (i : Int)) = some (.str (SX.S (wordOf kvs i))) := by
  have one : ∀ i, i < ls.length → ∃ u, valV kvs (.inl (i : Int)) = some (.str (SX.S u)) := fun i hi => by
    have ei : ls[i]? = some ls[i] := List.getElem?_eq_getElem hi
    have e1 : (ls[i] * 16 + i) % 16 = i := by omega
    have e2 : (ls[i] * 16 + i) / 16 = ls[i] := by omega
    have hm : ls[i] * 16 + i ∈ os := (ho.2.2 _).mpr (by rw [e1, e2]; exact ei)
    obtain ⟨j, hj⟩ := List.mem_iff_getElem?.mp hm
    have hj2 := (List.getElem?_eq_some_iff.mp hj).1
    have q := h.2 j _ _ hj2 hj (List.getElem?_eq_getElem (by omega))
    rw [e1] at q
    exact ⟨_, q⟩
  refine ⟨⟨by simp, os, ts, ho, hg, fun j c t hj ht' => ?_⟩, fun i hi => ?_⟩
  · have hj2 := (List.getElem?_eq_some_iff.mp hj).1
    have q := h.2 j c t hj2 hj ht'
    have e := (ho.2.2 c).mp (List.mem_of_getElem? hj)
    have hc := (List.getElem?_eq_some_iff.mp e).1
    rw [List.getElem?_map, List.getElem?_range hc]
    show some (wordOf kvs (c % 16)) = _
    rw [wordOf_at q]
  · obtain ⟨u, hu⟩ := one i hi
    rw [wordOf_at hu]
    exact hu
theorem Res.word {sg ls : List Nat} {us : List (List Nat)} (h : Res sg ls us) (hl : Lens ls) (hk : 0 < sg.length) : ∀ u ∈ us, Word sg u := fun u hu => by
  obtain ⟨i, hi⟩ := List.mem_iff_getElem?.mp hu
  obtain ⟨os, ts, j, t, l, _, _, hls, _, _, hui⟩ := h.at hl.2.1 (fun l hl' => (hl.2.2 l hl').1) hk (List.getElem?_eq_some_iff.mp hi).1
  rw [hi] at hui
  cases hui
  obtain ⟨b1, b2⟩ := hl.2.2 l (List.mem_of_getElem? hls)
  refine ⟨by rw [tx_len]; exact b1, by rw [tx_len]; exact b2, fun c hc => ?_⟩
  obtain ⟨d, hd, rfl⟩ := List.mem_map.mp hc
  have hdl := wd_lt hk l t d hd
  rw [List.getD_eq_getElem?_getD, List.getElem?_eq_getElem hdl]
  exact List.getElem_mem hdl
theorem Res.lens {sg ls : List Nat} {us : List (List Nat)} (h : Res sg ls us) (hl : Lens ls) (hk : 0 < sg.length) : us.map (·.length) = ls := by
  refine List.ext_getElem? fun i => ?_
  by_cases hi : i < us.length
  · obtain ⟨os, ts, j, t, l, _, _, hls, _, _, hui⟩ := h.at hl.2.1 (fun l hl' => (hl.2.2 l hl').1) hk hi
    rw [List.getElem?_map, hui, hls]
    simp [tx_len]
  · rw [List.getElem?_eq_none (by simp; omega), List.getElem?_eq_none (by have := h.1; omega)]
/-- the list of the pairs, while it grows -/
def Prs2 (H : Hp) (ls : List Nat) (i : Nat) (ps : List Addr) : Prop := ps.length = i ∧ ∀ i' l : Nat, i' < i → ls[i']? = some l → ∃ t, ps[i']? = some t ∧ H t = some (.tup [.int (l : Nat), .int (i' : Nat)])
theorem Prs2.same {H H' : Hp} {ls : List Nat} {i : Nat} {ps : List Addr} (h : Prs2 H ls i ps) (s : ∀ t l i' : Nat, H t = some (.tup [.int (l : Nat), .int (i' : Nat)]) → H' t = some (.tup [.int (l : Nat), .int (i' : Nat)])) : Prs2 H' ls i ps :=
  ⟨h.1, fun i' l hi hl => by obtain ⟨t, h1, h2⟩ := h.2 i' l hi hl; exact ⟨t, h1, s _ _ _ h2⟩⟩
theorem Prs2.snoc {H : Hp} {ls : List Nat} {i l : Nat} {ps : List Addr} {t : Addr} (h : Prs2 H ls i ps) (hl : ls[i]? = some l) (ht : H t = some (.tup [.int (l : Nat), .int (i : Nat)])) : Prs2 H ls (i + 1) (ps ++ [t]) := by
  refine ⟨by simp [h.1], fun i' l' hi hl' => ?_⟩
  by_cases e : i' < i
  · obtain ⟨u, h1, h2⟩ := h.2 i' l' e hl'
    exact ⟨u, by rw [List.getElem?_append_left (by rw [h.1]; exact e)]; exact h1, h2⟩
  · have e2 : i' = i := by omega
    subst e2
    rw [hl] at hl'
    cases hl'
    exact ⟨t, by rw [List.getElem?_append_right (by rw [h.1]; exact Nat.le_refl _), h.1, Nat.sub_self]; rfl, ht⟩
theorem Prs2.keys {H : Hp} {ls : List Nat} {ps : List Addr} (h : Prs2 H ls ls.length ps) : ∀ x ∈ ps.map V.ref, ∃ t, x = V.ref t ∧ H t = some (.tup [.int (keyOf H x).1, .int (keyOf H x).2]) := fun x hx => by
  obtain ⟨t, ht, rfl⟩ := List.mem_map.mp hx
  obtain ⟨i, hi⟩ := List.mem_iff_getElem?.mp ht
  have hi2 : i < ls.length := by rw [← h.1]; exact (List.getElem?_eq_some_iff.mp hi).1
  obtain ⟨t', h1, h2⟩ := h.2 i _ hi2 (List.getElem?_eq_getElem hi2)
  rw [hi] at h1
  cases h1
  exact ⟨t, rfl, by rw [keyOf_at h2]; exact h2⟩
theorem Prs2.order {H : Hp} {ls : List Nat} {ps : List Addr} (hl : ls.length ≤ 12) (h : Prs2 H ls ls.length ps) {ys : List V} (hs : SrtO.Srtd (ltP (keyOf H)) ys) (hy : ys.Perm (ps.map V.ref)) :
    ∃ os, Ord ls os ∧ ys.length = os.length ∧ ∀ j c : Nat, os[j]? = some c → ∃ t, ys[j]? = some (.ref t) ∧ H t = some (.tup [.int (c / 16 : Nat), .int (c % 16 : Nat)]) :=
  order_of hl h.1 (fun i l hi => h.2 i l (List.getElem?_eq_some_iff.mp hi).1 hi) hs hy
def spBL (C : Addr) : Sp := fun vs H Q _ => ∃ (a : Addr) (sg ls : List Nat), vs = [.str (SX.S sg), .ref a] ∧ Seq H a (nums ls) ∧ Signs sg ∧ Lens ls ∧
  (∀ H', Same H H' → (∃ os, Ord ls os ∧ gn sg.length 0 0 (szo os) = none) → Q .non H') ∧ (∀ H' (q : Addr) us ub, Same H H' → H q = none → Res sg ls us → LoomAt C H' q sg ub (bka us) → Q (.ref q) H')
def spDue : Sp := fun vs H Q _ => ∃ (a : Addr) (sg ls : List Nat), vs = [.str (SX.S sg), .ref a] ∧ H a = some (.lst (nums ls)) ∧ SgM sg ∧ Lens ls ∧
  (∀ H', Same H H' → (∃ os, Ord ls os ∧ gn sg.length 0 0 (szo os) = none) → Q .non H') ∧ (∀ H' (q : Addr) us, Same H H' → H q = none → Res sg ls us → H' q = some (.lst (txts us)) → Q (.ref q) H')
end J


set_option Elab.async false
set_option linter.all false
set_option maxRecDepth 100000
set_option maxHeartbeats 4000000
namespace J
open PySem L2
theorem szo_at {os : List Nat} {j c : Nat} (h : os[j]? = some c) : (szo os)[j]? = some (c / 16) := by rw [szo, List.getElem?_map, h]; rfl
theorem szo_asc {ls os : List Nat} (h : Ord ls os) : (szo os).Pairwise (· ≤ ·) := (List.pairwise_cons.mp h.asc).2
theorem ord_lens {ls os : List Nat} (h : Ord ls os) (hl : Lens ls) {j c : Nat} (hj : os[j]? = some c) : 1 ≤ c / 16 ∧ c / 16 ≤ 12 := hl.2.2 _ (List.mem_of_getElem? ((h.2.2 c).mp (List.mem_of_getElem? hj)))
theorem pair_step {H3 H4 : Hp} {D tp t : Addr} {ls : List Nat} {i l : Nat} {ps : List Addr} {ip : V} (hll : ls.length ≤ 12) (hil : i < ls.length) (hDl : H4 D = some (.lst (ps.map V.ref))) (hps : Prs2 H4 ls i ps) (sm : Same H3 H4) (hD : H3 D = none) (ht : H4 tp = none)
    (ht2 : upd H4 tp (.tup [ip, .int (l : Nat)]) t = none) (hl : ls[i]? = some l) :
    ∃ acc, upd (upd H4 tp (.tup [ip, .int (l : Nat)])) t (.tup [.int (l : Nat), .int (i : Nat)]) D = some (.lst acc) ∧ acc.length < sizeLine ∧
      ∃ ps, upd (upd (upd H4 tp (.tup [ip, .int (l : Nat)])) t (.tup [.int (l : Nat), .int (i : Nat)])) D (.lst (acc ++ [.ref t])) D = some (.lst (ps.map V.ref)) ∧ Prs2 (upd (upd (upd H4 tp (.tup [ip, .int (l : Nat)])) t (.tup [.int (l : Nat), .int (i : Nat)])) D (.lst (acc ++ [.ref t]))) ls (i + 1) ps ∧ Same H3 (upd (upd (upd H4 tp (.tup [ip, .int (l : Nat)])) t (.tup [.int (l : Nat), .int (i : Nat)])) D (.lst (acc ++ [.ref t]))) := by
  have sA : Same H4 (upd H4 tp (.tup [ip, .int (l : Nat)])) := Same.new _ ht
  have sB : Same H4 (upd (upd H4 tp (.tup [ip, .int (l : Nat)])) t (.tup [.int (l : Nat), .int (i : Nat)])) := sA.trans (Same.new _ ht2)
  have gt : upd (upd H4 tp (.tup [ip, .int (l : Nat)])) t (.tup [.int (l : Nat), .int (i : Nat)]) t = some (.tup [.int (l : Nat), .int (i : Nat)]) := upd_same
  generalize upd (upd H4 tp (.tup [ip, .int (l : Nat)])) t (.tup [.int (l : Nat), .int (i : Nat)]) = H6 at *
  have hD6 := sB _ _ hDl
  have keep : ∀ (u l i' : Nat), H6 u = some (.tup [.int (l : Nat), .int (i' : Nat)]) → upd H6 D (.lst (ps.map V.ref ++ [.ref t])) u = some (.tup [.int (l : Nat), .int (i' : Nat)]) := fun u l i' h => by
    rw [upd_ne (fun z => by rw [z, hD6] at h; cases h)]; exact h
  refine ⟨_, hD6, lt_size (by rw [List.length_map, hps.1]; omega), ps ++ [t], by rw [upd_same]; simp, ?_, (sm.trans sB).updNew hD⟩
  exact ((hps.same fun u l i' h => sB _ _ h).snoc hl gt).same keep
section
variable {P : Program} {w : World} {K : PySem.W.Frag} {mg : Str → Option Value} {base : Heap}
theorem ok_book_of_lengths (T : Tx K mg) : FnOk P w K mg base CX0 7 T.f_book_of_lengths T.fd_book_of_lengths P_book_of_lengths (spBL T.C_Loom) := by
  have G_check_signs : FnOk P w K mg base CX0 2 T.f_check_signs T.fd_check_signs P_check_signs spChkSigns := ok_check_signs T
  have G_first_wrong : FnOk P w K mg base CX0 2 T.f_first_wrong T.fd_first_wrong P_first_wrong spFirst := ok_first_wrong T
  have G_text_at : FnOk P w K mg base CX0 1 T.f_text_at T.fd_text_at P_text_at spTextAt := ok_text_at T
  have G_book : FnOk P w K mg base CX0 6 T.f_book T.fd_book P_book (spBook T.C_Loom) := ok_book T
  refine T.F_book_of_lengths.ok sc_book_of_lengths (fun vs H Q E h => ?_) (fun cdv A outer s H vs Q E hr h => ?_)
  · obtain ⟨a, sg, ls, rfl, _⟩ := h
    rfl
  · obtain ⟨a, sg, ls, rfl, hseq, hsg, hls, kn, kb⟩ := h
    refine ⟨_, (pss_cons (ps_expr (pe_call G_check_signs (hr.mono (by decide)) rfl T.m_check_signs T.F_check_signs.kp T.b_check_signs .nil pass0 (pa_cons (pv 0) pa_nil)))
        (pss_cons (ps_set (i := 2) sc_book_of_lengths.nd rfl (Or.inl rfl) (pe_call G_first_wrong (hr.mono (by decide)) rfl T.m_first_wrong T.F_first_wrong.kp T.b_first_wrong .nil pass0 (pa_cons (pv 1) (pa_cons pe_int (pa_cons (pe_glob (v := V.int 12) rfl T.g_MOST_LENGTHS ⟨_, rfl⟩) (pa_cons pe_int (pa_cons (pe_glob (v := V.int 12) rfl T.g_LONGEST_WORD ⟨_, rfl⟩) pa_nil)))))))
        (pss_cons (ps_if (pt_cmpR op_notN (pv 2) pe_non (nomark _)) (pss_one ps_never) pss_nil)
        (pss_cons (ps_set (i := 3) sc_book_of_lengths.nd rfl (Or.inr rfl) pe_dnewK)
        (pss_cons (ps_asg (pe_tup (pa_cons pe_int (pa_cons pe_int (pa_cons pe_int pa_nil)))) (pg_tup rfl (pgs_cons (pg_name (i := 4) sc_book_of_lengths.nd rfl (Or.inl rfl)) (pgs_cons (pg_name (i := 5) sc_book_of_lengths.nd rfl (Or.inl rfl)) (pgs_cons (pg_name (i := 6) sc_book_of_lengths.nd rfl (Or.inl rfl)) pgs_nil)))))
        (pss_cons (ps_set (i := 7) sc_book_of_lengths.nd rfl (Or.inl rfl) (pe_callB cr_sortedPO rfl T.n_sorted (by decide +kernel) (pa_cons (pe_lc (own := [("number", 9), ("wanted", 8)]) (g := (gTup K 2 (gCons (gName 9) (gCons (gName 8) gNil)))) rfl sc_book_of_lengths.nd (pi_or (pi_enum rfl T.n_enumerate (pa_cons (pv 1) pa_nil)) (pi_enumT rfl T.n_enumerate (pa_cons (pv 1) pa_nil))) (blkOk_by (N := N_book_of_lengths) (sc := defScope s_book_of_lengths) (by decide +kernel)) (fun _ _ _ _ _ => (pg_tup rfl (pgs_cons (pg_name (i := 9) sc_book_of_lengths.nd rfl (Or.inl rfl)) (pgs_cons (pg_name (i := 8) sc_book_of_lengths.nd rfl (Or.inl rfl)) pgs_nil)))) (fun _ _ _ _ _ => pts_nil) (fun _ _ _ _ _ => (pe_tup (pa_cons (pv 8) (pa_cons (pv 9) pa_nil))))) pa_nil)))
        (pss_cons (ps_for PassesOwn.never rfl (pi_list (pv 7)) (pg_tup rfl (pgs_cons (pg_name (i := 8) sc_book_of_lengths.nd rfl (Or.inl rfl)) (pgs_cons (pg_name (i := 9) sc_book_of_lengths.nd rfl (Or.inl rfl)) pgs_nil))) (pss_cons (ps_while PassesOwn.never (pt_cmpR op_lt (pv 4) (pv 8) (nomark _)) (pss_one (ps_par3 (i := 4) (j := 5) (l := 6) (by rfl) sc_book_of_lengths.nd rfl rfl rfl (by decide) (by decide) (by decide) rfl rfl rfl (pa_cons (pe_op op_add (pv 4) pe_int) (pa_cons (pe_op op_mul (pv 5) (pe_callB call_len_str rfl T.n_len (by decide +kernel) (pa_cons (pv 0) pa_nil))) (pa_cons (pe_op op_mul (pv 6) (pe_callB call_len_str rfl T.n_len (by decide +kernel) (pa_cons (pv 0) pa_nil))) pa_nil))) (by rfl))))
        (pss_cons (ps_if (pt_cmpR op_eq (pv 5) (pv 6) (nomark _)) (pss_one (ps_ret pe_non)) pss_nil)
        (pss_cons (ps_dput (hu_of hr) (pv 3) (pv 9) (pe_call G_text_at (hr.mono (by decide)) rfl T.m_text_at T.F_text_at.kp T.b_text_at .nil pass0 (pa_cons (pv 0) (pa_cons (pv 5) (pa_cons (pv 4) pa_nil)))) rfl)
        (pss_one (ps_aug (i := 5) sc_book_of_lengths.nd rfl (Or.inl rfl) pe_int ip_add))))))
        (pss_one (ps_ret (pe_call G_book (hr.mono (by decide)) rfl T.m_book T.F_book.kp T.b_book .nil pass0 (pa_cons (pv 0) (pa_cons (pe_lc (own := [("number", 9)]) (g := (gName 9)) rfl sc_book_of_lengths.nd (pi_range1 rfl T.n_range (pa_cons (pe_callB (call_len_seqK (K := K) rfl) rfl T.n_len (by decide +kernel) (pa_cons (pv 1) pa_nil)) pa_nil)) (blkOk_by (N := N_book_of_lengths) (sc := defScope s_book_of_lengths) (by decide +kernel)) (fun _ _ _ _ _ => (pg_name (i := 9) sc_book_of_lengths.nd rfl (Or.inl rfl))) (fun _ _ _ _ _ => pts_nil) (fun _ _ _ _ _ => (pe_dget (hu_of hr) (pv 3) (pv 9) (fun _ _ => rfl)))) pa_nil)))))))))))), ?_⟩
    have hlen := hsg.len
    have hk0 : 0 < sg.length := hlen.1
    have hsl : (SX.S sg).length ≤ sizeLine := le_size (by rw [SX.S_len]; omega)
    have hk : ((SX.S sg).length : Int) = (sg.length : Nat) := by rw [SX.S_len]
    refine ⟨_, rfl, sg, rfl, hsg, fun H1 s1 => ?_⟩
    refine ⟨_, rfl, a, ls, rfl, hseq.same s1, hls, fun H2 s2 => ?_⟩
    refine ⟨_, rfl, rfl, _, rfl, iteF ?_⟩
    intro d hd
    have hd0 : H d = none := (s1.trans s2).free hd
    have sd : Same H (upd H2 d (.dK [])) := (s1.trans s2).trans (Same.new _ hd)
    have gd0 : upd H2 d (.dK []) d = some (.dK []) := upd_same
    generalize upd H2 d (.dK []) = H3 at *
    refine ⟨le_size (by simp), fun t0 ht0 => ?_⟩
    refine ⟨t0, _, rfl, SqT.of upd_same, rfl, _, _, rfl, _, _, rfl, _, _, rfl, rfl, ?_⟩
    replace sd := sd.trans (Same.new (.tup [.int 0, .int 0, .int 1]) ht0)
    replace gd0 := Same.new (.tup [.int 0, .int 0, .int 1]) ht0 _ _ gd0
    generalize upd H3 t0 (.tup [.int 0, .int 0, .int 1]) = H3 at *
    have seq3 := hseq.same sd
    rcases seq3 with ha | ha
    · refine .inl ⟨_, rfl, a, nums ls, rfl, SqL.of ha, fun D hD => lc_it walk_enum (fun i H' => ∃ ps, H' D = some (.lst (ps.map V.ref)) ∧ Prs2 H' ls i ps ∧ Same H3 H') ⟨[], upd_same, ⟨rfl, fun i' l h => absurd h (Nat.not_lt_zero _)⟩, Same.new _ hD⟩ (fun i H' _ ⟨_, _, _, sm⟩ => SqL.of (sm _ _ ha)) ?_ ?_⟩
      · rintro i x H4 H5 hi ⟨ps, hDl, hps, sm⟩ ⟨tp, x1, y1, rfl, ht, rfl, hx1, hy1⟩
        cases hx1
        obtain ⟨l, hl, rfl⟩ := int_at hy1
        have hil : i < ls.length := (List.getElem?_eq_some_iff.mp hl).1
        refine ⟨tp, _, rfl, SqT.of upd_same, rfl, _, _, rfl, _, _, rfl, rfl, rfl, ?_⟩
        refine ⟨_, rfl, _, rfl, le_size (by simp), fun t ht2 => ?_⟩
        exact pair_step hls.2.1 hil hDl hps sm hD ht ht2 hl
      · rintro H4 ⟨ps, hDl, hps, sm⟩
        rw [nums_len] at hps
        refine ⟨D, ps.map V.ref, keyOf H4, rfl, SqL.of hDl, hps.keys, fun ys q hsrt hstb hq => ?_⟩
        obtain ⟨os, hord, hol, hat⟩ := hps.order hls.2.1 hsrt hstb.perm
        have sq : Same H3 (upd H4 q (.lst ys)) := sm.trans (Same.new _ hq)
        have gq : upd H4 q (.lst ys) q = some (.lst ys) := upd_same
        have hat5 : ∀ j c : Nat, os[j]? = some c → ∃ t, ys[j]? = some (.ref t) ∧ upd H4 q (.lst ys) t = some (.tup [.int (c / 16 : Nat), .int (c % 16 : Nat)]) := fun j c h => by
          obtain ⟨t, h1, h2⟩ := hat j c h
          exact ⟨t, h1, Same.new _ hq _ _ h2⟩
        have nqd : q ≠ d := hp_ne (sm _ _ gd0) hq
        generalize upd H4 q (.lst ys) = H5 at *
        clear hat hsrt hstb hps hDl hq sm
        have gd5 := sq _ _ gd0
        have s05 : Same H H5 := sd.trans sq
        have nad : a ≠ d := fun z => by rw [z, gd0] at ha; cases ha
        have ols : os.length = ls.length := hord.2.1
        refine ⟨_, rfl, q, rfl, ⟨_, SqL.of gq⟩, for_list (K := K) (a := q) (xs := ys) (fun j σ H' => ∃ (L t : Nat) (ts : List Nat) (kvs : List (Key × V)) (v8 v9 : Option V), σ = [some (.str (SX.S sg)), some (.ref a), some .non, some (.ref d), some (.int (L : Nat)), some (.int (t : Nat)), some (.int (sg.length ^ L : Nat)), some (.ref q), v8, v9] ∧
          InvG sg.length (szo os) j L t ts ∧ L ≤ 12 ∧ DW sg os ts j kvs ∧ H' d = some (.dK kvs) ∧ Ex d H5 H') ?_ ?_ ?_ ?_⟩
        · exact ⟨0, 0, [], [], none, none, rfl, InvG.start _ _, by decide, ⟨Nat.zero_le _, fun j' c t h => absurd h (Nat.not_lt_zero _)⟩, gd5, Ex.refl _ _⟩
        · rintro j σ H6 _ ⟨L, t, ts, kvs, v8, v9, rfl, inv, hL12, hdw, hd6, x6⟩
          exact SqL.of (x6 _ _ nqd gq)
        · rintro j x σ H6 hx ⟨L, t, ts, kvs, v8, v9, rfl, inv, hL12, hdw, hd6, x6⟩
          have hj : j < os.length := by rw [← hol]; exact (List.getElem?_eq_some_iff.mp hx).1
          obtain ⟨c, ec⟩ : ∃ c, os[j]? = some c := ⟨_, List.getElem?_eq_getElem hj⟩
          obtain ⟨tt, ht1, ht2⟩ := hat5 j c ec
          rw [ht1] at hx
          cases hx
          have ntd : tt ≠ d := fun z => by rw [z, gd5] at ht2; cases ht2
          refine ⟨tt, _, rfl, SqT.of (x6 _ _ ntd ht2), rfl, _, _, rfl, _, _, rfl, rfl, ?_⟩
          have hs := szo_at ec
          obtain ⟨hLs, hle⟩ := inv.le hs
          obtain ⟨b1, b2⟩ := ord_lens hord hls ec
          have hne : inv.1 = inv.1 := rfl
          have hnone := fun e => inv.none hs e
          have hnext := fun e => inv.next (szo_asc hord) hs e
          generalize hsz : c / 16 = sz at *
          refine ⟨fun m σ' H' => ∃ e : Nat, e + m = sz - L ∧ σ' = [some (.str (SX.S sg)), some (.ref a), some .non, some (.ref d), some (.int (L + e : Nat)), some (.int (t * sg.length ^ e : Nat)), some (.int (sg.length ^ (L + e) : Nat)), some (.ref q), some (.int (sz : Nat)), some (.int (c % 16 : Nat))] ∧ H' = H6, ⟨sz - L, 0, by omega, by rw [Nat.pow_zero, Nat.mul_one]; rfl, rfl⟩, ?_⟩
          rintro m σ' H' ⟨e, he, rfl, rfl⟩
          refine ⟨_, rfl, _, rfl, _, _, rfl, rfl, _, rfl, ?_⟩
          refine ite2 (fun c1 => ?_) (fun c1 => ?_)
          · have h1 : L + e < sz := by have := of_decide_eq_true c1; omega
            refine ⟨fun σ2 H2' => H2' = H' ∧ σ2 = [some (.str (SX.S sg)), some (.ref a), some .non, some (.ref d), some (.int (L + (e + 1) : Nat)), some (.int (t * sg.length ^ (e + 1) : Nat)), some (.int (sg.length ^ (L + (e + 1)) : Nat)), some (.ref q), some (.int (sz : Nat)), some (.int (c % 16 : Nat))], fun σ2 H2' ⟨h2, h3⟩ => ⟨m - 1, by omega, e + 1, by omega, h3, h2⟩, ?_⟩
            refine ⟨_, rfl, _, _, rfl, rfl, _, rfl, _, rfl, _, rfl, hsl, _, _, rfl, rfl, .inr (by rw [hk]; omega), _, rfl, _, rfl, _, rfl, hsl, _, _, rfl, rfl, .inr (by rw [hk]; omega), _, _, _, rfl, rfl, ?_⟩
            have e1 : ((t * sg.length ^ e : Nat) : Int) * ((SX.S sg).length : Int) = ((t * sg.length ^ (e + 1) : Nat) : Int) := by
              rw [hk, Nat.pow_succ, ← Nat.mul_assoc]
              push_cast
              rfl
            have e2 : ((sg.length ^ (L + e) : Nat) : Int) * ((SX.S sg).length : Int) = ((sg.length ^ (L + (e + 1)) : Nat) : Int) := by
              rw [hk, ← Nat.add_assoc, Nat.pow_succ]
              push_cast
              rfl
            simp only [List.set_cons_succ, List.set_cons_zero]
            rw [e1, e2]
            rfl
          · have h1 : ¬ (L + e < sz) := fun z => c1 (decide_eq_true (by omega))
            have he2 : e = sz - L := by omega
            have he3 : L + e = sz := by omega
            rw [he3, he2]
            refine ⟨_, rfl, _, rfl, rfl, _, rfl, ?_⟩
            have S6 : Same H H' := fun b o q0 => x6 _ _ (ne_of_none q0 hd0) (s05 _ _ q0)
            refine ite2 (fun c2 => ?_) (fun c2 => ?_)
            · have eq : t * sg.length ^ (sz - L) = sg.length ^ sz := by
                have z := of_decide_eq_true c2
                injection z with z
                exact_mod_cast z
              exact kn H' S6 ⟨os, hord, hnone eq⟩
            · have ne : t * sg.length ^ (sz - L) ≠ sg.length ^ sz := fun z => c2 (decide_eq_true (by rw [z]))
              refine ⟨_, rfl, _, rfl, _, rfl, sg, t * sg.length ^ (sz - L), sz, rfl, hsg, b2, _, rfl, _, rfl, d, _, rfl, DPut.k (k := (.inl ((c % 16 : Nat) : Int) : Key)) hd6 (lt_size (by have := hdw.1; have := hls.2.1; omega)), ?_⟩
              refine ⟨_, rfl, _, _, rfl, rfl, ?_⟩
              have hput := hdw.put (t := t * sg.length ^ (sz - L)) hord ec inv.2.1
              rw [hsz] at hput
              exact ⟨sz, t * sg.length ^ (sz - L) + 1, ts ++ [t * sg.length ^ (sz - L)], _, _, _, rfl, hnext ne, b2, hput, upd_same, x6.trans (Ex.upd _)⟩
        · rintro σ H6 ⟨L, t, ts, kvs, v8, v9, rfl, inv, hL12, hdw, hd6, X6⟩
          rw [hol] at inv hdw
          have sol : (szo os).length = os.length := by rw [szo, List.length_map]
          have hgn : gn sg.length 0 0 (szo os) = some ts := by
            rw [← sol] at inv
            exact inv.fin
          have htl := inv.2.1
          obtain ⟨hres, hval⟩ := hdw.all hord hls.2.1 hgn htl
          have S6 : Same H H6 := fun b o q0 => X6 _ _ (ne_of_none q0 hd0) (s05 _ _ q0)
          have hll := hls.2.1
          have hl1 := hls.1
          refine ⟨_, rfl, _, rfl, a, _, rfl, .inl (SqL.of (X6 _ _ nad (sq _ _ ha))), _, rfl, by rw [nums_len]; omega, by rw [nums_len]; omega, fun D2 hD2 => lc_range (lo := 0) (n := (nums ls).length) (fun i H' => H' D2 = some (.lst (txts ((List.range i).map (wordOf kvs)))) ∧ Same H6 H') ⟨upd_same, Same.new _ hD2⟩ ?_ ?_⟩
          · rintro i H7 hi ⟨hDl, sm⟩
            rw [nums_len] at hi
            refine ⟨rfl, _, rfl, _, rfl, d, _, rfl, .inl ⟨kvs, .inl ((0 : Int) + (i : Int)), .inl (sm _ _ hd6), rfl, by rw [show (0 : Int) + (i : Int) = (i : Int) by omega]; exact (hval i hi).symm⟩, _, hDl, lt_size (by simp [txts]; omega), ?_, sm.updNew hD2⟩
            rw [upd_same, List.range_succ, List.map_append]
            simp [txts]
          · rintro H7 ⟨hDl, sm⟩
            rw [nums_len] at hDl
            refine ⟨D2, sg, _, rfl, .inl hDl, hsg, by rw [hres.1]; exact hl1, by rw [hres.1]; omega, hres.word hls hk0, fun H8 qb ub s8 hq8 hL8 => ?_⟩
            have S7 := S6.trans sm
            exact kb H8 qb _ ub (S7.trans s8) (S7.free hq8) hres hL8
    · refine .inr ⟨_, rfl, a, nums ls, rfl, SqT.of ha, fun D hD => lc_it walk_enumT (fun i H' => ∃ ps, H' D = some (.lst (ps.map V.ref)) ∧ Prs2 H' ls i ps ∧ Same H3 H') ⟨[], upd_same, ⟨rfl, fun i' l h => absurd h (Nat.not_lt_zero _)⟩, Same.new _ hD⟩ (fun i H' _ ⟨_, _, _, sm⟩ => SqT.of (sm _ _ ha)) ?_ ?_⟩
      · rintro i x H4 H5 hi ⟨ps, hDl, hps, sm⟩ ⟨tp, x1, y1, rfl, ht, rfl, hx1, hy1⟩
        cases hx1
        obtain ⟨l, hl, rfl⟩ := int_at hy1
        have hil : i < ls.length := (List.getElem?_eq_some_iff.mp hl).1
        refine ⟨tp, _, rfl, SqT.of upd_same, rfl, _, _, rfl, _, _, rfl, rfl, rfl, ?_⟩
        refine ⟨_, rfl, _, rfl, le_size (by simp), fun t ht2 => ?_⟩
        exact pair_step hls.2.1 hil hDl hps sm hD ht ht2 hl
      · rintro H4 ⟨ps, hDl, hps, sm⟩
        rw [nums_len] at hps
        refine ⟨D, ps.map V.ref, keyOf H4, rfl, SqL.of hDl, hps.keys, fun ys q hsrt hstb hq => ?_⟩
        obtain ⟨os, hord, hol, hat⟩ := hps.order hls.2.1 hsrt hstb.perm
        have sq : Same H3 (upd H4 q (.lst ys)) := sm.trans (Same.new _ hq)
        have gq : upd H4 q (.lst ys) q = some (.lst ys) := upd_same
        have hat5 : ∀ j c : Nat, os[j]? = some c → ∃ t, ys[j]? = some (.ref t) ∧ upd H4 q (.lst ys) t = some (.tup [.int (c / 16 : Nat), .int (c % 16 : Nat)]) := fun j c h => by
          obtain ⟨t, h1, h2⟩ := hat j c h
          exact ⟨t, h1, Same.new _ hq _ _ h2⟩
        have nqd : q ≠ d := hp_ne (sm _ _ gd0) hq
        generalize upd H4 q (.lst ys) = H5 at *
        clear hat hsrt hstb hps hDl hq sm
        have gd5 := sq _ _ gd0
        have s05 : Same H H5 := sd.trans sq
        have nad : a ≠ d := fun z => by rw [z, gd0] at ha; cases ha
        have ols : os.length = ls.length := hord.2.1
        refine ⟨_, rfl, q, rfl, ⟨_, SqL.of gq⟩, for_list (K := K) (a := q) (xs := ys) (fun j σ H' => ∃ (L t : Nat) (ts : List Nat) (kvs : List (Key × V)) (v8 v9 : Option V), σ = [some (.str (SX.S sg)), some (.ref a), some .non, some (.ref d), some (.int (L : Nat)), some (.int (t : Nat)), some (.int (sg.length ^ L : Nat)), some (.ref q), v8, v9] ∧
          InvG sg.length (szo os) j L t ts ∧ L ≤ 12 ∧ DW sg os ts j kvs ∧ H' d = some (.dK kvs) ∧ Ex d H5 H') ?_ ?_ ?_ ?_⟩
        · exact ⟨0, 0, [], [], none, none, rfl, InvG.start _ _, by decide, ⟨Nat.zero_le _, fun j' c t h => absurd h (Nat.not_lt_zero _)⟩, gd5, Ex.refl _ _⟩
        · rintro j σ H6 _ ⟨L, t, ts, kvs, v8, v9, rfl, inv, hL12, hdw, hd6, x6⟩
          exact SqL.of (x6 _ _ nqd gq)
        · rintro j x σ H6 hx ⟨L, t, ts, kvs, v8, v9, rfl, inv, hL12, hdw, hd6, x6⟩
          have hj : j < os.length := by rw [← hol]; exact (List.getElem?_eq_some_iff.mp hx).1
          obtain ⟨c, ec⟩ : ∃ c, os[j]? = some c := ⟨_, List.getElem?_eq_getElem hj⟩
          obtain ⟨tt, ht1, ht2⟩ := hat5 j c ec
          rw [ht1] at hx
          cases hx
          have ntd : tt ≠ d := fun z => by rw [z, gd5] at ht2; cases ht2
          refine ⟨tt, _, rfl, SqT.of (x6 _ _ ntd ht2), rfl, _, _, rfl, _, _, rfl, rfl, ?_⟩
          have hs := szo_at ec
          obtain ⟨hLs, hle⟩ := inv.le hs
          obtain ⟨b1, b2⟩ := ord_lens hord hls ec
          have hne : inv.1 = inv.1 := rfl
          have hnone := fun e => inv.none hs e
          have hnext := fun e => inv.next (szo_asc hord) hs e
          generalize hsz : c / 16 = sz at *
          refine ⟨fun m σ' H' => ∃ e : Nat, e + m = sz - L ∧ σ' = [some (.str (SX.S sg)), some (.ref a), some .non, some (.ref d), some (.int (L + e : Nat)), some (.int (t * sg.length ^ e : Nat)), some (.int (sg.length ^ (L + e) : Nat)), some (.ref q), some (.int (sz : Nat)), some (.int (c % 16 : Nat))] ∧ H' = H6, ⟨sz - L, 0, by omega, by rw [Nat.pow_zero, Nat.mul_one]; rfl, rfl⟩, ?_⟩
          rintro m σ' H' ⟨e, he, rfl, rfl⟩
          refine ⟨_, rfl, _, rfl, _, _, rfl, rfl, _, rfl, ?_⟩
          refine ite2 (fun c1 => ?_) (fun c1 => ?_)
          · have h1 : L + e < sz := by have := of_decide_eq_true c1; omega
            refine ⟨fun σ2 H2' => H2' = H' ∧ σ2 = [some (.str (SX.S sg)), some (.ref a), some .non, some (.ref d), some (.int (L + (e + 1) : Nat)), some (.int (t * sg.length ^ (e + 1) : Nat)), some (.int (sg.length ^ (L + (e + 1)) : Nat)), some (.ref q), some (.int (sz : Nat)), some (.int (c % 16 : Nat))], fun σ2 H2' ⟨h2, h3⟩ => ⟨m - 1, by omega, e + 1, by omega, h3, h2⟩, ?_⟩
            refine ⟨_, rfl, _, _, rfl, rfl, _, rfl, _, rfl, _, rfl, hsl, _, _, rfl, rfl, .inr (by rw [hk]; omega), _, rfl, _, rfl, _, rfl, hsl, _, _, rfl, rfl, .inr (by rw [hk]; omega), _, _, _, rfl, rfl, ?_⟩
            have e1 : ((t * sg.length ^ e : Nat) : Int) * ((SX.S sg).length : Int) = ((t * sg.length ^ (e + 1) : Nat) : Int) := by
              rw [hk, Nat.pow_succ, ← Nat.mul_assoc]
              push_cast
              rfl
            have e2 : ((sg.length ^ (L + e) : Nat) : Int) * ((SX.S sg).length : Int) = ((sg.length ^ (L + (e + 1)) : Nat) : Int) := by
              rw [hk, ← Nat.add_assoc, Nat.pow_succ]
              push_cast
              rfl
            simp only [List.set_cons_succ, List.set_cons_zero]
            rw [e1, e2]
            rfl
          · have h1 : ¬ (L + e < sz) := fun z => c1 (decide_eq_true (by omega))
            have he2 : e = sz - L := by omega
            have he3 : L + e = sz := by omega
            rw [he3, he2]
            refine ⟨_, rfl, _, rfl, rfl, _, rfl, ?_⟩
            have S6 : Same H H' := fun b o q0 => x6 _ _ (ne_of_none q0 hd0) (s05 _ _ q0)
            refine ite2 (fun c2 => ?_) (fun c2 => ?_)
            · have eq : t * sg.length ^ (sz - L) = sg.length ^ sz := by
                have z := of_decide_eq_true c2
                injection z with z
                exact_mod_cast z
              exact kn H' S6 ⟨os, hord, hnone eq⟩
            · have ne : t * sg.length ^ (sz - L) ≠ sg.length ^ sz := fun z => c2 (decide_eq_true (by rw [z]))
              refine ⟨_, rfl, _, rfl, _, rfl, sg, t * sg.length ^ (sz - L), sz, rfl, hsg, b2, _, rfl, _, rfl, d, _, rfl, DPut.k (k := (.inl ((c % 16 : Nat) : Int) : Key)) hd6 (lt_size (by have := hdw.1; have := hls.2.1; omega)), ?_⟩
              refine ⟨_, rfl, _, _, rfl, rfl, ?_⟩
              have hput := hdw.put (t := t * sg.length ^ (sz - L)) hord ec inv.2.1
              rw [hsz] at hput
              exact ⟨sz, t * sg.length ^ (sz - L) + 1, ts ++ [t * sg.length ^ (sz - L)], _, _, _, rfl, hnext ne, b2, hput, upd_same, x6.trans (Ex.upd _)⟩
        · rintro σ H6 ⟨L, t, ts, kvs, v8, v9, rfl, inv, hL12, hdw, hd6, X6⟩
          rw [hol] at inv hdw
          have sol : (szo os).length = os.length := by rw [szo, List.length_map]
          have hgn : gn sg.length 0 0 (szo os) = some ts := by
            rw [← sol] at inv
            exact inv.fin
          have htl := inv.2.1
          obtain ⟨hres, hval⟩ := hdw.all hord hls.2.1 hgn htl
          have S6 : Same H H6 := fun b o q0 => X6 _ _ (ne_of_none q0 hd0) (s05 _ _ q0)
          have hll := hls.2.1
          have hl1 := hls.1
          refine ⟨_, rfl, _, rfl, a, _, rfl, .inr (SqT.of (X6 _ _ nad (sq _ _ ha))), _, rfl, by rw [nums_len]; omega, by rw [nums_len]; omega, fun D2 hD2 => lc_range (lo := 0) (n := (nums ls).length) (fun i H' => H' D2 = some (.lst (txts ((List.range i).map (wordOf kvs)))) ∧ Same H6 H') ⟨upd_same, Same.new _ hD2⟩ ?_ ?_⟩
          · rintro i H7 hi ⟨hDl, sm⟩
            rw [nums_len] at hi
            refine ⟨rfl, _, rfl, _, rfl, d, _, rfl, .inl ⟨kvs, .inl ((0 : Int) + (i : Int)), .inl (sm _ _ hd6), rfl, by rw [show (0 : Int) + (i : Int) = (i : Int) by omega]; exact (hval i hi).symm⟩, _, hDl, lt_size (by simp [txts]; omega), ?_, sm.updNew hD2⟩
            rw [upd_same, List.range_succ, List.map_append]
            simp [txts]
          · rintro H7 ⟨hDl, sm⟩
            rw [nums_len] at hDl
            refine ⟨D2, sg, _, rfl, .inl hDl, hsg, by rw [hres.1]; exact hl1, by rw [hres.1]; omega, hres.word hls hk0, fun H8 qb ub s8 hq8 hL8 => ?_⟩
            have S7 := S6.trans sm
            exact kb H8 qb _ ub (S7.trans s8) (S7.free hq8) hres hL8
end
end J


set_option Elab.async false
set_option linter.all false
set_option maxRecDepth 100000
set_option maxHeartbeats 4000000
namespace J
open PySem L2
theorem mul_S (c : Nat) (n : Nat) : Txt.mul (⟨#[c]⟩ : Str) (n : Int) = SX.S (List.replicate n c) := by
  have h := PyProof.Rows.mul_one_list c (n : Int)
  unfold SX.S
  rw [show List.replicate n c = List.replicate ((n : Int)).toNat c by simp, ← h]
theorem tx_pad {sg : List Nat} (hk : 0 < sg.length) {L t s : Nat} (h : L ≤ s) : tx sg L t ++ List.replicate (s - L) (sg.getD 0 0) = tx sg s (t * sg.length ^ (s - L)) := by
  have q := wd_pad hk L t (s - L)
  rw [show L + (s - L) = s by omega] at q
  unfold tx
  rw [q, List.map_append, List.map_replicate]
/-- the law's last word -/
def LastOk (sg : List Nat) (L t : Nat) (v : V) : Prop := (v = .non ∧ L = 0 ∧ t = 0) ∨ (1 ≤ t ∧ 1 ≤ L ∧ v = .str (SX.S (tx sg L (t - 1))))
section
variable {P : Program} {w : World} {K : PySem.W.Frag} {mg : Str → Option Value} {base : Heap}
theorem ok_l_due (T : Tx K mg) : FnOk P w K mg base CX0 2 T.f_l_due T.fd_l_due P_l_due spDue := by
  have G_l_behind : FnOk P w K mg base CX0 1 T.f_l_behind T.fd_l_behind P_l_behind spBehind := ok_l_behind T
  refine T.F_l_due.ok sc_l_due (fun vs H Q E h => ?_) (fun cdv A outer s H vs Q E hr h => ?_)
  · obtain ⟨a, sg, ls, rfl, _⟩ := h
    rfl
  · obtain ⟨a, sg, ls, rfl, ha0, hsg, hls, kn, kb⟩ := h
    refine ⟨_, (pss_cons (ps_set (i := 2) sc_l_due.nd rfl (Or.inr rfl) pe_dnewK)
        (pss_cons (ps_set (i := 3) sc_l_due.nd rfl (Or.inl rfl) pe_non)
        (pss_cons (ps_for PassesOwn.never rfl (pi_list (pe_callB cr_sortedPO rfl T.n_sorted (by decide +kernel) (pa_cons (pe_lc (own := [("_law_at", 5)]) (g := (gName 5)) rfl sc_l_due.nd (pi_range1 rfl T.n_range (pa_cons (pe_callB (call_len_seqK (K := K) rfl) rfl T.n_len (by decide +kernel) (pa_cons (pv 1) pa_nil)) pa_nil)) (blkOk_by (N := N_l_due) (sc := defScope s_l_due) (by decide +kernel)) (fun _ _ _ _ _ => (pg_name (i := 5) sc_l_due.nd rfl (Or.inl rfl))) (fun _ _ _ _ _ => pts_nil) (fun _ _ _ _ _ => (pe_tup (pa_cons (pe_ix (ix_listK (K := K) rfl) (pv 1) (pv 5) (fun _ _ => rfl)) (pa_cons (pv 5) pa_nil))))) pa_nil))) (pg_tup rfl (pgs_cons (pg_name (i := 4) sc_l_due.nd rfl (Or.inl rfl)) (pgs_cons (pg_name (i := 5) sc_l_due.nd rfl (Or.inl rfl)) pgs_nil))) (pss_cons (ps_set (i := 6) sc_l_due.nd rfl (Or.inl rfl) (pe_ifExp (pt_cmpR op_isN (pv 3) pe_non (nomark _)) pe_str (pe_call G_l_behind (hr.mono (by decide)) rfl T.m_l_behind T.F_l_behind.kp T.b_l_behind .nil pass0 (pa_cons (pv 0) (pa_cons (pv 3) pa_nil)))))
        (pss_cons (ps_if (pt_cmpR op_isN (pv 6) pe_non (nomark _)) (pss_one (ps_ret pe_non)) pss_nil)
        (pss_cons (ps_set (i := 3) sc_l_due.nd rfl (Or.inl rfl) (pe_op op_add_str (pv 6) (pe_op op_mul_str (pe_ix ix_str (pv 0) pe_int (fun _ _ => rfl)) (pe_op op_sub (pv 4) (pe_callB call_len_str rfl T.n_len (by decide +kernel) (pa_cons (pv 6) pa_nil))))))
        (pss_one (ps_dput (hu_of hr) (pv 2) (pv 5) (pv 3) rfl))))))
        (pss_one (ps_ret (pe_lc (own := [("_law_at", 5)]) (g := (gName 5)) rfl sc_l_due.nd (pi_range1 rfl T.n_range (pa_cons (pe_callB (call_len_seqK (K := K) rfl) rfl T.n_len (by decide +kernel) (pa_cons (pv 1) pa_nil)) pa_nil)) (blkOk_by (N := N_l_due) (sc := defScope s_l_due) (by decide +kernel)) (fun _ _ _ _ _ => (pg_name (i := 5) sc_l_due.nd rfl (Or.inl rfl))) (fun _ _ _ _ _ => pts_nil) (fun _ _ _ _ _ => (pe_dget (hu_of hr) (pv 2) (pv 5) (fun _ _ => rfl))))))))), ?_⟩
    have hlen := hsg.signs.len
    have hk0 : 0 < sg.length := hlen.1
    have hsl : (SX.S sg).length ≤ sizeLine := le_size (by rw [SX.S_len]; omega)
    have hc0 : sg[0]? = some (sg.getD 0 0) := by rw [List.getD_eq_getElem?_getD, List.getElem?_eq_getElem hk0]; rfl
    intro d hd0
    have sd : Same H (upd H d (.dK [])) := Same.new _ hd0
    have gd0 : upd H d (.dK []) d = some (.dK []) := upd_same
    generalize upd H d (.dK []) = H3 at *
    have ha := sd _ _ ha0
    have hll := hls.2.1
    have hl1 := hls.1
    refine ⟨_, rfl, a, _, rfl, .inl (SqL.of ha), _, rfl, by rw [nums_len]; omega, by rw [nums_len]; omega, fun D hD => lc_range (lo := 0) (n := (nums ls).length) (fun i H' => ∃ ps, H' D = some (.lst (ps.map V.ref)) ∧ Prs2 H' ls i ps ∧ Same H3 H') ⟨[], upd_same, ⟨rfl, fun i' l h => absurd h (Nat.not_lt_zero _)⟩, Same.new _ hD⟩ ?_ ?_⟩
    · rintro i H4 hi ⟨ps, hDl, hps, sm⟩
      rw [nums_len] at hi
      obtain ⟨l, hl⟩ : ∃ l, ls[i]? = some l := ⟨_, List.getElem?_eq_getElem hi⟩
      have e0 : (0 : Int) + (i : Int) = (i : Int) := by omega
      refine ⟨rfl, _, rfl, _, rfl, a, _, _, _, rfl, rfl, SqL.of (sm _ _ ha), by rw [e0]; exact atI_nat (nums_at hl), _, rfl, le_size (by simp), fun t ht => ?_⟩
      rw [e0]
      have sB : Same H4 (upd H4 t (.tup [.int (l : Nat), .int (i : Nat)])) := Same.new _ ht
      have gt : upd H4 t (.tup [.int (l : Nat), .int (i : Nat)]) t = some (.tup [.int (l : Nat), .int (i : Nat)]) := upd_same
      generalize upd H4 t (.tup [.int (l : Nat), .int (i : Nat)]) = H6 at *
      have hD6 := sB _ _ hDl
      have keep : ∀ (u l i' : Nat), H6 u = some (.tup [.int (l : Nat), .int (i' : Nat)]) → upd H6 D (.lst (ps.map V.ref ++ [.ref t])) u = some (.tup [.int (l : Nat), .int (i' : Nat)]) := fun u l i' h => by
        rw [upd_ne (fun z => by rw [z, hD6] at h; cases h)]; exact h
      refine ⟨_, hD6, lt_size (by rw [List.length_map, hps.1]; omega), ps ++ [t], by rw [upd_same]; simp, ?_, (sm.trans sB).updNew hD⟩
      exact ((hps.same fun u l i' h => sB _ _ h).snoc hl gt).same keep
    · rintro H4 ⟨ps, hDl, hps, sm⟩
      rw [nums_len] at hps
      refine ⟨D, ps.map V.ref, keyOf H4, rfl, SqL.of hDl, hps.keys, fun ys q hsrt hstb hq => ?_⟩
      obtain ⟨os, hord, hol, hat⟩ := hps.order hls.2.1 hsrt hstb.perm
      have sq : Same H3 (upd H4 q (.lst ys)) := sm.trans (Same.new _ hq)
      have gq : upd H4 q (.lst ys) q = some (.lst ys) := upd_same
      have hat5 : ∀ j c : Nat, os[j]? = some c → ∃ t, ys[j]? = some (.ref t) ∧ upd H4 q (.lst ys) t = some (.tup [.int (c / 16 : Nat), .int (c % 16 : Nat)]) := fun j c h => by
        obtain ⟨t, h1, h2⟩ := hat j c h
        exact ⟨t, h1, Same.new _ hq _ _ h2⟩
      have nqd : q ≠ d := hp_ne (sm _ _ gd0) hq
      generalize upd H4 q (.lst ys) = H5 at *
      clear hat hsrt hstb hps hDl hq sm
      have gd5 := sq _ _ gd0
      have s05 : Same H H5 := sd.trans sq
      have nad : a ≠ d := fun z => by rw [z, gd0] at ha; cases ha
      have ols : os.length = ls.length := hord.2.1
      refine ⟨q, rfl, ⟨_, SqL.of gq⟩, for_list (K := K) (a := q) (xs := ys) (fun j σ H' => ∃ (L t : Nat) (ts : List Nat) (kvs : List (Key × V)) (vl : V) (v4 v5 v6 : Option V), σ = [some (.str (SX.S sg)), some (.ref a), some (.ref d), some vl, v4, v5, v6] ∧
        LastOk sg L t vl ∧ InvG sg.length (szo os) j L t ts ∧ L ≤ 12 ∧ DW sg os ts j kvs ∧ H' d = some (.dK kvs) ∧ Ex d H5 H') ?_ ?_ ?_ ?_⟩
      · exact ⟨0, 0, [], [], .non, none, none, none, rfl, .inl ⟨rfl, rfl, rfl⟩, InvG.start _ _, by decide, ⟨Nat.zero_le _, fun j' c t h => absurd h (Nat.not_lt_zero _)⟩, gd5, Ex.refl _ _⟩
      · rintro j σ H6 _ ⟨L, t, ts, kvs, vl, v4, v5, v6, rfl, hlast, inv, hL12, hdw, hd6, x6⟩
        exact SqL.of (x6 _ _ nqd gq)
      · rintro j x σ H6 hx ⟨L, t, ts, kvs, vl, v4, v5, v6, rfl, hlast, inv, hL12, hdw, hd6, x6⟩
        have hj : j < os.length := by rw [← hol]; exact (List.getElem?_eq_some_iff.mp hx).1
        obtain ⟨c, ec⟩ : ∃ c, os[j]? = some c := ⟨_, List.getElem?_eq_getElem hj⟩
        obtain ⟨tt, ht1, ht2⟩ := hat5 j c ec
        rw [ht1] at hx
        cases hx
        have ntd : tt ≠ d := fun z => by rw [z, gd5] at ht2; cases ht2
        refine ⟨tt, _, rfl, SqT.of (x6 _ _ ntd ht2), rfl, _, _, rfl, _, _, rfl, rfl, ?_⟩
        have hs := szo_at ec
        obtain ⟨hLs, hle⟩ := inv.le hs
        obtain ⟨b1, b2⟩ := ord_lens hord hls ec
        have hnone := fun e => inv.none hs e
        have hnext := fun e => inv.next (szo_asc hord) hs e
        have hput := hdw.put (t := t * sg.length ^ (c / 16 - L)) hord ec inv.2.1
        have htk := inv.2.2.1
        generalize hsz : c / 16 = sz at *
        have eL : sg.length ^ L * sg.length ^ (sz - L) = sg.length ^ sz := by rw [← Nat.pow_add]; congr 1; omega
        have pp : 0 < sg.length ^ (sz - L) := Nat.pow_pos hk0
        rcases hlast with ⟨rfl, rfl, rfl⟩ | ⟨ht1', hL1, rfl⟩
        · refine ⟨_, rfl, rfl, true, congrArg V.bl (decide_eq_true rfl), iteT ?_⟩
          have hlt : (0 : Nat) < sg.length ^ 0 := by simp
          have S6 : Same H H6 := fun b o q0 => x6 _ _ (ne_of_none q0 hd0) (s05 _ _ q0)
          have hdx := hd6
          have x7 := x6
          have etx : V.str "" = V.str (SX.S (tx sg 0 0)) := rfl
          rw [etx]
          refine ⟨_, rfl, rfl, false, congrArg V.bl (decide_eq_false (fun z => nomatch z)), iteF ?_⟩
          have ne : 0 * sg.length ^ (sz - 0) ≠ sg.length ^ sz := fun z => by
            rw [← eL] at z
            have := Nat.eq_of_mul_eq_mul_right pp z
            omega
          have ed : ((sz : Nat) : Int) - ((SX.S (tx sg 0 0)).length : Int) = ((sz - 0 : Nat) : Int) := by rw [SX.S_len, tx_len]; omega
          refine ⟨_, rfl, _, rfl, _, _, _, rfl, rfl, hsl, atI_nat hc0, _, rfl, _, rfl, _, rfl, le_size (by rw [SX.S_len, tx_len]; omega), _, _, rfl, rfl, _, _, rfl, rfl, by show 1 ≤ 16; decide, by rw [ed]; omega, by rw [ed]; omega, ?_⟩
          dsimp only
          rw [ed, mul_S]
          refine ⟨_, _, rfl, rfl, le_size (by rw [SX.S_len, SX.S_len, tx_len, List.length_replicate]; omega), ?_⟩
          rw [S_app, tx_pad hk0 hLs]
          refine ⟨_, rfl, _, rfl, _, rfl, d, _, rfl, DPut.k (k := (.inl ((c % 16 : Nat) : Int) : Key)) hdx (lt_size (by have := hdw.1; omega)), ?_⟩
          exact ⟨sz, 0 * sg.length ^ (sz - 0) + 1, ts ++ [0 * sg.length ^ (sz - 0)], _, _, _, _, _, rfl, .inr ⟨by omega, b1, rfl⟩, hnext ne, b2, hput, upd_same, x7.trans (Ex.upd _)⟩
        · refine ⟨_, rfl, rfl, false, congrArg V.bl (decide_eq_false (fun z => nomatch z)), iteF ?_⟩
          refine ⟨_, rfl, _, rfl, sg, L, t - 1, rfl, hsg, hL12, by omega, fun H7 s7 => ?_⟩
          have x7 : Ex d H5 H7 := x6.trans (Same.ex s7)
          have S7 : Same H H7 := fun b o q0 => x7 _ _ (ne_of_none q0 hd0) (s05 _ _ q0)
          have hdx := s7 _ _ hd6
          by_cases e : t - 1 + 1 = sg.length ^ L
          · rw [if_pos e]
            refine ⟨_, rfl, rfl, true, congrArg V.bl (decide_eq_true rfl), iteT ?_⟩
            exact kn H7 S7 ⟨os, hord, hnone (by rw [← eL]; congr 1; omega)⟩
          rw [if_neg e, show t - 1 + 1 = t by omega]
          have hlt : t < sg.length ^ L := by omega
          refine ⟨_, rfl, rfl, false, congrArg V.bl (decide_eq_false (fun z => nomatch z)), iteF ?_⟩
          have ne : t * sg.length ^ (sz - L) ≠ sg.length ^ sz := fun z => by
            rw [← eL] at z
            have := Nat.eq_of_mul_eq_mul_right pp z
            omega
          have ed : ((sz : Nat) : Int) - ((SX.S (tx sg L t)).length : Int) = ((sz - L : Nat) : Int) := by rw [SX.S_len, tx_len]; omega
          refine ⟨_, rfl, _, rfl, _, _, _, rfl, rfl, hsl, atI_nat hc0, _, rfl, _, rfl, _, rfl, le_size (by rw [SX.S_len, tx_len]; omega), _, _, rfl, rfl, _, _, rfl, rfl, by show 1 ≤ 16; decide, by rw [ed]; omega, by rw [ed]; omega, ?_⟩
          dsimp only
          rw [ed, mul_S]
          refine ⟨_, _, rfl, rfl, le_size (by rw [SX.S_len, SX.S_len, tx_len, List.length_replicate]; omega), ?_⟩
          rw [S_app, tx_pad hk0 hLs]
          refine ⟨_, rfl, _, rfl, _, rfl, d, _, rfl, DPut.k (k := (.inl ((c % 16 : Nat) : Int) : Key)) hdx (lt_size (by have := hdw.1; omega)), ?_⟩
          exact ⟨sz, t * sg.length ^ (sz - L) + 1, ts ++ [t * sg.length ^ (sz - L)], _, _, _, _, _, rfl, .inr ⟨by omega, b1, rfl⟩, hnext ne, b2, hput, upd_same, x7.trans (Ex.upd _)⟩
      · rintro σ H6 ⟨L, t, ts, kvs, vl, v4, v5, v6, rfl, hlast, inv, hL12, hdw, hd6, X6⟩
        rw [hol] at inv hdw
        have sol : (szo os).length = os.length := by rw [szo, List.length_map]
        have hgn : gn sg.length 0 0 (szo os) = some ts := by
          rw [← sol] at inv
          exact inv.fin
        have htl := inv.2.1
        obtain ⟨hres, hval⟩ := hdw.all hord hls.2.1 hgn htl
        have S6 : Same H H6 := fun b o q0 => X6 _ _ (ne_of_none q0 hd0) (s05 _ _ q0)
        refine ⟨_, rfl, a, _, rfl, .inl (SqL.of (X6 _ _ nad (sq _ _ ha))), _, rfl, by rw [nums_len]; omega, by rw [nums_len]; omega, fun D2 hD2 => lc_range (lo := 0) (n := (nums ls).length) (fun i H' => H' D2 = some (.lst (txts ((List.range i).map (wordOf kvs)))) ∧ Same H6 H') ⟨upd_same, Same.new _ hD2⟩ ?_ ?_⟩
        · rintro i H7 hi ⟨hDl, sm⟩
          rw [nums_len] at hi
          refine ⟨rfl, _, rfl, _, rfl, d, _, rfl, .inl ⟨kvs, .inl ((0 : Int) + (i : Int)), .inl (sm _ _ hd6), rfl, by rw [show (0 : Int) + (i : Int) = (i : Int) by omega]; exact (hval i hi).symm⟩, _, hDl, lt_size (by simp [txts]; omega), ?_, sm.updNew hD2⟩
          rw [upd_same, List.range_succ, List.map_append]
          simp [txts]
        · rintro H7 ⟨hDl, sm⟩
          rw [nums_len] at hDl
          exact kb H7 D2 _ (S6.trans sm) (S6.free hD2) hres hDl
end
end J


set_option Elab.async false
set_option linter.all false
set_option maxRecDepth 100000
set_option maxHeartbeats 4000000
namespace J
open PySem L2
def spLaw (K : PySem.W.Frag) : Sp := fun vs H Q _ => ∃ (a : Addr) (ns : List Int), vs = [.ref a] ∧ SqL K H a (ns.map V.int) ∧ ns.length ≤ 63 ∧ ∀ H', Q (.bl true) H'
def numD (ls : List Nat) : List PyData := ls.map fun n : Nat => .int (n : Int)
theorem dp_nums {K : PySem.W.Frag} {H : Hp} : ∀ ls : List Nat, DpAll K H (nums ls) (numD ls)
  | [] => .nil
  | _ :: r => .cons (.int _) (dp_nums r)
theorem lay_nums : ∀ ls : List Nat, PyData.canLayAll0 (numD ls) = true
  | [] => rfl
  | _ :: r => by
    show (true && PyData.canLayAll0 (numD r)) = true
    rw [lay_nums r]
    rfl
theorem deep_nums : ∀ ls : List Nat, PyData.depthAll (numD ls) = 0
  | [] => by simp [numD, PyData.depthAll]
  | u :: r => by
    show max (PyData.depth (.int (u : Int))) (PyData.depthAll (numD r)) = 0
    rw [deep_nums r]
    simp [PyData.depth]
theorem shaped_nums (ls : List Nat) : SeqAt.shaped (.list (numD ls)) = true := by
  have q1 : PyData.canLay0 (.list (numD ls)) = true := lay_nums ls
  have q2 : PyData.depth (.list (numD ls)) ≤ 64 := by
    show PyData.depthAll (numD ls) + 1 ≤ 64
    rw [deep_nums]
    decide
  unfold SeqAt.shaped
  rw [q1, decide_eq_true q2]
  rfl
theorem ne_nums {K : PySem.W.Frag} {H : Hp} {a b : Addr} {ls : List Nat} {Q : VK} (ha : H a = some (.lst (nums ls))) (hb : H b = some (.lst (nums ls))) (q : Q (.bl false) H) : rNeD K (.ref a) (.ref b) H Q := by
  refine ⟨_, _, .lst (SqL.of ha) (dp_nums ls), .lst (SqL.of hb) (dp_nums ls), shaped_nums ls, shaped_nums ls, ?_⟩
  rw [SeqAt.eqv_refl _ (SeqAt.canLay_of_shaped (shaped_nums ls))]
  exact q
theorem res_none {sg ls os : List Nat} {us : List (List Nat)} (h : Res sg ls us) (ho : Ord ls os) (hg : gn sg.length 0 0 (szo os) = none) : False := by
  obtain ⟨_, os', ts, ho', hg', _⟩ := h
  have e := ho.uniq ho'
  subst e
  rw [hg] at hg'
  cases hg'
section
variable {P : Program} {w : World} {K : PySem.W.Frag} {mg : Str → Option Value} {base : Heap}
theorem ok_law (T : Tx K mg) : FnOk P w K mg base CX0 9 T.f_law T.fd_law P_law (spLaw K) := by
  refine T.F_law.ok sc_law (fun vs H Q E h => ?_) (fun cdv A outer s H vs Q E hr h => ?_)
  · obtain ⟨a, ns, rfl, _⟩ := h
    rfl
  · obtain ⟨a, ns, rfl, hS, hlen, k⟩ := h
    have G_l_take : FnOk P w K mg base CX0 1 T.f_l_take T.fd_l_take P_l_take (spTake K ns) := ok_l_take T ns
    have G_l_signs : FnOk P w K mg base CX0 2 T.f_l_signs T.fd_l_signs P_l_signs (spSigns46 K ns) := ok_l_signs46 T ns
    have G_l_lengths : FnOk P w K mg base CX0 2 T.f_l_lengths T.fd_l_lengths P_l_lengths (spLens K ns) := ok_l_lengths T ns
    have G_l_due : FnOk P w K mg base CX0 2 T.f_l_due T.fd_l_due P_l_due spDue := ok_l_due T
    have G_l_is_plain : FnOk P w K mg base CX0 1 T.f_l_is_plain T.fd_l_is_plain P_l_is_plain spPlain2 := ok_l_is_plain T
    have G_book : FnOk P w K mg base CX0 6 T.f_book T.fd_book P_book (spBook T.C_Loom) := ok_book T
    have G_book_of_lengths : FnOk P w K mg base CX0 7 T.f_book_of_lengths T.fd_book_of_lengths P_book_of_lengths (spBL T.C_Loom) := ok_book_of_lengths T
    have G_Loom_eq : FnOk P w K mg base CX0 1 T.f_Loom_eq T.fd_Loom_eq P_Loom_eq (spEqB (Eql T.C_Loom)) := ok_Loom_eq T
    have KB_book_of_lengths_signs_lengths : KBn K T.fd_book_of_lengths P_book_of_lengths 0 ["signs", "lengths"] (fun _ ws => ws) (fun _ zs => zs) :=
      T.F_book_of_lengths.kbinds (fun x => x) (fun _ _ _ _ _ _ ws hl => match ws, hl with | [_, _], _ => rfl) (fun h => h)
    refine ⟨_, (pss_cons (ps_set (i := 1) sc_law.nd rfl (Or.inl rfl) (pe_lst (pa_cons pe_int (pa_cons pe_int (pa_cons pe_int (pa_cons pe_int pa_nil))))))
        (pss_cons (ps_for PassesOwn.never rfl (pi_range1 rfl T.n_range (pa_cons pe_int pa_nil)) (pg_name (i := 2) sc_law.nd rfl (Or.inl rfl)) (pss_cons (ps_set (i := 3) sc_law.nd rfl (Or.inl rfl) (pe_call G_l_signs (hr.mono (by decide)) rfl T.m_l_signs T.F_l_signs.kp T.b_l_signs .nil pass0 (pa_cons (pv 0) (pa_cons (pv 1) pa_nil))))
        (pss_cons (ps_set (i := 4) sc_law.nd rfl (Or.inl rfl) (pe_call G_l_lengths (hr.mono (by decide)) rfl T.m_l_lengths T.F_l_lengths.kp T.b_l_lengths .nil pass0 (pa_cons (pv 0) (pa_cons (pv 1) pa_nil))))
        (pss_cons (ps_set (i := 5) sc_law.nd rfl (Or.inl rfl) (pe_ix (ix_listK (K := K) rfl) (pe_lst (pa_cons (pe_callTy (call_list_ofK (K := K) rfl) rfl T.n_list (by decide +kernel) (pa_cons (pv 4) pa_nil)) (pa_cons (pe_callTy (call_tuple_ofK (K := K) rfl) rfl T.n_tuple (by decide +kernel) (pa_cons (pv 4) pa_nil)) pa_nil))) (pe_call G_l_take (hr.mono (by decide)) rfl T.m_l_take T.F_l_take.kp T.b_l_take .nil pass0 (pa_cons (pv 0) (pa_cons (pv 1) (pa_cons pe_int pa_nil)))) (fun _ _ => rfl)))
        (pss_cons (ps_set (i := 6) sc_law.nd rfl (Or.inl rfl) (pe_callN0 G_book_of_lengths (hr.mono (by decide)) rfl T.m_book_of_lengths T.F_book_of_lengths.kp KB_book_of_lengths_signs_lengths pass0 (pk_cons (pv 3) (pk_cons (pv 5) pk_nil))))
        (pss_cons (ps_set (i := 7) sc_law.nd rfl (Or.inl rfl) (pe_call G_l_due (hr.mono (by decide)) rfl T.m_l_due T.F_l_due.kp T.b_l_due .nil pass0 (pa_cons (pv 3) (pa_cons (pv 4) pa_nil))))
        (pss_cons (ps_if (pt_cmpR (op_neD hr.units) (pe_callTy (call_list_ofK (K := K) rfl) rfl T.n_list (by decide +kernel) (pa_cons (pv 5) pa_nil)) (pv 4) (nomark _)) (pss_one (ps_ret pe_bl)) pss_nil)
        (pss_one (ps_if (pt_cmpR op_isN (pv 7) pe_non (nomark _)) (pss_one (ps_if (pt_cmpR op_notN (pv 6) pe_non (nomark _)) (pss_one (ps_ret pe_bl)) pss_nil)) (pss_one (ps_if (PW.pt (pw_or (pt_cmpR (op_neB (C := T.C_Loom) G_Loom_eq T.eq_Loom T.fn_Loom_eq T.ne_Loom T.im_Loom T.b_Loom_eq pass0 (hr.mono (by decide))) (pv 6) (pe_call G_book (hr.mono (by decide)) rfl T.m_book T.F_book.kp T.b_book .nil pass0 (pa_cons (pv 3) (pa_cons (pv 7) pa_nil))) (nomark _)) (pw_or (pt_not (pt_val (pe_call G_l_is_plain (hr.mono (by decide)) rfl T.m_l_is_plain T.F_l_is_plain.kp T.b_l_is_plain .nil pass0 (pa_cons (pv 7) pa_nil)))) (pw_or1 (pt_cmpR (op_neD hr.units) (pe_lc (own := [("_law_word", 8)]) (g := (gName 8)) rfl sc_law.nd (pi_list (pv 7)) (blkOk_by (N := N_law) (sc := defScope s_law) (by decide +kernel)) (fun _ _ _ _ _ => (pg_name (i := 8) sc_law.nd rfl (Or.inl rfl))) (fun _ _ _ _ _ => pts_nil) (fun _ _ _ _ _ => (pe_callB call_len_str rfl T.n_len (by decide +kernel) (pa_cons (pv 8) pa_nil)))) (pv 4) (nomark _)))))) (pss_one (ps_ret pe_bl)) pss_nil)))))))))))
        (pss_one (ps_ret pe_bl)))), ?_⟩
    refine ⟨le_size (by simp), fun p hp => ?_⟩
    have st0 : St K ns a (upd H p (.lst [.int 0, .int 0, .int 0, .int 0])) p := ⟨⟨0, 0, 0, 0, upd_same, Int.le_refl _⟩, (Scr.mk hS hp).ex (Ex.new _ hp)⟩
    generalize upd H p (.lst [.int 0, .int 0, .int 0, .int 0]) = H1 at *
    refine ⟨6, rfl, by decide, by decide, for_range (lo := 0) (n := 6) (fun i σ H' => ∃ v2 v3 v4 v5 v6 v7 : Option V, σ = [some (.ref a), some (.ref p), v2, v3, v4, v5, v6, v7, none] ∧ St K ns a H' p) ?_ ?_ ?_⟩
    · exact ⟨none, none, none, none, none, none, rfl, st0⟩
    · rintro i σ H2 hi ⟨v2, v3, v4, v5, v6, v7, rfl, st2⟩
      refine ⟨_, rfl, _, rfl, a, p, rfl, st2, fun H3 sg x3 st3 hsg => ?_⟩
      refine ⟨_, rfl, _, rfl, a, p, rfl, st3, fun H6 q ls x4 st6 hq0 nqp hq hls => ?_⟩
      have hsn := hsg.signs
      have hk0 : 0 < sg.length := hsn.1
      have hl1 := hls.1
      have hl2 := hls.2.1
      -- handed in as a list or a tuple
      refine ⟨_, rfl, q, _, rfl, .inl (SqL.of hq), fun l1 hl1' => ?_⟩
      have sA : Same H6 (upd H6 l1 (.lst (nums ls))) := Same.new _ hl1'
      have gA : upd H6 l1 (.lst (nums ls)) l1 = some (.lst (nums ls)) := upd_same
      have n1p := st6.ne hl1'
      generalize upd H6 l1 (.lst (nums ls)) = H7 at *
      refine ⟨_, rfl, q, _, rfl, .inl ⟨SqL.of (sA _ _ hq), fun t1 ht1 => ?_⟩⟩
      have sB : Same H7 (upd H7 t1 (.tup (nums ls))) := Same.new _ ht1
      have gB : upd H7 t1 (.tup (nums ls)) t1 = some (.tup (nums ls)) := upd_same
      have n2p := (st6.same sA).ne ht1
      replace gA := sB _ _ gA
      generalize upd H7 t1 (.tup (nums ls)) = H8 at *
      refine ⟨le_size (by simp), fun l2 hl2' => ?_⟩
      have sC : Same H8 (upd H8 l2 (.lst [.ref l1, .ref t1])) := Same.new _ hl2'
      have gC : upd H8 l2 (.lst [.ref l1, .ref t1]) l2 = some (.lst [.ref l1, .ref t1]) := upd_same
      have sABC : Same H6 (upd H8 l2 (.lst [.ref l1, .ref t1])) := (sA.trans sB).trans sC
      have n3p := ((st6.same sA).same sB).ne hl2'
      replace gA := sC _ _ gA
      replace gB := sC _ _ gB
      generalize upd H8 l2 (.lst [.ref l1, .ref t1]) = H9 at *
      refine ⟨_, rfl, _, rfl, a, p, 2, rfl, st6.same sABC, by decide, by decide, fun H10 r10 x10 st10 r0 r1 => ?_⟩
      obtain ⟨v, hv, hat⟩ := atI_mem (xs := ([.ref l1, .ref t1] : List V)) r0 (by simpa using r1)
      refine ⟨l2, _, _, _, rfl, rfl, SqL.of (x10 _ _ n3p gC), hat, ?_⟩
      have hh : ∃ hd, v = .ref hd ∧ Seq H10 hd (nums ls) := by
        simp only [List.mem_cons, List.not_mem_nil, or_false] at hv
        rcases hv with rfl | rfl
        · exact ⟨l1, rfl, .inl (x10 _ _ n1p gA)⟩
        · exact ⟨t1, rfl, .inr (x10 _ _ n2p gB)⟩
      obtain ⟨hd, rfl, hseq⟩ := hh
      have hq10 : H10 q = some (.lst (nums ls)) := x10 _ _ nqp (sABC _ _ hq)
      clear hv hat gA gB gC sA sB sC sABC n1p n2p n3p hl1' ht1 hl2' x10 st6 hq
      have both : ∀ {H' : Hp}, Seq H' hd (nums ls) → SqL K H' hd (nums ls) ∨ SqT K H' hd (nums ls) := fun h => h.elim (fun h => .inl (SqL.of h)) fun h => .inr (SqT.of h)
      refine ⟨_, rfl, _, rfl, rfl, rfl, hd, sg, ls, rfl, hseq, hsn, hls, fun H11 s11 hnone => ?_, fun H11 lm us ub s11 hlm0 hres hL => ?_⟩
      · -- no book
        obtain ⟨os, hord, hgn⟩ := hnone
        refine ⟨_, rfl, _, rfl, q, sg, ls, rfl, s11 _ _ hq10, hsg, hls, fun H12 s12 _ => ?_, fun H12 r us s12 _ hres _ => (res_none hres hord hgn).elim⟩
        have s1012 := s11.trans s12
        refine ⟨_, rfl, hd, _, rfl, both (hseq.same s1012), fun l hl => ⟨_, rfl, ne_nums upd_same (Same.new _ hl _ _ (s1012 _ _ hq10)) ⟨false, rfl, iteF ?_⟩⟩⟩
        refine ⟨_, rfl, rfl, true, congrArg V.bl (decide_eq_true rfl), iteT ?_⟩
        refine ⟨_, rfl, rfl, false, congrArg V.bl (by simp), iteF ?_⟩
        exact ⟨_, _, _, _, _, _, rfl, (st10.same s1012).same (Same.new _ hl)⟩
      · -- a book
        refine ⟨_, rfl, _, rfl, q, sg, ls, rfl, s11 _ _ hq10, hsg, hls, fun H12 s12 hn => (by obtain ⟨os, hord, hgn⟩ := hn; exact (res_none hres hord hgn).elim), fun H12 r vs s12 hr0 hres2 hr => ?_⟩
        have e := hres.uniq hres2 hl2 (fun l hl => (hls.2.2 l hl).1) hk0
        subst e
        have s1012 := s11.trans s12
        refine ⟨_, rfl, hd, _, rfl, both (hseq.same s1012), fun l hl => ⟨_, rfl, ne_nums upd_same (Same.new _ hl _ _ (s1012 _ _ hq10)) ⟨false, rfl, iteF ?_⟩⟩⟩
        have sl : Same H12 (upd H12 l (.lst (nums ls))) := Same.new _ hl
        have st13 := (st10.same s1012).same sl
        have hr13 := sl _ _ hr
        have hL13 := (hL.same s12).same sl
        have hq13 := sl _ _ (s1012 _ _ hq10)
        generalize upd H12 l (.lst (nums ls)) = H13 at *
        clear sl hl hr hr0 s1012 hL hlm0 hseq hq10 st10 s11 s12
        have hul := hres.1
        have hwd := hres.word hls hk0
        refine ⟨_, rfl, rfl, false, congrArg V.bl (decide_eq_false (fun z => nomatch z)), iteF ?_⟩
        refine ⟨_, rfl, _, rfl, _, rfl, r, sg, us, rfl, .inl hr13, hsn, by omega, by omega, hwd, fun H14 lb ub2 s14 hlb hLb => ?_⟩
        have hL14 := hL13.same s14
        obtain ⟨_, _, hil, _⟩ := id hL14
        obtain ⟨_, _, hib, _⟩ := id hLb
        refine ⟨lm, lb, _, _, _, _, true, rfl, rfl, hil, hib, ⟨sg, _, _, sg, _, _, hL14, hLb, by simp⟩, fun H15 e15 => ⟨false, rfl, iteF ?_⟩⟩
        have s15 : Same H13 H15 := s14.trans e15
        have hr15 := s15 _ _ hr13
        refine ⟨_, rfl, r, us, rfl, hr15, by omega, fun u hu => by have := (hwd u hu).2.1; omega, fun i o u v hio hi ho => hres.plain hl2 (fun l hl => (hls.2.2 l hl).1) hsn.2.2.2 hk0 hio hi ho, ⟨true, rfl, iteF ?_⟩⟩
        refine ⟨_, rfl, r, rfl, ⟨_, SqL.of hr15⟩, fun D hD => lc_list (K := K) (a := r) (xs := txts us) (fun i H' => H' D = some (.lst (nums ((us.take i).map (·.length)))) ∧ Same H15 H') ⟨upd_same, Same.new _ hD⟩ (fun i H' _ ⟨_, sm⟩ => SqL.of (sm _ _ hr15)) ?_ ?_⟩
        · rintro i y H16 hy ⟨hDl, sm⟩
          obtain ⟨u, hu, rfl⟩ := txt_at hy
          have hi' := (List.getElem?_eq_some_iff.mp hu).1
          have hu2 := (hwd u (List.mem_of_getElem? hu)).2.1
          refine ⟨rfl, _, rfl, _, rfl, le_size (by rw [SX.S_len]; omega), _, hDl, lt_size (by rw [nums_len, List.length_map, List.length_take]; omega), ?_, sm.updNew hD⟩
          rw [upd_same, ← take_snoc hu, SX.S_len]
          simp [nums]
        · rintro H16 ⟨hDl, sm⟩
          have et : us.take (txts us).length = us := by rw [txts, List.length_map, List.take_length]
          rw [et, hres.lens hls hk0] at hDl
          refine ⟨_, rfl, ne_nums hDl (sm _ _ (s15 _ _ hq13)) ⟨false, rfl, iteF ?_⟩⟩
          exact ⟨_, _, _, _, _, _, rfl, (st13.same s15).same sm⟩
    · rintro σ H2 ⟨v2, v3, v4, v5, v6, v7, rfl, st2⟩
      exact k _
end
end J


set_option Elab.async false
set_option linter.all false
set_option maxRecDepth 100000
set_option maxHeartbeats 4000000
namespace J
open PySem L2
theorem all_mk {l : PySem.W.OpenLaw} {w : World} {K : PySem.W.Frag} {h : Heap} {mg : Str → Option Value} {fa f_InvalidLoom_init f_InvalidLengths_init f_is_number f_is_sequence f_is_signs f_is_string_over f_is_word f_first_wrong f_check_signs f_is_arc f_Loom_init f_Loom_eq f_book f_text_at f_book_of_lengths f_l_take f_l_signs f_l_is_plain f_l_lengths f_l_behind f_l_due f_law C_InvalidLengths C_InvalidLoom C_Loom : Addr} (X : K.In h) (G : h.Ns mainGlobals mg) (hfa : mg "law" = some (.ref fa))
    {od_InvalidLoom_init an_InvalidLoom_init : Option Addr} {sl_InvalidLoom_init : Array (Option Value)} {oc_InvalidLoom_init kV_InvalidLoom_init dc_InvalidLoom_init pm_InvalidLoom_init cd_InvalidLoom_init ct_InvalidLoom_init : Value}
    {od_InvalidLengths_init an_InvalidLengths_init : Option Addr} {sl_InvalidLengths_init : Array (Option Value)} {oc_InvalidLengths_init kV_InvalidLengths_init dc_InvalidLengths_init pm_InvalidLengths_init cd_InvalidLengths_init ct_InvalidLengths_init : Value}
    {od_is_number an_is_number : Option Addr} {sl_is_number : Array (Option Value)} {oc_is_number kV_is_number dc_is_number pm_is_number cd_is_number ct_is_number : Value}
    {od_is_sequence an_is_sequence : Option Addr} {sl_is_sequence : Array (Option Value)} {oc_is_sequence kV_is_sequence dc_is_sequence pm_is_sequence cd_is_sequence ct_is_sequence : Value}
    {od_is_signs an_is_signs : Option Addr} {sl_is_signs : Array (Option Value)} {oc_is_signs kV_is_signs dc_is_signs pm_is_signs cd_is_signs ct_is_signs : Value}
    {od_is_string_over an_is_string_over : Option Addr} {sl_is_string_over : Array (Option Value)} {oc_is_string_over kV_is_string_over dc_is_string_over pm_is_string_over cd_is_string_over ct_is_string_over : Value}
    {od_is_word an_is_word : Option Addr} {sl_is_word : Array (Option Value)} {oc_is_word kV_is_word dc_is_word pm_is_word cd_is_word ct_is_word : Value}
    {od_first_wrong an_first_wrong : Option Addr} {sl_first_wrong : Array (Option Value)} {oc_first_wrong kV_first_wrong dc_first_wrong pm_first_wrong cd_first_wrong ct_first_wrong : Value}
    {od_check_signs an_check_signs : Option Addr} {sl_check_signs : Array (Option Value)} {oc_check_signs kV_check_signs dc_check_signs pm_check_signs cd_check_signs ct_check_signs : Value}
    {od_is_arc an_is_arc : Option Addr} {sl_is_arc : Array (Option Value)} {oc_is_arc kV_is_arc dc_is_arc pm_is_arc cd_is_arc ct_is_arc : Value}
    {od_Loom_init an_Loom_init : Option Addr} {sl_Loom_init : Array (Option Value)} {oc_Loom_init kV_Loom_init dc_Loom_init pm_Loom_init cd_Loom_init ct_Loom_init : Value}
    {od_Loom_eq an_Loom_eq : Option Addr} {sl_Loom_eq : Array (Option Value)} {oc_Loom_eq kV_Loom_eq dc_Loom_eq pm_Loom_eq cd_Loom_eq ct_Loom_eq : Value}
    {od_book an_book : Option Addr} {sl_book : Array (Option Value)} {oc_book kV_book dc_book pm_book cd_book ct_book : Value}
    {od_text_at an_text_at : Option Addr} {sl_text_at : Array (Option Value)} {oc_text_at kV_text_at dc_text_at pm_text_at cd_text_at ct_text_at : Value}
    {od_book_of_lengths an_book_of_lengths : Option Addr} {sl_book_of_lengths : Array (Option Value)} {oc_book_of_lengths kV_book_of_lengths dc_book_of_lengths pm_book_of_lengths cd_book_of_lengths ct_book_of_lengths : Value}
    {od_l_take an_l_take : Option Addr} {sl_l_take : Array (Option Value)} {oc_l_take kV_l_take dc_l_take pm_l_take cd_l_take ct_l_take : Value}
    {od_l_signs an_l_signs : Option Addr} {sl_l_signs : Array (Option Value)} {oc_l_signs kV_l_signs dc_l_signs pm_l_signs cd_l_signs ct_l_signs : Value}
    {od_l_is_plain an_l_is_plain : Option Addr} {sl_l_is_plain : Array (Option Value)} {oc_l_is_plain kV_l_is_plain dc_l_is_plain pm_l_is_plain cd_l_is_plain ct_l_is_plain : Value}
    {od_l_lengths an_l_lengths : Option Addr} {sl_l_lengths : Array (Option Value)} {oc_l_lengths kV_l_lengths dc_l_lengths pm_l_lengths cd_l_lengths ct_l_lengths : Value}
    {od_l_behind an_l_behind : Option Addr} {sl_l_behind : Array (Option Value)} {oc_l_behind kV_l_behind dc_l_behind pm_l_behind cd_l_behind ct_l_behind : Value}
    {od_l_due an_l_due : Option Addr} {sl_l_due : Array (Option Value)} {oc_l_due kV_l_due dc_l_due pm_l_due cd_l_due ct_l_due : Value}
    {od_law an_law : Option Addr} {sl_law : Array (Option Value)} {oc_law kV_law dc_law pm_law cd_law ct_law : Value}
    {t_MOST_SIGNS : Tok}
    {t_LONGEST_WORD : Tok}
    {t_LAST_STATE : Tok}
    {t_MOST_ARCS : Tok}
    {t_MOST_LENGTHS : Tok}
    (a_CLoom : PySem.W.nsIn K mainGlobals "Loom" = some (some (.ref C_Loom)))
    (a_CInvalidLoom : PySem.W.nsIn K mainGlobals "InvalidLoom" = some (some (.ref C_InvalidLoom)))
    (a_CInvalidLengths : PySem.W.nsIn K mainGlobals "InvalidLengths" = some (some (.ref C_InvalidLengths)))
    (a_InvalidLoom_init : PySem.W.findIn K (.ref C_InvalidLoom) "__init__" = some (some (.ref f_InvalidLoom_init)))
    (i_InvalidLoom_init : PySem.W.isFn K (.ref f_InvalidLoom_init) = true)
    (l_InvalidLoom_init : K.lookup f_InvalidLoom_init = some ⟨oc_InvalidLoom_init, od_InvalidLoom_init, .func (PySem.W.fnOf "__init__" "InvalidLoom.__init__" (defArgs s_InvalidLoom_init) (defBody s_InvalidLoom_init) (defScope s_InvalidLoom_init) .none kV_InvalidLoom_init dc_InvalidLoom_init pm_InvalidLoom_init an_InvalidLoom_init cd_InvalidLoom_init ct_InvalidLoom_init), sl_InvalidLoom_init⟩)
    (c_InvalidLoom_init : PySem.W.codeIn K cd_InvalidLoom_init "InvalidLoom.__init__" = true)
    (k_InvalidLoom_init : PySem.W.keepIn K (.ref f_InvalidLoom_init) = true)
    (a_InvalidLengths_init : PySem.W.findIn K (.ref C_InvalidLengths) "__init__" = some (some (.ref f_InvalidLengths_init)))
    (i_InvalidLengths_init : PySem.W.isFn K (.ref f_InvalidLengths_init) = true)
    (l_InvalidLengths_init : K.lookup f_InvalidLengths_init = some ⟨oc_InvalidLengths_init, od_InvalidLengths_init, .func (PySem.W.fnOf "__init__" "InvalidLengths.__init__" (defArgs s_InvalidLengths_init) (defBody s_InvalidLengths_init) (defScope s_InvalidLengths_init) .none kV_InvalidLengths_init dc_InvalidLengths_init pm_InvalidLengths_init an_InvalidLengths_init cd_InvalidLengths_init ct_InvalidLengths_init), sl_InvalidLengths_init⟩)
    (c_InvalidLengths_init : PySem.W.codeIn K cd_InvalidLengths_init "InvalidLengths.__init__" = true)
    (k_InvalidLengths_init : PySem.W.keepIn K (.ref f_InvalidLengths_init) = true)
    (a_is_number : PySem.W.nsIn K mainGlobals "is_number" = some (some (.ref f_is_number)))
    (l_is_number : K.lookup f_is_number = some ⟨oc_is_number, od_is_number, .func (PySem.W.fnOf "is_number" "is_number" (defArgs s_is_number) (defBody s_is_number) (defScope s_is_number) .none kV_is_number dc_is_number pm_is_number an_is_number cd_is_number ct_is_number), sl_is_number⟩)
    (c_is_number : PySem.W.codeIn K cd_is_number "is_number" = true)
    (k_is_number : PySem.W.keepIn K (.ref f_is_number) = true)
    (a_is_sequence : PySem.W.nsIn K mainGlobals "is_sequence" = some (some (.ref f_is_sequence)))
    (l_is_sequence : K.lookup f_is_sequence = some ⟨oc_is_sequence, od_is_sequence, .func (PySem.W.fnOf "is_sequence" "is_sequence" (defArgs s_is_sequence) (defBody s_is_sequence) (defScope s_is_sequence) .none kV_is_sequence dc_is_sequence pm_is_sequence an_is_sequence cd_is_sequence ct_is_sequence), sl_is_sequence⟩)
    (c_is_sequence : PySem.W.codeIn K cd_is_sequence "is_sequence" = true)
    (k_is_sequence : PySem.W.keepIn K (.ref f_is_sequence) = true)
    (a_is_signs : PySem.W.nsIn K mainGlobals "is_signs" = some (some (.ref f_is_signs)))
    (l_is_signs : K.lookup f_is_signs = some ⟨oc_is_signs, od_is_signs, .func (PySem.W.fnOf "is_signs" "is_signs" (defArgs s_is_signs) (defBody s_is_signs) (defScope s_is_signs) .none kV_is_signs dc_is_signs pm_is_signs an_is_signs cd_is_signs ct_is_signs), sl_is_signs⟩)
    (c_is_signs : PySem.W.codeIn K cd_is_signs "is_signs" = true)
    (k_is_signs : PySem.W.keepIn K (.ref f_is_signs) = true)
    (a_is_string_over : PySem.W.nsIn K mainGlobals "is_string_over" = some (some (.ref f_is_string_over)))
    (l_is_string_over : K.lookup f_is_string_over = some ⟨oc_is_string_over, od_is_string_over, .func (PySem.W.fnOf "is_string_over" "is_string_over" (defArgs s_is_string_over) (defBody s_is_string_over) (defScope s_is_string_over) .none kV_is_string_over dc_is_string_over pm_is_string_over an_is_string_over cd_is_string_over ct_is_string_over), sl_is_string_over⟩)
    (c_is_string_over : PySem.W.codeIn K cd_is_string_over "is_string_over" = true)
    (k_is_string_over : PySem.W.keepIn K (.ref f_is_string_over) = true)
    (a_is_word : PySem.W.nsIn K mainGlobals "is_word" = some (some (.ref f_is_word)))
    (l_is_word : K.lookup f_is_word = some ⟨oc_is_word, od_is_word, .func (PySem.W.fnOf "is_word" "is_word" (defArgs s_is_word) (defBody s_is_word) (defScope s_is_word) .none kV_is_word dc_is_word pm_is_word an_is_word cd_is_word ct_is_word), sl_is_word⟩)
    (c_is_word : PySem.W.codeIn K cd_is_word "is_word" = true)
    (k_is_word : PySem.W.keepIn K (.ref f_is_word) = true)
    (a_first_wrong : PySem.W.nsIn K mainGlobals "first_wrong" = some (some (.ref f_first_wrong)))
    (l_first_wrong : K.lookup f_first_wrong = some ⟨oc_first_wrong, od_first_wrong, .func (PySem.W.fnOf "first_wrong" "first_wrong" (defArgs s_first_wrong) (defBody s_first_wrong) (defScope s_first_wrong) .none kV_first_wrong dc_first_wrong pm_first_wrong an_first_wrong cd_first_wrong ct_first_wrong), sl_first_wrong⟩)
    (c_first_wrong : PySem.W.codeIn K cd_first_wrong "first_wrong" = true)
    (k_first_wrong : PySem.W.keepIn K (.ref f_first_wrong) = true)
    (a_check_signs : PySem.W.nsIn K mainGlobals "check_signs" = some (some (.ref f_check_signs)))
    (l_check_signs : K.lookup f_check_signs = some ⟨oc_check_signs, od_check_signs, .func (PySem.W.fnOf "check_signs" "check_signs" (defArgs s_check_signs) (defBody s_check_signs) (defScope s_check_signs) .none kV_check_signs dc_check_signs pm_check_signs an_check_signs cd_check_signs ct_check_signs), sl_check_signs⟩)
    (c_check_signs : PySem.W.codeIn K cd_check_signs "check_signs" = true)
    (k_check_signs : PySem.W.keepIn K (.ref f_check_signs) = true)
    (a_is_arc : PySem.W.nsIn K mainGlobals "is_arc" = some (some (.ref f_is_arc)))
    (l_is_arc : K.lookup f_is_arc = some ⟨oc_is_arc, od_is_arc, .func (PySem.W.fnOf "is_arc" "is_arc" (defArgs s_is_arc) (defBody s_is_arc) (defScope s_is_arc) .none kV_is_arc dc_is_arc pm_is_arc an_is_arc cd_is_arc ct_is_arc), sl_is_arc⟩)
    (c_is_arc : PySem.W.codeIn K cd_is_arc "is_arc" = true)
    (k_is_arc : PySem.W.keepIn K (.ref f_is_arc) = true)
    (a_Loom_init : PySem.W.findIn K (.ref C_Loom) "__init__" = some (some (.ref f_Loom_init)))
    (i_Loom_init : PySem.W.isFn K (.ref f_Loom_init) = true)
    (l_Loom_init : K.lookup f_Loom_init = some ⟨oc_Loom_init, od_Loom_init, .func (PySem.W.fnOf "__init__" "Loom.__init__" (defArgs s_Loom_init) (defBody s_Loom_init) (defScope s_Loom_init) .none kV_Loom_init dc_Loom_init pm_Loom_init an_Loom_init cd_Loom_init ct_Loom_init), sl_Loom_init⟩)
    (c_Loom_init : PySem.W.codeIn K cd_Loom_init "Loom.__init__" = true)
    (k_Loom_init : PySem.W.keepIn K (.ref f_Loom_init) = true)
    (a_Loom_eq : PySem.W.findIn K (.ref C_Loom) "__eq__" = some (some (.ref f_Loom_eq)))
    (l_Loom_eq : K.lookup f_Loom_eq = some ⟨oc_Loom_eq, od_Loom_eq, .func (PySem.W.fnOf "__eq__" "Loom.__eq__" (defArgs s_Loom_eq) (defBody s_Loom_eq) (defScope s_Loom_eq) .none kV_Loom_eq dc_Loom_eq pm_Loom_eq an_Loom_eq cd_Loom_eq ct_Loom_eq), sl_Loom_eq⟩)
    (c_Loom_eq : PySem.W.codeIn K cd_Loom_eq "Loom.__eq__" = true)
    (k_Loom_eq : PySem.W.keepIn K (.ref f_Loom_eq) = true)
    (a_book : PySem.W.nsIn K mainGlobals "book" = some (some (.ref f_book)))
    (l_book : K.lookup f_book = some ⟨oc_book, od_book, .func (PySem.W.fnOf "book" "book" (defArgs s_book) (defBody s_book) (defScope s_book) .none kV_book dc_book pm_book an_book cd_book ct_book), sl_book⟩)
    (c_book : PySem.W.codeIn K cd_book "book" = true)
    (k_book : PySem.W.keepIn K (.ref f_book) = true)
    (a_text_at : PySem.W.nsIn K mainGlobals "text_at" = some (some (.ref f_text_at)))
    (l_text_at : K.lookup f_text_at = some ⟨oc_text_at, od_text_at, .func (PySem.W.fnOf "text_at" "text_at" (defArgs s_text_at) (defBody s_text_at) (defScope s_text_at) .none kV_text_at dc_text_at pm_text_at an_text_at cd_text_at ct_text_at), sl_text_at⟩)
    (c_text_at : PySem.W.codeIn K cd_text_at "text_at" = true)
    (k_text_at : PySem.W.keepIn K (.ref f_text_at) = true)
    (a_book_of_lengths : PySem.W.nsIn K mainGlobals "book_of_lengths" = some (some (.ref f_book_of_lengths)))
    (l_book_of_lengths : K.lookup f_book_of_lengths = some ⟨oc_book_of_lengths, od_book_of_lengths, .func (PySem.W.fnOf "book_of_lengths" "book_of_lengths" (defArgs s_book_of_lengths) (defBody s_book_of_lengths) (defScope s_book_of_lengths) .none kV_book_of_lengths dc_book_of_lengths pm_book_of_lengths an_book_of_lengths cd_book_of_lengths ct_book_of_lengths), sl_book_of_lengths⟩)
    (c_book_of_lengths : PySem.W.codeIn K cd_book_of_lengths "book_of_lengths" = true)
    (k_book_of_lengths : PySem.W.keepIn K (.ref f_book_of_lengths) = true)
    (a_l_take : PySem.W.nsIn K mainGlobals "_law_take" = some (some (.ref f_l_take)))
    (l_l_take : K.lookup f_l_take = some ⟨oc_l_take, od_l_take, .func (PySem.W.fnOf "_law_take" "_law_take" (defArgs s_l_take) (defBody s_l_take) (defScope s_l_take) .none kV_l_take dc_l_take pm_l_take an_l_take cd_l_take ct_l_take), sl_l_take⟩)
    (c_l_take : PySem.W.codeIn K cd_l_take "_law_take" = true)
    (k_l_take : PySem.W.keepIn K (.ref f_l_take) = true)
    (a_l_signs : PySem.W.nsIn K mainGlobals "_law_signs" = some (some (.ref f_l_signs)))
    (l_l_signs : K.lookup f_l_signs = some ⟨oc_l_signs, od_l_signs, .func (PySem.W.fnOf "_law_signs" "_law_signs" (defArgs s_l_signs) (defBody s_l_signs) (defScope s_l_signs) .none kV_l_signs dc_l_signs pm_l_signs an_l_signs cd_l_signs ct_l_signs), sl_l_signs⟩)
    (c_l_signs : PySem.W.codeIn K cd_l_signs "_law_signs" = true)
    (k_l_signs : PySem.W.keepIn K (.ref f_l_signs) = true)
    (a_l_is_plain : PySem.W.nsIn K mainGlobals "_law_is_plain" = some (some (.ref f_l_is_plain)))
    (l_l_is_plain : K.lookup f_l_is_plain = some ⟨oc_l_is_plain, od_l_is_plain, .func (PySem.W.fnOf "_law_is_plain" "_law_is_plain" (defArgs s_l_is_plain) (defBody s_l_is_plain) (defScope s_l_is_plain) .none kV_l_is_plain dc_l_is_plain pm_l_is_plain an_l_is_plain cd_l_is_plain ct_l_is_plain), sl_l_is_plain⟩)
    (c_l_is_plain : PySem.W.codeIn K cd_l_is_plain "_law_is_plain" = true)
    (k_l_is_plain : PySem.W.keepIn K (.ref f_l_is_plain) = true)
    (a_l_lengths : PySem.W.nsIn K mainGlobals "_law_lengths" = some (some (.ref f_l_lengths)))
    (l_l_lengths : K.lookup f_l_lengths = some ⟨oc_l_lengths, od_l_lengths, .func (PySem.W.fnOf "_law_lengths" "_law_lengths" (defArgs s_l_lengths) (defBody s_l_lengths) (defScope s_l_lengths) .none kV_l_lengths dc_l_lengths pm_l_lengths an_l_lengths cd_l_lengths ct_l_lengths), sl_l_lengths⟩)
    (c_l_lengths : PySem.W.codeIn K cd_l_lengths "_law_lengths" = true)
    (k_l_lengths : PySem.W.keepIn K (.ref f_l_lengths) = true)
    (a_l_behind : PySem.W.nsIn K mainGlobals "_law_behind" = some (some (.ref f_l_behind)))
    (l_l_behind : K.lookup f_l_behind = some ⟨oc_l_behind, od_l_behind, .func (PySem.W.fnOf "_law_behind" "_law_behind" (defArgs s_l_behind) (defBody s_l_behind) (defScope s_l_behind) .none kV_l_behind dc_l_behind pm_l_behind an_l_behind cd_l_behind ct_l_behind), sl_l_behind⟩)
    (c_l_behind : PySem.W.codeIn K cd_l_behind "_law_behind" = true)
    (k_l_behind : PySem.W.keepIn K (.ref f_l_behind) = true)
    (a_l_due : PySem.W.nsIn K mainGlobals "_law_due" = some (some (.ref f_l_due)))
    (l_l_due : K.lookup f_l_due = some ⟨oc_l_due, od_l_due, .func (PySem.W.fnOf "_law_due" "_law_due" (defArgs s_l_due) (defBody s_l_due) (defScope s_l_due) .none kV_l_due dc_l_due pm_l_due an_l_due cd_l_due ct_l_due), sl_l_due⟩)
    (c_l_due : PySem.W.codeIn K cd_l_due "_law_due" = true)
    (k_l_due : PySem.W.keepIn K (.ref f_l_due) = true)
    (a_law : PySem.W.nsIn K mainGlobals "law" = some (some (.ref f_law)))
    (l_law : K.lookup f_law = some ⟨oc_law, od_law, .func (PySem.W.fnOf "law" "law" (defArgs s_law) (defBody s_law) (defScope s_law) .none kV_law dc_law pm_law an_law cd_law ct_law), sl_law⟩)
    (c_law : PySem.W.codeIn K cd_law "law" = true)
    (k_law : PySem.W.keepIn K (.ref f_law) = true)
    (pg_Loom : PySem.W.plainGet K C_Loom Str.empty = true)
    (hd_Loom : PySem.W.hasDictIn K C_Loom = true)
    (po_Loom : PySem.W.plainOver K C_Loom = true)
    (sa_Loom : PySem.W.findIn K (.ref C_Loom) "__setattr__" = some (some (.builtin "object.__setattr__")))
    (mk_Loom : PySem.W.makesIn K C_Loom = true)
    (kc_Loom : PySem.W.keepIn K (.ref C_Loom) = true)
    (na_Loom_signs : PySem.W.findIn K (.ref C_Loom) "signs" = some none)
    (na_Loom_arcs : PySem.W.findIn K (.ref C_Loom) "arcs" = some none)
    (ic_Loom : PySem.W.findIn K (.ref C_Loom) "__class__" = some (some (.builtin "object.__class__")))
    (ig : PySem.W.specialIn K (.builtin "object.__class__") "__get__" = some (some (.builtin "getset_descriptor.__get__")))
    (it : PySem.W.takesIn K (.builtin "object.__class__") = some true)
    (im_Loom : PySem.W.mroIn K C_Loom (.type "object") = some true)
    (eq_Loom : PySem.W.findIn K (.ref C_Loom) "__eq__" = some (some (.ref f_Loom_eq)))
    (fn_Loom_eq : PySem.W.isFn K (.ref f_Loom_eq) = true)
    (ne_Loom : PySem.W.findIn K (.ref C_Loom) "__ne__" = some (some (.builtin "object.__ne__")))
    (cc_Loom : PySem.W.isClsIn K C_Loom = true)
    (ty_Loom : PySem.W.typeIn K (.ref C_Loom) = some (.type "type"))
    (z_all : PySem.W.nsIn K mainGlobals "all" = some none)
    (z_bool : PySem.W.nsIn K mainGlobals "bool" = some none)
    (z_enumerate : PySem.W.nsIn K mainGlobals "enumerate" = some none)
    (z_int : PySem.W.nsIn K mainGlobals "int" = some none)
    (z_isinstance : PySem.W.nsIn K mainGlobals "isinstance" = some none)
    (z_len : PySem.W.nsIn K mainGlobals "len" = some none)
    (z_list : PySem.W.nsIn K mainGlobals "list" = some none)
    (z_range : PySem.W.nsIn K mainGlobals "range" = some none)
    (z_sorted : PySem.W.nsIn K mainGlobals "sorted" = some none)
    (z_str : PySem.W.nsIn K mainGlobals "str" = some none)
    (z_tuple : PySem.W.nsIn K mainGlobals "tuple" = some none)
    (z_zip : PySem.W.nsIn K mainGlobals "zip" = some none)
    (g_MOST_SIGNS : PySem.W.nsIn K mainGlobals "MOST_SIGNS" = some (some (.int 4 t_MOST_SIGNS)))
    (g_LONGEST_WORD : PySem.W.nsIn K mainGlobals "LONGEST_WORD" = some (some (.int 12 t_LONGEST_WORD)))
    (g_LAST_STATE : PySem.W.nsIn K mainGlobals "LAST_STATE" = some (some (.int 63 t_LAST_STATE)))
    (g_MOST_ARCS : PySem.W.nsIn K mainGlobals "MOST_ARCS" = some (some (.int 200 t_MOST_ARCS)))
    (g_MOST_LENGTHS : PySem.W.nsIn K mainGlobals "MOST_LENGTHS" = some (some (.int 12 t_MOST_LENGTHS)))
    : ∃ fd : FuncData, (∀ (s : Shared) (v : Value), BindsTo s fd ⟨[v], []⟩ [("_law_script", v)]) ∧ ∀ base : Heap, K.In base → base.Ns mainGlobals mg → FnOk l.prog w K mg base CX0 9 fa fd P_law (spLaw K) := by
  have e := hfa.symm.trans (PySem.W.mg_of X G a_law)
  cases e
  have F_InvalidLoom_init := fun_mk (st := s_InvalidLoom_init) l_InvalidLoom_init c_InvalidLoom_init k_InvalidLoom_init
  have b_InvalidLoom_init := F_InvalidLoom_init.binds (ps := P_InvalidLoom_init) fun _ _ _ _ _ _ us hl => match us, hl with | [_, _, _], _ => rfl
  have F_InvalidLengths_init := fun_mk (st := s_InvalidLengths_init) l_InvalidLengths_init c_InvalidLengths_init k_InvalidLengths_init
  have b_InvalidLengths_init := F_InvalidLengths_init.binds (ps := P_InvalidLengths_init) fun _ _ _ _ _ _ us hl => match us, hl with | [_, _], _ => rfl
  have F_is_number := fun_mk (st := s_is_number) l_is_number c_is_number k_is_number
  have b_is_number := F_is_number.binds (ps := P_is_number) fun _ _ _ _ _ _ us hl => match us, hl with | [_, _, _], _ => rfl
  have F_is_sequence := fun_mk (st := s_is_sequence) l_is_sequence c_is_sequence k_is_sequence
  have b_is_sequence := F_is_sequence.binds (ps := P_is_sequence) fun _ _ _ _ _ _ us hl => match us, hl with | [_, _, _], _ => rfl
  have F_is_signs := fun_mk (st := s_is_signs) l_is_signs c_is_signs k_is_signs
  have b_is_signs := F_is_signs.binds (ps := P_is_signs) fun _ _ _ _ _ _ us hl => match us, hl with | [_], _ => rfl
  have F_is_string_over := fun_mk (st := s_is_string_over) l_is_string_over c_is_string_over k_is_string_over
  have b_is_string_over := F_is_string_over.binds (ps := P_is_string_over) fun _ _ _ _ _ _ us hl => match us, hl with | [_, _, _, _], _ => rfl
  have F_is_word := fun_mk (st := s_is_word) l_is_word c_is_word k_is_word
  have b_is_word := F_is_word.binds (ps := P_is_word) fun _ _ _ _ _ _ us hl => match us, hl with | [_, _], _ => rfl
  have F_first_wrong := fun_mk (st := s_first_wrong) l_first_wrong c_first_wrong k_first_wrong
  have b_first_wrong := F_first_wrong.binds (ps := P_first_wrong) fun _ _ _ _ _ _ us hl => match us, hl with | [_, _, _, _, _], _ => rfl
  have F_check_signs := fun_mk (st := s_check_signs) l_check_signs c_check_signs k_check_signs
  have b_check_signs := F_check_signs.binds (ps := P_check_signs) fun _ _ _ _ _ _ us hl => match us, hl with | [_], _ => rfl
  have F_is_arc := fun_mk (st := s_is_arc) l_is_arc c_is_arc k_is_arc
  have b_is_arc := F_is_arc.binds (ps := P_is_arc) fun _ _ _ _ _ _ us hl => match us, hl with | [_, _], _ => rfl
  have F_Loom_init := fun_mk (st := s_Loom_init) l_Loom_init c_Loom_init k_Loom_init
  have b_Loom_init := F_Loom_init.binds (ps := P_Loom_init) fun _ _ _ _ _ _ us hl => match us, hl with | [_, _, _], _ => rfl
  have F_Loom_eq := fun_mk (st := s_Loom_eq) l_Loom_eq c_Loom_eq k_Loom_eq
  have b_Loom_eq := F_Loom_eq.binds (ps := P_Loom_eq) fun _ _ _ _ _ _ us hl => match us, hl with | [_, _], _ => rfl
  have F_book := fun_mk (st := s_book) l_book c_book k_book
  have b_book := F_book.binds (ps := P_book) fun _ _ _ _ _ _ us hl => match us, hl with | [_, _], _ => rfl
  have F_text_at := fun_mk (st := s_text_at) l_text_at c_text_at k_text_at
  have b_text_at := F_text_at.binds (ps := P_text_at) fun _ _ _ _ _ _ us hl => match us, hl with | [_, _, _], _ => rfl
  have F_book_of_lengths := fun_mk (st := s_book_of_lengths) l_book_of_lengths c_book_of_lengths k_book_of_lengths
  have b_book_of_lengths := F_book_of_lengths.binds (ps := P_book_of_lengths) fun _ _ _ _ _ _ us hl => match us, hl with | [_, _], _ => rfl
  have F_l_take := fun_mk (st := s_l_take) l_l_take c_l_take k_l_take
  have b_l_take := F_l_take.binds (ps := P_l_take) fun _ _ _ _ _ _ us hl => match us, hl with | [_, _, _], _ => rfl
  have F_l_signs := fun_mk (st := s_l_signs) l_l_signs c_l_signs k_l_signs
  have b_l_signs := F_l_signs.binds (ps := P_l_signs) fun _ _ _ _ _ _ us hl => match us, hl with | [_, _], _ => rfl
  have F_l_is_plain := fun_mk (st := s_l_is_plain) l_l_is_plain c_l_is_plain k_l_is_plain
  have b_l_is_plain := F_l_is_plain.binds (ps := P_l_is_plain) fun _ _ _ _ _ _ us hl => match us, hl with | [_], _ => rfl
  have F_l_lengths := fun_mk (st := s_l_lengths) l_l_lengths c_l_lengths k_l_lengths
  have b_l_lengths := F_l_lengths.binds (ps := P_l_lengths) fun _ _ _ _ _ _ us hl => match us, hl with | [_, _], _ => rfl
  have F_l_behind := fun_mk (st := s_l_behind) l_l_behind c_l_behind k_l_behind
  have b_l_behind := F_l_behind.binds (ps := P_l_behind) fun _ _ _ _ _ _ us hl => match us, hl with | [_, _], _ => rfl
  have F_l_due := fun_mk (st := s_l_due) l_l_due c_l_due k_l_due
  have b_l_due := F_l_due.binds (ps := P_l_due) fun _ _ _ _ _ _ us hl => match us, hl with | [_, _], _ => rfl
  have F_law := fun_mk (st := s_law) l_law c_law k_law
  have b_law := F_law.binds (ps := P_law) fun _ _ _ _ _ _ us hl => match us, hl with | [_], _ => rfl
  exact ⟨_, fun s v => .of_eq rfl, fun base _ _ => ok_law {
    f_InvalidLoom_init := _
    fd_InvalidLoom_init := _
    F_InvalidLoom_init := F_InvalidLoom_init
    b_InvalidLoom_init := b_InvalidLoom_init
    f_InvalidLengths_init := _
    fd_InvalidLengths_init := _
    F_InvalidLengths_init := F_InvalidLengths_init
    b_InvalidLengths_init := b_InvalidLengths_init
    f_is_number := _
    fd_is_number := _
    F_is_number := F_is_number
    b_is_number := b_is_number
    m_is_number := PySem.W.mg_of X G a_is_number
    f_is_sequence := _
    fd_is_sequence := _
    F_is_sequence := F_is_sequence
    b_is_sequence := b_is_sequence
    m_is_sequence := PySem.W.mg_of X G a_is_sequence
    f_is_signs := _
    fd_is_signs := _
    F_is_signs := F_is_signs
    b_is_signs := b_is_signs
    m_is_signs := PySem.W.mg_of X G a_is_signs
    f_is_string_over := _
    fd_is_string_over := _
    F_is_string_over := F_is_string_over
    b_is_string_over := b_is_string_over
    m_is_string_over := PySem.W.mg_of X G a_is_string_over
    f_is_word := _
    fd_is_word := _
    F_is_word := F_is_word
    b_is_word := b_is_word
    m_is_word := PySem.W.mg_of X G a_is_word
    f_first_wrong := _
    fd_first_wrong := _
    F_first_wrong := F_first_wrong
    b_first_wrong := b_first_wrong
    m_first_wrong := PySem.W.mg_of X G a_first_wrong
    f_check_signs := _
    fd_check_signs := _
    F_check_signs := F_check_signs
    b_check_signs := b_check_signs
    m_check_signs := PySem.W.mg_of X G a_check_signs
    f_is_arc := _
    fd_is_arc := _
    F_is_arc := F_is_arc
    b_is_arc := b_is_arc
    m_is_arc := PySem.W.mg_of X G a_is_arc
    f_Loom_init := _
    fd_Loom_init := _
    F_Loom_init := F_Loom_init
    b_Loom_init := b_Loom_init
    f_Loom_eq := _
    fd_Loom_eq := _
    F_Loom_eq := F_Loom_eq
    b_Loom_eq := b_Loom_eq
    f_book := _
    fd_book := _
    F_book := F_book
    b_book := b_book
    m_book := PySem.W.mg_of X G a_book
    f_text_at := _
    fd_text_at := _
    F_text_at := F_text_at
    b_text_at := b_text_at
    m_text_at := PySem.W.mg_of X G a_text_at
    f_book_of_lengths := _
    fd_book_of_lengths := _
    F_book_of_lengths := F_book_of_lengths
    b_book_of_lengths := b_book_of_lengths
    m_book_of_lengths := PySem.W.mg_of X G a_book_of_lengths
    f_l_take := _
    fd_l_take := _
    F_l_take := F_l_take
    b_l_take := b_l_take
    m_l_take := PySem.W.mg_of X G a_l_take
    f_l_signs := _
    fd_l_signs := _
    F_l_signs := F_l_signs
    b_l_signs := b_l_signs
    m_l_signs := PySem.W.mg_of X G a_l_signs
    f_l_is_plain := _
    fd_l_is_plain := _
    F_l_is_plain := F_l_is_plain
    b_l_is_plain := b_l_is_plain
    m_l_is_plain := PySem.W.mg_of X G a_l_is_plain
    f_l_lengths := _
    fd_l_lengths := _
    F_l_lengths := F_l_lengths
    b_l_lengths := b_l_lengths
    m_l_lengths := PySem.W.mg_of X G a_l_lengths
    f_l_behind := _
    fd_l_behind := _
    F_l_behind := F_l_behind
    b_l_behind := b_l_behind
    m_l_behind := PySem.W.mg_of X G a_l_behind
    f_l_due := _
    fd_l_due := _
    F_l_due := F_l_due
    b_l_due := b_l_due
    m_l_due := PySem.W.mg_of X G a_l_due
    f_law := _
    fd_law := _
    F_law := F_law
    b_law := b_law
    m_law := PySem.W.mg_of X G a_law
    n_all := PySem.W.mg_none_of X G z_all
    n_bool := PySem.W.mg_none_of X G z_bool
    n_enumerate := PySem.W.mg_none_of X G z_enumerate
    n_int := PySem.W.mg_none_of X G z_int
    n_isinstance := PySem.W.mg_none_of X G z_isinstance
    n_len := PySem.W.mg_none_of X G z_len
    n_list := PySem.W.mg_none_of X G z_list
    n_range := PySem.W.mg_none_of X G z_range
    n_sorted := PySem.W.mg_none_of X G z_sorted
    n_str := PySem.W.mg_none_of X G z_str
    n_tuple := PySem.W.mg_none_of X G z_tuple
    n_zip := PySem.W.mg_none_of X G z_zip
    t_MOST_SIGNS := t_MOST_SIGNS
    g_MOST_SIGNS := PySem.W.mg_of X G g_MOST_SIGNS
    t_LONGEST_WORD := t_LONGEST_WORD
    g_LONGEST_WORD := PySem.W.mg_of X G g_LONGEST_WORD
    t_LAST_STATE := t_LAST_STATE
    g_LAST_STATE := PySem.W.mg_of X G g_LAST_STATE
    t_MOST_ARCS := t_MOST_ARCS
    g_MOST_ARCS := PySem.W.mg_of X G g_MOST_ARCS
    t_MOST_LENGTHS := t_MOST_LENGTHS
    g_MOST_LENGTHS := PySem.W.mg_of X G g_MOST_LENGTHS
    C_Loom := C_Loom
    M_Loom := ⟨mk_Loom, a_Loom_init, i_Loom_init, kc_Loom⟩
    cl_Loom := ⟨pg_Loom, hd_Loom, po_Loom, sa_Loom⟩
    g_Loom := PySem.W.mg_of X G a_CLoom
    na_Loom_signs := na_Loom_signs
    na_Loom_arcs := na_Loom_arcs
    ic_Loom := ic_Loom
    ig := ig
    it := it
    im_Loom := im_Loom
    eq_Loom := eq_Loom
    fn_Loom_eq := fn_Loom_eq
    ne_Loom := ne_Loom
    cc_Loom := cc_Loom
    ty_Loom := ty_Loom }⟩
theorem walk {l : PySem.W.OpenLaw} {q : Program} {loose : List Str} {XP : (Str → Option Value) → Heap → Prop} {YP : World → Heap → Prop} {d : DefRec} {K : Params → PySem.W.Frag} (hn : l.most = some 63) (hdf : d.params.defaults = [])
    (hY : ∀ (w : World) (h : Heap), YP w h → (K w.params).In h)
    (F : ∀ (w : World) (mg : Str → Option Value) (fa : Addr) (h : Heap), (K w.params).In h → h.Ns mainGlobals mg → mg d.name = some (.ref fa) →
      ∃ fd : FuncData, (∀ (s : Shared) (u : Value), BindsTo s fd ⟨[u], []⟩ [("_law_script", u)]) ∧ ∀ base : Heap, (K w.params).In base → base.Ns mainGlobals mg → FnOk l.prog w (K w.params) mg base CX0 9 fa fd P_law (spLaw (K w.params))) :
    PySem.W.WalkO q loose XP YP l.row.toRowW d [] (fun f vs => PySem.call f vs) :=
  L2.walk_of (n := 63) (k := 9) (x := "_law_script") (CX := fun _ => CX0) (sp := fun w => spLaw (K w.params)) hn (by decide) hdf ⟨rfl, by decide, by decide⟩ hY F (fun _ _ a ns hl _ hS => ⟨a, ns, rfl, hS, hl, fun _ => rfl⟩) fun _ _ _ _ _ z => z
end J

open PySem PySem.W PyProof.Rows in
set_option maxRecDepth 100000 in
set_option maxHeartbeats 0 in
theorem PySem.Challenge.cw_onewayread_k46_books_of_lengths_holds : PySem.Challenge.rw_onewayread_k46_books_of_lengths.Holds := by
  w_on; o_law; k_head; (case hw => w_witness2)
  k_fill
  refine J.walk (l := PySem.Challenge.rw_onewayread_k46_books_of_lengths) rfl rfl (fun w h Y => PySem.W.kIn_of Y) ?F
  case F =>
    intro w mg fa h KX G hmg
    refine' J.all_mk KX G hmg ?a_CLoom ?a_CInvalidLoom ?a_CInvalidLengths ?a_InvalidLoom_init ?i_InvalidLoom_init ?l_InvalidLoom_init ?c_InvalidLoom_init ?k_InvalidLoom_init ?a_InvalidLengths_init ?i_InvalidLengths_init ?l_InvalidLengths_init ?c_InvalidLengths_init ?k_InvalidLengths_init ?a_is_number ?l_is_number ?c_is_number ?k_is_number ?a_is_sequence ?l_is_sequence ?c_is_sequence ?k_is_sequence ?a_is_signs ?l_is_signs ?c_is_signs ?k_is_signs ?a_is_string_over ?l_is_string_over ?c_is_string_over ?k_is_string_over ?a_is_word ?l_is_word ?c_is_word ?k_is_word ?a_first_wrong ?l_first_wrong ?c_first_wrong ?k_first_wrong ?a_check_signs ?l_check_signs ?c_check_signs ?k_check_signs ?a_is_arc ?l_is_arc ?c_is_arc ?k_is_arc ?a_Loom_init ?i_Loom_init ?l_Loom_init ?c_Loom_init ?k_Loom_init ?a_Loom_eq ?l_Loom_eq ?c_Loom_eq ?k_Loom_eq ?a_book ?l_book ?c_book ?k_book ?a_text_at ?l_text_at ?c_text_at ?k_text_at ?a_book_of_lengths ?l_book_of_lengths ?c_book_of_lengths ?k_book_of_lengths ?a_l_take ?l_l_take ?c_l_take ?k_l_take ?a_l_signs ?l_l_signs ?c_l_signs ?k_l_signs ?a_l_is_plain ?l_l_is_plain ?c_l_is_plain ?k_l_is_plain ?a_l_lengths ?l_l_lengths ?c_l_lengths ?k_l_lengths ?a_l_behind ?l_l_behind ?c_l_behind ?k_l_behind ?a_l_due ?l_l_due ?c_l_due ?k_l_due ?a_law ?l_law ?c_law ?k_law ?pg_Loom ?hd_Loom ?po_Loom ?sa_Loom ?mk_Loom ?kc_Loom ?na_Loom_signs ?na_Loom_arcs ?ic_Loom ?ig ?it ?im_Loom ?eq_Loom ?fn_Loom_eq ?ne_Loom ?cc_Loom ?ty_Loom ?z_all ?z_bool ?z_enumerate ?z_int ?z_isinstance ?z_len ?z_list ?z_range ?z_sorted ?z_str ?z_tuple ?z_zip ?g_MOST_SIGNS ?g_LONGEST_WORD ?g_LAST_STATE ?g_MOST_ARCS ?g_MOST_LENGTHS
    (case a_CLoom => k_is)
    (case a_CInvalidLoom => k_is)
    (case a_CInvalidLengths => k_is)
    (case a_InvalidLoom_init => k_is)
    (case i_InvalidLoom_init => k_is)
    (case l_InvalidLoom_init => k_is)
    (case c_InvalidLoom_init => k_is)
    (case k_InvalidLoom_init => k_is)
    (case a_InvalidLengths_init => k_is)
    (case i_InvalidLengths_init => k_is)
    (case l_InvalidLengths_init => k_is)
    (case c_InvalidLengths_init => k_is)
    (case k_InvalidLengths_init => k_is)
    (case a_is_number => k_is)
    (case l_is_number => k_is)
    (case c_is_number => k_is)
    (case k_is_number => k_is)
    (case a_is_sequence => k_is)
    (case l_is_sequence => k_is)
    (case c_is_sequence => k_is)
    (case k_is_sequence => k_is)
    (case a_is_signs => k_is)
    (case l_is_signs => k_is)
    (case c_is_signs => k_is)
    (case k_is_signs => k_is)
    (case a_is_string_over => k_is)
    (case l_is_string_over => k_is)
    (case c_is_string_over => k_is)
    (case k_is_string_over => k_is)
    (case a_is_word => k_is)
    (case l_is_word => k_is)
    (case c_is_word => k_is)
    (case k_is_word => k_is)
    (case a_first_wrong => k_is)
    (case l_first_wrong => k_is)
    (case c_first_wrong => k_is)
    (case k_first_wrong => k_is)
    (case a_check_signs => k_is)
    (case l_check_signs => k_is)
    (case c_check_signs => k_is)
    (case k_check_signs => k_is)
    (case a_is_arc => k_is)
    (case l_is_arc => k_is)
    (case c_is_arc => k_is)
    (case k_is_arc => k_is)
    (case a_Loom_init => k_is)
    (case i_Loom_init => k_is)
    (case l_Loom_init => k_is)
    (case c_Loom_init => k_is)
    (case k_Loom_init => k_is)
    (case a_Loom_eq => k_is)
    (case l_Loom_eq => k_is)
    (case c_Loom_eq => k_is)
    (case k_Loom_eq => k_is)
    (case a_book => k_is)
    (case l_book => k_is)
    (case c_book => k_is)
    (case k_book => k_is)
    (case a_text_at => k_is)
    (case l_text_at => k_is)
    (case c_text_at => k_is)
    (case k_text_at => k_is)
    (case a_book_of_lengths => k_is)
    (case l_book_of_lengths => k_is)
    (case c_book_of_lengths => k_is)
    (case k_book_of_lengths => k_is)
    (case a_l_take => k_is)
    (case l_l_take => k_is)
    (case c_l_take => k_is)
    (case k_l_take => k_is)
    (case a_l_signs => k_is)
    (case l_l_signs => k_is)
    (case c_l_signs => k_is)
    (case k_l_signs => k_is)
    (case a_l_is_plain => k_is)
    (case l_l_is_plain => k_is)
    (case c_l_is_plain => k_is)
    (case k_l_is_plain => k_is)
    (case a_l_lengths => k_is)
    (case l_l_lengths => k_is)
    (case c_l_lengths => k_is)
    (case k_l_lengths => k_is)
    (case a_l_behind => k_is)
    (case l_l_behind => k_is)
    (case c_l_behind => k_is)
    (case k_l_behind => k_is)
    (case a_l_due => k_is)
    (case l_l_due => k_is)
    (case c_l_due => k_is)
    (case k_l_due => k_is)
    (case a_law => k_is)
    (case l_law => k_is)
    (case c_law => k_is)
    (case k_law => k_is)
    (case pg_Loom => k_is)
    (case hd_Loom => k_is)
    (case po_Loom => k_is)
    (case sa_Loom => k_is)
    (case mk_Loom => k_is)
    (case kc_Loom => k_is)
    (case na_Loom_signs => k_is)
    (case na_Loom_arcs => k_is)
    (case ic_Loom => k_is)
    (case ig => k_is)
    (case it => k_is)
    (case im_Loom => k_is)
    (case eq_Loom => k_is)
    (case fn_Loom_eq => k_is)
    (case ne_Loom => k_is)
    (case cc_Loom => k_is)
    (case ty_Loom => k_is)
    (case z_all => k_is)
    (case z_bool => k_is)
    (case z_enumerate => k_is)
    (case z_int => k_is)
    (case z_isinstance => k_is)
    (case z_len => k_is)
    (case z_list => k_is)
    (case z_range => k_is)
    (case z_sorted => k_is)
    (case z_str => k_is)
    (case z_tuple => k_is)
    (case z_zip => k_is)
    (case g_MOST_SIGNS => k_is)
    (case g_LONGEST_WORD => k_is)
    (case g_LAST_STATE => k_is)
    (case g_MOST_ARCS => k_is)
    (case g_MOST_LENGTHS => k_is)

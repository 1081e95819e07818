import PyProof.Rows.All
import Wide.All
import OpenK.AllK
import Wide.FinOn
import HandS.ForMost
import HandS.TryMany
import HandS.Walk
import KE.GoesEnum
import HandS.ForExc
import HandS.ExcValue
import HandS.ExcIs
import HandS.ExcInit
import HandS.IsInst
import HandS.OwnEq
import HandS.More
import KE.KExcInit
import KE.GoesMore
import HandS.Defaults
import KE.KxIndex
import HandS.List
import HandS.SortOrd
import HandS.SortRule
import KE.KSortTup
import PyProof.EqKinds
import KE.KSortKey
import HandS.SortKw
import HandS.SetBool
import HandS.SetFor
import HandS.Strs
import HandS.Codes
import HandS.Set
import HandS.SortInts
import KE.KSetDisp
import HandS.SetKeys
import PyProof.DictMoreH
import HandS.Flow
import HandS.Text
import HandS.Style
import KE.KRevSl
import HandS.ListItems
import HandS.Sort
import KE.KDictList
import HandS.Deep
import HandS.StrMore
import HandS.Conv
import HandS.ExcField
import HandS.Lambda
import HandS.EndOwn
import HandS.NestedK
import HandS.TupLen
import HandS.Iter
import HandS.RevRange
import HandS.Replace
import HandS.DictComp
import PyProof.P3Eq
import HandS.WordsDict
import PySem.Challenge.RW_onewayread_k35_books_taken_apart
set_option Elab.async false
set_option linter.all false
set_option maxRecDepth 100000
set_option maxHeartbeats 4000000
/-! several except clauses, some of which name the error -/
namespace L2
open PySem PySem.Spec PyProof.Rows
/-- an error at g that has landed in the frame of X -/
def Lnd (X : Cx) (pins : List (Addr × Obj)) (τ : St) (G : Hp) (g : Addr) (cls : Value) (d : Option Addr) (t : Shared) : Prop :=
  ∃ (B : Heap) (t0 : Shared), Inv X pins τ G t0 ∧ (∀ b o, t0.heap.get? b = some o → b ∉ frs X.stack → B.get? b = some o) ∧ t0.heap.UpToSlots t.heap ∧
    HandSPX.FlyingZ B (X.env :: X.outer) g (Zc cls d) t.heap ∧ G g = none ∧ t.os = t0.os ∧ AllBare t.gens ∧ g ≠ X.env.locals ∧ g ∉ X.fs
section
variable {X : Cx} {pins : List (Addr × Obj)} {τ : St} {G : Hp} {g : Addr} {cls : Value} {d : Option Addr} {t : Shared}
theorem Lnd.inv (l : Lnd X pins τ G g cls d t) : Inv X pins τ G t := by
  obtain ⟨B, t0, J, n, u, f, _, o, y, _⟩ := l
  exact J.landed n f.1 u o y
theorem Lnd.as_suite (l : Lnd X pins τ G g cls d t) : ∃ oe, Zc cls d oe ∧ (∃ vs, oe.data = .fields vs) ∧ t.heap.get? g = some oe ∧ Inv (X.suite g ((g, oe) :: (X.pn ++ pins))) [] τ G t := by
  have J := l.inv
  obtain ⟨B, t0, _, _, _, f, z, _, _, n1, n2⟩ := l
  obtain ⟨oe, vs, h1, h2, h3⟩ := f.there
  exact ⟨oe, h2, ⟨vs, h3⟩, h1, J.suite h1 h3 z n1 n2⟩
theorem Lnd.again {M : Model} {A : Around} {E : Value → Shared → Prop} {Q : Unit → Shared → Prop} (l : Lnd X pins τ G g cls d t) (q : ∀ t', Lnd X pins τ G g cls d t' → Q () t') : wpAny M A (setFlight (.ref g) none) Q E t := by
  obtain ⟨B, t0, J, n, u, f, z, o, y, n1, n2⟩ := l
  exact HandSPX.lands_againZ f fun h' f' u' => q _ ⟨B, t0, J, n, u.trans u', f', z, o, y, n1, n2⟩
/-- what the clauses wish, one behind the other; a slot where the clause names the error -/
def wCls (K : PySem.W.Frag) (Wout : WX) (D : Ends) : List (Value × Option Nat × (Addr → Value → Option Addr → TS)) → WX
  | [] => Wout
  | (c, none, ts) :: r => fun cls d τ G => ∃ b, PySem.W.exmOne K cls c = some b ∧ (b = true → ∀ g, G g = none → ts g cls d D τ G) ∧ (b = false → wCls K Wout D r cls d τ G)
  | (c, some i, ts) :: r => fun cls d τ G => ∃ b, PySem.W.exmOne K cls c = some b ∧
      (b = true → ∀ g, G g = none → ts g cls d { nx := fun τ' G' => D.nx (τ'.set i none) G', rt := D.rt, bk := fun τ' G' => D.bk (τ'.set i none) G', ct := fun τ' G' => D.ct (τ'.set i none) G' } (τ.set i (some (.ref g))) G) ∧
      (b = false → wCls K Wout D r cls d τ G)
inductive ClsOk (X : Cx) : List ExceptHandler → List (Value × Option Nat × (Addr → Value → Option Addr → TS)) → Prop
  | nil : ClsOk X [] []
  | plain {x : Str} {c : Value} {ts : Addr → Value → Option Addr → TS} {b : Stmt} {bs : List Stmt} {np hp : Pos} {hds : List ExceptHandler} {l : List (Value × Option Nat × (Addr → Value → Option Addr → TS))} (hc : Names X x c)
      (hsu : ∀ (g : Addr) (oe : Obj) (cls : Value) (d : Option Addr) (pn : List (Addr × Obj)), Zc cls d oe → (∃ vs, oe.data = .fields vs) → PSs (X.suite g ((g, oe) :: pn)) (b :: bs) (ts g cls d)) (r : ClsOk X hds l) :
      ClsOk X (.ExceptHandler (some (.Name x np)) none (b :: bs) hp :: hds) ((c, none, ts) :: l)
  | named {x n : Str} {i : Nat} {c : Value} {ts : Addr → Value → Option Addr → TS} {b : Stmt} {bs : List Stmt} {np hp : Pos} {hds : List ExceptHandler} {l : List (Value × Option Nat × (Addr → Value → Option Addr → TS))} (hc : Names X x c)
      (hN : X.N.Nodup) (hi : X.N[i]? = some n) (hk : X.env.kindOf n = some .local)
      (hsu : ∀ (g : Addr) (oe : Obj) (cls : Value) (d : Option Addr) (pn : List (Addr × Obj)), Zc cls d oe → (∃ vs, oe.data = .fields vs) → PSs (X.suite g ((g, oe) :: pn)) (b :: bs) (ts g cls d)) (r : ClsOk X hds l) :
      ClsOk X (.ExceptHandler (some (.Name x np)) (some n) (b :: bs) hp :: hds) ((c, some i, ts) :: l)
/-- the test of a clause -/
theorem Lnd.test {x : Str} {c : Value} {np hp : Pos} {b : Bool} {R : Result → Shared → Prop} (l : Lnd X pins τ G g cls d t) (hc : Names X x c) (e : PySem.W.exmOne X.K cls c = some b) (q : R (.ok (if b then .brk else .next)) t) :
    codeAny (model X.prog X.w) (X.A.mark (some (.ref g))) (.handlers (.ref g) [.ExceptHandler (some (.Name x np)) none [] hp] X.env) R t := by
  obtain ⟨oe, z, hv, he, S⟩ := l.as_suite
  have ty : PySem.W.Looks (model X.prog X.w) t.heap (typeOf (.ref g)) cls := fun A1 Q1 E1 s1 k1 q1 => wpAny_typeOf_ref (k1 _ _ he) (by rw [z.1]; exact q1)
  refine codeAny_handlers_test ?_
  have look := PySem.W.exm_one (M := model X.prog X.w) l.inv.kIn ty e
  obtain ⟨h1, h2, h3 | ⟨h3, h4, h5⟩⟩ := hc
  · exact ld_glob (X := X.suite g ((g, oe) :: (X.pn ++ pins))) S h1 h3 (look.here (by exact q)) h2
  · exact ld_blt (X := X.suite g ((g, oe) :: (X.pn ++ pins))) S h1 h3 h4 (look.here (by exact q)) h5 h2
/-- the clauses, gone through -/
theorem Lnd.through {Wout : WX} {D : Ends} (hst : X.stack = X.env :: X.outer) (hfr : X.env.frame = some X.env.locals) (tk : Takes X Wout) (ok : X.Ok) {hds : List ExceptHandler} {cl : List (Value × Option Nat × (Addr → Value → Option Addr → TS))} (hk : ClsOk X hds cl) :
    ∀ {t : Shared}, Lnd X pins τ G g cls d t → wCls X.K Wout D cl cls d τ G → wpAny (model X.prog X.w) X.A (handleBy (.ref g) X.env hds) (SP X pins D) X.xe t := by
  induction hk with
  | nil =>
    intro t l wish
    refine wpAny_handleBy_nil ?_
    obtain ⟨B, t0, J, n, u, f, z, o, y, _⟩ := l
    obtain ⟨_, _, _, oe, vs, trb, _, _, hob, _, hda, htr, _⟩ := id f
    have out : wpAny (model X.prog X.w) X.A (setFlight (.ref g) X.env.frame) (fun _ t4 => wpAny (model X.prog X.w) X.A (throw (.ref g) : Sem Flow) (SP X pins D) X.xe t4) X.xe t := by
      rw [hfr]
      exact HandSPX.setFlight_upZ f fun h4 held u4 => wpAny_throw (tk _ _ ⟨g, B, t0, pins, τ, G, cls, d, rfl, J, n, u.trans u4, .inr (.inr (by rw [hst]; exact held)), z, o, y, wish⟩)
    unfold PySem.passOn
    refine wpAny_bind (wpAny_field hob hda htr ?_)
    rw [if_neg (by simp : ¬ ((Value.ref trb == Value.none) = true))]
    first
      | exact wpAny_bind (wpAny_pure (wpAny_bind out))
      | exact wpAny_bind out
  | @plain x c ts b bs np hp hds2 l2 hc hsu r ih =>
    intro t l wish
    obtain ⟨k, e, yes, no⟩ := wish
    refine wpAny_handleBy_cons (l.test hc e ?_) (by intro q; cases q)
    cases k with
    | false => exact ih l (no rfl)
    | true =>
      refine codeAny_handlers_suite (l.again fun t' l' => ?_)
      obtain ⟨oe, z, hv, _, S⟩ := l'.as_suite
      have na : G g = none := by obtain ⟨_, _, _, _, _, _, q, _⟩ := l'; exact q
      refine wpAny_mono ((hsu g oe cls d (X.pn ++ pins) z hv).run [] _ _ G _ S (yes rfl g na)) (fun fl t6 hsp => ?_) (fun _ _ q => q.elim)
      match fl, hsp with
      | .next, ⟨_, _, S6, q6⟩ => exact ⟨_, _, S6.unsuite ok, q6⟩
      | .brk, ⟨_, _, S6, q6⟩ => exact ⟨_, _, S6.unsuite ok, q6⟩
      | .cont, ⟨_, _, S6, q6⟩ => exact ⟨_, _, S6.unsuite ok, q6⟩
      | .ret _, ⟨_, _, _, S6, r6, q6⟩ => exact ⟨_, _, _, S6.unsuite ok, r6, q6⟩
  | @named x n i c ts b bs np hp hds2 l2 hc hN hi hkd hsu r ih =>
    intro t l wish
    obtain ⟨k, e, yes, no⟩ := wish
    refine wpAny_handleBy_cons (l.test hc e ?_) (by intro q; cases q)
    cases k with
    | false => exact ih l (no rfl)
    | true =>
      refine codeAny_handlers_suite_as (l.again fun t' l' => ?_)
      obtain ⟨oe, z, hv, _, S⟩ := l'.as_suite
      have na : G g = none := by obtain ⟨_, _, _, _, _, _, q, _⟩ := l'; exact q
      refine store_ok (X := X.suite g ((g, oe) :: (X.pn ++ pins))) (v := .ref g) S hN hi (.inl hkd) rfl (fun t5 S5 => ?_) (.inr hkd)
      refine wpAny_mono ((hsu g oe cls d (X.pn ++ pins) z hv).run [] t5 _ G _ S5 (yes rfl g na)) (fun fl t6 hsp => ?_) (fun _ _ q => q.elim)
      match fl, hsp with
      | .next, ⟨_, _, S6, q6⟩ => exact gone_ok (S6.unsuite ok) hN hi hkd fun t7 J7 => ⟨_, _, J7, q6⟩
      | .brk, ⟨_, _, S6, q6⟩ => exact gone_ok (S6.unsuite ok) hN hi hkd fun t7 J7 => ⟨_, _, J7, q6⟩
      | .cont, ⟨_, _, S6, q6⟩ => exact gone_ok (S6.unsuite ok) hN hi hkd fun t7 J7 => ⟨_, _, J7, q6⟩
      | .ret _, ⟨_, _, _, S6, r6, q6⟩ => exact gone_ok (S6.unsuite ok) hN hi hkd fun t7 J7 => ⟨_, _, _, J7, r6, q6⟩
/-- try: body / except X: .. / except Y as e: .. -/
theorem ps_try_cls {body : List Stmt} {h₀ : ExceptHandler} {hds : List ExceptHandler} {pos : Pos} {tb : WX → TS} {Wout : WX} {cl : List (Value × Option Nat × (Addr → Value → Option Addr → TS))} (hst : X.stack = X.env :: X.outer) (hfr : X.env.frame = some X.env.locals) (tk : Takes X Wout)
    (hb : ∀ (W : WX) (pn : List (Addr × Obj)) (xe : Value → Shared → Prop), Takes (X.tr pn xe) W → PassesOwn (model X.prog X.w) X.A X.env xe → PSs (X.tr pn xe) body (tb W)) (hh : ClsOk X (h₀ :: hds) cl) :
    PS X (.Try body (h₀ :: hds) [] [] pos) (fun D σ H => tb (wCls X.K Wout D cl) D σ H) := by
  refine ⟨fun ps s0 σ0 H0 D I0 wish => ?_⟩
  have ok := I0.ok
  have frs1 : X.A.frames = some (X.env :: X.outer) := ok.frames.trans (congrArg some hst)
  let caught : Value → Shared → Prop := fun er ta => wpAny (model X.prog X.w) X.A (noteFrame er X.env) (fun _ tb' => wpAny (model X.prog X.w) X.A (setFlight er none) (fun _ tc => wpAny (model X.prog X.w) X.A (handleBy er X.env (h₀ :: hds)) (SP X ps D) X.xe tc) X.xe tb') X.xe ta
  have land : Takes (X.tr (X.pn ++ ps) caught) (wCls X.K Wout D cl) := by
    rintro er ta ⟨g, B, t0, _, τ, G, cls, d, rfl, J0, n, u, sky, na, o, y, q⟩
    have J := J0.ofTry ok
    refine Sky.land (B := B) (a := g) (Z := Zc cls d) (L := X.env.locals) (outer := X.outer) Zc.steady frs1 hfr (by rw [← hst]; exact sky) fun h3 f3 u3 => ?_
    obtain ⟨oe, vs, e1, e2, e3⟩ := f3.there
    have away : g ∉ frs (X.env :: X.outer) := fun hm => by
      obtain ⟨_, o2, q1, q2⟩ := f3.2.2.1.mem hm
      rw [e1] at q1
      cases q1
      exact q2 _ e3
    refine Lnd.through hst hfr tk ok hh ⟨B, t0, J, n, u.trans u3, f3, na, o, y, fun z => ?_, fun hm => ?_⟩ q
    · exact away (List.mem_filterMap.mpr ⟨X.env, List.mem_cons_self, by rw [hfr, z]⟩)
    · obtain ⟨en, m1, m2⟩ := List.mem_filterMap.mp hm
      exact away (List.mem_filterMap.mpr ⟨en, List.mem_cons_of_mem _ m1, m2⟩)
  refine wpAny_Try_except (wpAny_mono ((hb _ (X.pn ++ ps) caught land PassesOwn.looking).run [] s0 σ0 H0 D (I0.toTry _) wish) (fun fl t1 z => ?_) fun _ _ z => z)
  match fl, z with
  | .next, ⟨_, _, J1, q1⟩ => exact wpAny_execs_nil ⟨_, _, J1.ofTry ok, q1⟩
  | .brk, ⟨_, _, J1, q1⟩ => exact ⟨_, _, J1.ofTry ok, q1⟩
  | .cont, ⟨_, _, J1, q1⟩ => exact ⟨_, _, J1.ofTry ok, q1⟩
  | .ret _, ⟨_, _, _, J1, r1, q1⟩ => exact ⟨_, _, _, J1.ofTry ok, r1, q1⟩
end
end L2

set_option Elab.async false
set_option linter.all false
set_option maxRecDepth 100000
set_option maxHeartbeats 4000000
/-! enumerate of a tuple -/
namespace PySem
open Sem (wp)
open PySem.Spec PyProof.Rows
theorem meets_enumerate_newB1 {v : Value} {o : Obj} {H : Heap → Prop} (B : Begins v o H) :
    Meets (Builtin.«enumerate.__new__» ⟨[.type "enumerate", v], []⟩) (fun _ R s => H s.heap ∧
      R (.ok (.ret (.ref (s.heap.push o).objs.size))) { s with heap := (s.heap.push o).push { cls := .type "enumerate", data := .fields #[.none, .bool false, .ref s.heap.objs.size, rawInt 0, .none, .none] } }) :=
  .of_wp fun prog w A R s h => by
    obtain ⟨hp, g, d, tk, os⟩ := s; obtain ⟨h1, h⟩ := h
    have hsub := sub_enumerate
    have q1 : ∀ {A' : Around} {E : Value → Shared → Prop} {Q : Value → Shared → Prop}, Q (.ref hp.objs.size) ⟨hp.push o, g, d, tk, os⟩ → wpAny (model prog w) A' (pyIter v) Q E ⟨hp, g, d, tk, os⟩ :=
      fun q => B.iter prog w _ _ ⟨hp, g, d, tk, os⟩ _ h1 q
    wp_walk using q1
    refine wpAny_stack_any fun st => wpAny_pure ?_
    split
    · rename_i c _ _ _ _ _
      cases (c == Value.type "enumerate")
      · wp_walk using q1
        exact ⟨_, rfl, h⟩
      · wp_walk using q1
        exact ⟨_, rfl, h⟩
    · wp_walk using q1
      exact ⟨_, rfl, h⟩
section
variable {prog : Program} {w : World} {A : Around} {E : Value → Shared → Prop} {s : Shared}
theorem enum_begins1 {v : Value} {o : Obj} {H : Heap → Prop} {Q : Value → Shared → Prop} (B : Begins v o H) (h1 : H s.heap)
    (h : ∀ h', IsEnum h' (s.heap.objs.size + 1) s.heap.objs.size 0 .none → h'.get? s.heap.objs.size = some o → h'.objs.size = s.heap.objs.size + 2 →
      (∀ b o, s.heap.get? b = some o → h'.get? b = some o) → Q (.ref (s.heap.objs.size + 1)) { s with heap := h' }) :
    wpAny (model prog w) A (call (.type "enumerate") [v]) Q E s := by
  refine callType_new F.called_enumerate (by decide) (F.typeCall_enumerate_1 _) (F.newCall_enumerate_1 _) (fun obj => F.args_object_init_2 obj _) F.entry_enumerate_new
    (meets_enumerate_newB1 B) ⟨h1, ?_⟩
  have hz : (s.heap.push o).objs.size = s.heap.objs.size + 1 := Heap.size_push ..
  show _ ∧ _
  rw [hz]
  have he : IsEnum ((s.heap.push o).push { cls := .type "enumerate", data := .fields #[.none, .bool false, .ref s.heap.objs.size, rawInt 0, .none, .none] }) (s.heap.objs.size + 1) s.heap.objs.size 0 .none := by
    have := Heap.get?_push_size (s.heap.push o) (o := { cls := .type "enumerate", data := .fields #[.none, .bool false, .ref s.heap.objs.size, rawInt 0, .none, .none] }) rfl
    rw [hz] at this; exact this
  refine ⟨⟨_, he, rfl⟩, h _ he (Heap.get?_push_of_some _ (Heap.get?_push_size _ B.free)) (by rw [Heap.size_push, hz]) fun b o x => Heap.get?_push_of_some _ (Heap.get?_push_of_some _ x)⟩
end
end PySem
namespace L2
open PySem PySem.Spec PyProof.Rows
/-- the tuple at a, each item in a new pair -/
def IteT (K : PySem.W.Frag) (a : Addr) : It :=
  ⟨fun i H => ∃ (xs : List V) (x : V), SqT K H a xs ∧ xs[i]? = some x, fun i H v H' => ∃ T x, v = .ref T ∧ H T = none ∧ H' = upd H T (.tup [.int (i : Nat), x]) ∧ ∀ xs, SqT K H a xs → xs[i]? = some x, fun i H => ∃ xs : List V, SqT K H a xs ∧ xs.length = i⟩
theorem turn_enumT {P : Program} {w : World} {K : PySem.W.Frag} {elts : List Expr} {kk : Nat} {tpos : Pos} (a e it : Addr) (hn : e ≠ it) (hae : a ≠ e) (hai : a ≠ it) :
    Turn P w K (.Tuple elts kk tpos) (IteT K a) [e, it] e (fun i h => (∃ old, IsEnum h e it ((i : Nat) : Int) old) ∧ h.IsTupleIter it a i) where
  mem := by simp
  obj := fun i h st b hb => by
    obtain ⟨⟨old, he⟩, ⟨o, ho, hc, hd⟩⟩ := st
    have e' : b = e ∨ b = it := by simpa using hb
    rcases e' with z | z
    · rw [z]; exact ⟨_, he, fun v q => nomatch q⟩
    · rw [z]; exact ⟨o, ho, fun v q => by rw [hd] at q; cases q⟩
  keep := fun i h h' st k => by
    obtain ⟨⟨old, he⟩, ⟨o, ho, r⟩⟩ := st
    exact ⟨⟨old, k e (by simp) _ he⟩, ⟨o, k it (by simp) _ ho, r⟩⟩
  item := by
    intro X hP hw hK hc i pins s σ H E I hf st hg
    subst hP hw hK
    obtain ⟨⟨old, he⟩, hit⟩ := st
    obtain ⟨xs, x, hq, hx⟩ := hg
    obtain ⟨its, rv, p, hz⟩ := I.tuple hq
    obtain ⟨u, hu, ru⟩ := rv.get hx
    have hel : e < s.heap.objs.size := Heap.lt_size he
    have hil : it < s.heap.objs.size := by obtain ⟨_, q, _⟩ := hit; exact Heap.lt_size q
    have hlt : i < its.toArray.size := by
      have q := (List.getElem?_eq_some_iff.mp hu).1
      simpa using q
    refine wpAny_pyNext_enum_itemD (Draws.tuple (A := X.A.in1) (I.ok.hd hc) it a hai its.toArray) he ⟨hit, p⟩ hlt hn (by simp [hn]; exact fun z => hae z.symm) fun y h' tk hy ho hst hT hsz hk => ?_
    have hyu : y = u := by
      have q : its.toArray[i]? = some y := hy
      have q2 : its.toArray[i]? = some u := by simpa using hu
      rw [q] at q2
      exact Option.some.inj q2
    subst hyu
    refine ⟨_, rfl, wpAny_letOwnedTupleGo_enum (s := { s with heap := h', toks := tk + 1 }) ho fun h'' he' sb => ?_⟩
    have hT2 : h''.get? s.heap.objs.size = some { cls := .type "tuple", data := .seq #[.int i tk, y] } := (sb.2 _ (Nat.ne_of_gt hel)).trans hT
    have new : ObjOk X.prog X.w (upd H s.heap.objs.size (.tup [.int (i : Nat), x])) h'' s.heap.objs.size (.tup [.int (i : Nat), x]) :=
      ⟨by show 2 ≤ sizeLine; decide, [.int i tk, y], .cons ⟨_, rfl⟩ (.cons ru .nil), ⟨_, hT2, rfl, _, rfl⟩⟩
    have I1 : Inv X pins σ (upd H s.heap.objs.size (.tup [.int (i : Nat), x])) { s with heap := h'', toks := tk + 1 } :=
      I.turnedNew (ch := [e, it]) (fun b ob hb q => (sb.2 b (fun z => hb (by simp [z]))).trans (hk b ob (fun z => hb (by simp [z])) (fun z => hb (by simp [z])) q)) hf (Nat.le_refl _) new
    obtain ⟨oi, hoi, ri⟩ := hst.1
    refine ⟨.ref s.heap.objs.size, _, I1, rfl, ⟨_, x, rfl, I.hok.fresh (Nat.le_refl _), rfl, fun ys hy => by rw [I.tuple_inj hy hq]; exact hx⟩, ⟨⟨y, ?_⟩, ⟨oi, (sb.2 it (Ne.symm hn)).trans hoi, ri⟩⟩, fun b hb => ?_⟩
    · have e1 : ((i + 1 : Nat) : Int) = (i : Int) + 1 := by omega
      rw [e1]; exact he'
    · have hb' : b < s.heap.objs.size := by
        have e' : b = e ∨ b = it := by simpa using hb
        rcases e' with z | z
        · rw [z]; exact hel
        · rw [z]; exact hil
      rw [upd_ne (Nat.ne_of_lt hb')]
      exact (hf b hb).1
  done := by
    intro X hP hw hK hc i pins s σ H E I hf st hg
    subst hP hw hK
    obtain ⟨⟨old, he⟩, hit⟩ := st
    obtain ⟨xs, hq, hx⟩ := hg
    obtain ⟨its, rv, p, hz⟩ := I.tuple hq
    obtain ⟨f0, f1, f2, f3, f4, f5⟩ := hf it (by simp)
    have hl := rv.length
    have hn' : i = its.toArray.size := by simp; omega
    subst hn'
    exact wpAny_pyNext_enum_endD (Draws.tuple (A := X.A.in1) (I.ok.hd hc) it a hai its.toArray) he ⟨hit, p⟩ fun h' eb => ⟨rfl, I.turned (t' := s.toks) (fun b o hb q => eb b o hb q) f0 f1 f3 f4 f5⟩
  self := fun A i s Q E st h => let ⟨⟨_, he⟩, _⟩ := st; wpAny_pyIter_enum he h
def iEnumT (K : PySem.W.Frag) (ta : TA) : TI := fun σ H R => ta σ H fun vs H1 => ∃ a xs, vs = [.ref a] ∧ SqT K H1 a xs ∧ R (IteT K a) H1
theorem pi_enumT {X : Cx} {e : Expr} {ta : TA} {p pos tpos : Pos} {elts : List Expr} {kk : Nat} (hg : Gl X "enumerate") (hm : X.mg "enumerate" = none) (ha : PA X [e] ta) (hs : starEach [e] X.env = [(false, eval e X.env)] := by rfl) :
    PI X (.Tuple elts kk tpos) (.Call (.Name "enumerate" p) [e] [] pos) (iEnumT X.K ta) := by
  refine ⟨fun pins s σ H R I h => ?_⟩
  refine Call_ (ld_blt I hg hm boot_enumerate (PyProof.Rows.callWith_type1 (thn (ha.run pos pins s σ H _ I h) fun us s1 ⟨vs, H1, I1, r1, q1⟩ => ?_) hs rfl))
  obtain ⟨a, xs, ex, hq, q⟩ := q1
  subst ex
  cases r1 with
  | cons r rr =>
    cases rr
    cases r
    obtain ⟨its, rv, p', hz⟩ := I1.tuple hq
    have hal : a < s1.heap.objs.size := by obtain ⟨_, q, _⟩ := p'; exact Heap.lt_size q
    refine enum_begins1 (begins_tuple a its.toArray) (show s1.heap.IsTuple a its.toArray from p') fun h' he hit hsz hk => wpAny_pyIter_enum he ?_
    have I2 : Inv X pins σ H1 { s1 with heap := h' } := I1.kept (t' := s1.toks) hk
    refine ⟨s1.heap.objs.size + 1, [s1.heap.objs.size + 1, s1.heap.objs.size], _, _, H1, rfl, I2, turn_enumT a (s1.heap.objs.size + 1) s1.heap.objs.size (Nat.succ_ne_self _) (Nat.ne_of_lt (Nat.lt_succ_of_lt hal)) (Nat.ne_of_lt hal), ⟨⟨.none, he⟩, ⟨_, hit, rfl, rfl⟩⟩, fun b hb => ?_, q⟩
    have e' : b = s1.heap.objs.size + 1 ∨ b = s1.heap.objs.size := by simpa using hb
    have hle : s1.heap.objs.size ≤ b := by
      rcases e' with z | z
      · rw [z]; exact Nat.le_add_right _ _
      · rw [z]; exact Nat.le_refl _
    exact I1.fpOk hle (I1.hok.fresh hle)
theorem walk_enumT {K : PySem.W.Frag} {a : Addr} {xs : List V} : Walk (IteT K a) xs.length (fun H => SqT K H a xs) (YPair (fun i => some (.int (i : Nat))) (fun i => xs[i]?)) :=
by
  refine ⟨fun i _ hi q => ⟨xs, xs[i], q, by simp [hi]⟩, fun _ q => ⟨xs, q, rfl⟩, fun i H v H' _ q y => ?_⟩
  obtain ⟨T, x, h1, h2, h3, h4⟩ := y
  exact ⟨T, .int (i : Nat), x, h1, h2, h3, rfl, h4 xs q⟩
end L2

set_option Elab.async false
set_option linter.all false
set_option maxRecDepth 100000
/-! o.name(e, ..) with a letter for the frozen heap: for the word of a comprehension -/
namespace L2
open PySem PySem.Spec PyProof.Rows
theorem pe_bmK {X : Cx} {K : PySem.W.Frag} (hK : X.K = K) {o e : Expr} {es : List Expr} {to : TE} {t : TA} {name : Str} {apos cpos : Pos} {T id : String} {r : V → List V → Hp → VK → Prop}
    (pa : PlainAttrs T) (slot : Slot T name id) (hty : typeOf (.builtin id) = pure (.type "method_descriptor")) (hm : MtR X id r) (ho : PE X o to) (ha : PA X (e :: es) t)
    (h1 : attributeBase o name X.env (eval o X.env) = eval o X.env := by rfl)
    (h2 : (((backTo cpos (starEach (e :: es) X.env)).all (!·.1) && (backToKw cpos (keywordEach [] X.env)).all (·.1.isSome)) && decide ((e :: es).length + ([] : List Keyword).length + (if ([] : List Keyword).isEmpty then 0 else 1) < 30)) = true := by rfl)
    (h3 : (apos.endLine == cpos.line) = true := by rfl) (h4 : starEach (e :: es) X.env = (false, eval e X.env) :: starEach es X.env := by rfl) (h5 : (backTo cpos (starEach es X.env)).any (·.1) = false := by rfl) :
    PE X (.Call (.Attribute o name apos) (e :: es) [] cpos) (tBM K T r to t) := by
  subst hK
  exact pe_bm pa slot hty hm ho ha h1 h2 h3 h4 h5
end L2

set_option Elab.async false
set_option linter.all false
set_option maxRecDepth 100000
set_option maxHeartbeats 4000000
/-! own exceptions without arguments: raised, and as values -/
namespace L2
open PySem PySem.Spec PyProof.Rows
section
variable {X : Cx} {C : Addr} {bmB : List Value} {B newId initId : String}
theorem pmk_own0 {x : Str} {p pos : Pos} (F : ExcBaseFacts B newId initId bmB) (q : PySem.W.excIn X.K C bmB newId = true) (gC : X.mg x = some (.ref C)) (kC : PySem.W.keepIn X.K (.ref C) = true) (r : Raises X (.ref C)) (hg : Gl X x)
    (hdb : (x == ("__debug__" : Str)) = false := by decide) : PMk X (.Call (.Name x p) [] [] pos) (fun _ H Q => Q (.ref C) none H) := by
  intro pins s σ H Q I h
  refine wpAny_Call_Name_kw (ld_glob I hg gC ?_ hdb)
  refine PySem.W.callWith_K0 I.kIn kC ?_
  obtain ⟨bm, N, nm, qn, bs, hdct, sn, sub, ab, col, dd, k0, k1, k2, k3, k5, mN, hC, hN, hni, T⟩ := exc_obj I.kIn q
  refine wpAny_call_exc_subT F T hC hN hni (fun h' e hm => ?_) (by show 0 ≤ sizeLine; exact Nat.zero_le _)
  exact mk_of I hm r h (I.hok.gone hm.new)
/-- X(), as a value -/
theorem pe_exc0 {x : Str} {p pos : Pos} (F : ExcBaseFacts B newId initId bmB) (q : PySem.W.excIn X.K C bmB newId = true) (gC : X.mg x = some (.ref C)) (kC : PySem.W.keepIn X.K (.ref C) = true) (hg : Gl X x)
    (hdb : (x == ("__debug__" : Str)) = false := by decide) : PE X (.Call (.Name x p) [] [] pos) (fun σ H Q => ∀ a, H a = none → Q (.ref a) (upd H a (ExO (.ref C) a))) := by
  refine ⟨fun pins s σ H Q I h => ?_⟩
  refine wpAny_Call_Name_kw (ld_glob I hg gC ?_ hdb)
  refine PySem.W.callWith_K0 I.kIn kC ?_
  obtain ⟨bm, N, nm, qn, bs, hdct, sn, sub, ab, col, dd, k0, k1, k2, k3, k5, mN, hC, hN, hni, T⟩ := exc_obj I.kIn q
  refine wpAny_call_exc_subT F T hC hN hni (fun h' a hm => ?_) (by show 0 ≤ sizeLine; exact Nat.zero_le _)
  have hn : H a = none := I.hok.gone hm.new
  obtain ⟨t, ht, _, _⟩ := hm.there
  exact ⟨.ref a, upd H a (ExO (.ref C) a), I.laidN hm.keeps hm.new hn (exO_ok ht ⟨rfl, rfl⟩ rfl rfl rfl (show 4 < 6 by decide)), rfl, h a hn⟩
end
end L2

set_option Elab.async false
set_option linter.all false
set_option maxRecDepth 100000
set_option maxHeartbeats 4000000
/-! own exceptions with an __init__ of their own that stores its arguments, over Exception: the stores -/
namespace PySem
namespace ExX
open Builtin Builtin.ObjectAttr PySem.W PySem.Calls PyProof.Rows PySem.HandSPX
abbrev exTail : List Value := [.type "Exception", .type "BaseException", .type "object"]
/-- own classes, then Exception's mro -/
def refsEX : List Value → Bool
  | .ref _ :: r => refsEX r
  | l => l == exTail
theorem refsEX_cases : ∀ l : List Value, refsEX l = true → (∃ c r, l = .ref c :: r ∧ refsEX r = true) ∨ l = exTail := by
  intro l e
  unfold refsEX at e
  split at e
  · exact .inl ⟨_, _, rfl, e⟩
  · exact .inr (beq_iff_eq.mp e)
theorem refsEX_pass (self : Value) : ∀ l : List Value, refsEX l = true → refuseLoop self "__setattr__" l = pure () := by
  intro l
  induction l with
  | nil => intro e; exact absurd e (by decide)
  | cons a r ih =>
    intro e
    rcases refsEX_cases (a :: r) e with ⟨c, r', q, h⟩ | q
    · obtain ⟨rfl, rfl⟩ := List.cons.inj q
      rw [refuseLoop_ref]; exact ih h
    · rw [q]; exact F.store_Exception.passes self
theorem refsEX_contains (X : String) : ∀ l : List Value, refsEX l = true → l.contains (.type X) = exTail.contains (.type X) := by
  intro l
  induction l with
  | nil => intro e; exact absurd e (by decide)
  | cons a r ih =>
    intro e
    rcases refsEX_cases (a :: r) e with ⟨c, r', q, h⟩ | q
    · obtain ⟨rfl, rfl⟩ := List.cons.inj q
      rw [List.contains_cons, ih h]; rfl
    · rw [q]
theorem refsEX_ne {l : List Value} (e : refsEX l = true) : l.isEmpty = false := by
  cases l with
  | nil => exact absurd e (by decide)
  | cons _ _ => rfl
section
variable {prog : Program} {w : World} {A : Around} {E : Value → Shared → Prop} {R : Result → Shared → Prop} {hp : Heap} {g : Array GenState} {d : Drawn} {t : Nat} {os : OsState}
theorem osa_new {K : W.Frag} {name : Str} {tk : Tok} {v : Value} {x C : Addr} {fv : Array Value} {cd : ClassData}
    (X : K.In hp) (hx : hp.get? x = some { cls := .ref C, data := .fields fv }) (hcd : W.clsIn K C = some cd) (hm : refsEX cd.mro = true) (hh : cd.hasDict = true) (ha : W.findIn K (.ref C) name = some none)
    (hq : ∀ h' tk' dx, (∀ b o, b ≠ x → hp.get? b = some o → h'.get? b = some o) → hp.objs.size ≤ dx → dx ≠ x → h'.get? x = some { cls := .ref C, dict := some dx, data := .fields fv } →
      h'.Ns1 dx (fun y => if y = name then some v else none) → R (.ok (.ret .none)) ⟨h', g, d, tk', os⟩) :
    codeAny (model prog w) A (.call (.builtin "object.__setattr__") ⟨[.ref x, .str name tk, v], []⟩) R ⟨hp, g, d, t, os⟩ := by
  have I : W.InstAt hp x { cls := .ref C, data := .fields fv } C none := ⟨hx, rfl, rfl, trivial⟩
  have SF := F.store_object
  have ne := refsEX_ne hm
  have hob : cd.mro.contains (.type "object") = true := (refsEX_contains "object" _ hm).trans (by decide +kernel)
  have hxs : x ≠ hp.objs.size := Nat.ne_of_lt (Heap.lt_size hx)
  have sub : W.Looks (model prog w) hp (isInstance (.ref x) (.type "object")) true := I.type.andThen (W.looks_mroIn X (by unfold W.mroIn; rw [hcd, Option.bind_some, if_neg (by rw [ne]; decide), hob]))
  refine codeAny_call_builtin SF.slot.plain SF.entry (@W.check_slot (model prog w) _ _ ⟨hp, g, d, t, os⟩ "object.__setattr__" "object" "__setattr__" (.ref x) [.str name tk, v] [] _ SF.kind SF.split sub (SF.args (.ref x) (.str name tk) v) ?_)
  have hmr : W.Looks (model prog w) hp (mroOf (.ref C)) cd.mro := (W.looks_clsIn X hcd).andThen .now
  have L3 : W.Looks (model prog w) hp (storeTaker? none) none := .now
  have hcls : W.Looks (model prog w) hp (classData C) cd := W.looks_clsIn X hcd
  rw [W.osa_eq, refuse_eq]
  refine wpAny_bind (wpAny_bind (I.type.at (wpAny_bind (hmr.at ?_))))
  rw [refsEX_pass _ _ hm]
  refine wpAny_pure (wpAny_bind (I.type.at (wpAny_bind ((W.looks_findIn X ha).at (wpAny_bind (L3.at ?_))))))
  show wpAny _ _ (storeInOwnDict (.ref x) (.ref C) (.str name tk) name v false) _ _ _
  obtain ⟨nm, bs, mro, ns, qn, hd, sn, sb, ab, col, del⟩ := cd
  dsimp only at hh
  subst hh
  unfold storeInOwnDict ownDictForStores
  repeat (first | with_reducible refine store_in_new ?_ ?_ | with_reducible refine wpAny_loadPart_at hx ?_ | with_reducible refine hcls.at ?_ | wp_step)
  · exact ⟨_, #[], _, (Heap.get?_update_ne _ _ _ _ hxs.symm).trans (Heap.get?_push_at rfl rfl), rfl, fun e he => absurd he (by simp), fun _ => rfl⟩
  · intro h' tk' hn' hs
    have hx₁ : (hp.push { cls := .type "dict", data := .dict #[] }).get? x = some { cls := .ref C, data := .fields fv } := Heap.get?_push_of_some _ hx
    refine hq h' tk' hp.objs.size (fun b o hb ho => ?_) (Nat.le_refl _) hxs.symm ?_ hn'
    · exact (hs.2 b (Nat.ne_of_lt (Heap.lt_size ho))).trans ((Heap.get?_update_ne _ _ _ _ hb).trans (Heap.get?_push_of_some _ ho))
    · exact (hs.2 x hxs).trans (Heap.get?_update_self _ hx₁ rfl)
theorem osa_old {K : W.Frag} {name : Str} {tk : Tok} {v : Value} {x C dx : Addr} {fv : Array Value} {cd : ClassData} {m0 : Str → Option Value} {nl : List Str}
    (X : K.In hp) (hx : hp.get? x = some { cls := .ref C, dict := some dx, data := .fields fv }) (hns : hp.Ns1 dx m0) (hw : Within m0 nl) (hz : nl.length ≤ 1000) (hcd : W.clsIn K C = some cd) (hm : refsEX cd.mro = true) (hh : cd.hasDict = true)
    (ha : W.findIn K (.ref C) name = some none)
    (hq : ∀ h' tk', (∀ b o, b ≠ dx → hp.get? b = some o → h'.get? b = some o) → h'.Ns1 dx (fun y => if y = name then some v else m0 y) → R (.ok (.ret .none)) ⟨h', g, d, tk', os⟩) :
    codeAny (model prog w) A (.call (.builtin "object.__setattr__") ⟨[.ref x, .str name tk, v], []⟩) R ⟨hp, g, d, t, os⟩ := by
  obtain ⟨oD, esD, epD, hoD, hdD, _⟩ := hns.count hw
  have I : W.InstAt hp x { cls := .ref C, dict := some dx, data := .fields fv } C (some oD) := ⟨hx, rfl, rfl, hoD⟩
  have SF := F.store_object
  have ne := refsEX_ne hm
  have hob : cd.mro.contains (.type "object") = true := (refsEX_contains "object" _ hm).trans (by decide +kernel)
  have sub : W.Looks (model prog w) hp (isInstance (.ref x) (.type "object")) true := I.type.andThen (W.looks_mroIn X (by unfold W.mroIn; rw [hcd, Option.bind_some, if_neg (by rw [ne]; decide), hob]))
  refine codeAny_call_builtin SF.slot.plain SF.entry (@W.check_slot (model prog w) _ _ ⟨hp, g, d, t, os⟩ "object.__setattr__" "object" "__setattr__" (.ref x) [.str name tk, v] [] _ SF.kind SF.split sub (SF.args (.ref x) (.str name tk) v) ?_)
  have hmr : W.Looks (model prog w) hp (mroOf (.ref C)) cd.mro := (W.looks_clsIn X hcd).andThen .now
  have L3 : W.Looks (model prog w) hp (storeTaker? none) none := .now
  have hcls : W.Looks (model prog w) hp (classData C) cd := W.looks_clsIn X hcd
  rw [W.osa_eq, refuse_eq]
  refine wpAny_bind (wpAny_bind (I.type.at (wpAny_bind (hmr.at ?_))))
  rw [refsEX_pass _ _ hm]
  refine wpAny_pure (wpAny_bind (I.type.at (wpAny_bind ((W.looks_findIn X ha).at (wpAny_bind (L3.at ?_))))))
  show wpAny _ _ (storeInOwnDict (.ref x) (.ref C) (.str name tk) name v false) _ _ _
  obtain ⟨nm, bs, mro, ns, qn, hd, sn, sb, ab, col, del⟩ := cd
  dsimp only at hh
  subst hh
  unfold storeInOwnDict ownDictForStores
  repeat (first | with_reducible refine PySem.OEX.store_in_old hns hw hz ?_ | with_reducible refine wpAny_loadPart_at hx ?_ | with_reducible refine hcls.at ?_ | wp_step)
  intro h' tk' hn' hs
  exact hq h' tk' (fun b o hb ho => (hs.2 b hb).trans ho) hn'
end
end ExX
end PySem

set_option Elab.async false
set_option linter.all false
set_option maxRecDepth 100000
set_option maxHeartbeats 4000000
namespace PySem
namespace ExX
open PySem.W PySem.Calls PyProof.Rows PySem.HandSPX
/-- what the written part says of an own exception class, at C, over Exception, and of its __init__, at fI -/
structure ExcT (K : W.Frag) (mg : Str → Option Value) (C fI : Addr) (cn : Str) (fs : List Str) (qual : Str) (st : Stmt) : Prop where
  gC : mg cn = some (.ref C)
  cls : ∃ nm q N bs bm sn sub ab col dd k0 k1 k2 k3 k5, K.lookup C = some (excClassObj nm q C N bs bm true sn sub ab col dd k0 k1 k2 k3 k5 "Exception.__new__") ∧ refsEX bm = true
  sa : findIn K (.ref C) "__setattr__" = some (some (.builtin "object.__setattr__"))
  ga : findIn K (.ref C) "__getattribute__" = some (some (.builtin "BaseException.__getattribute__"))
  gg : findIn K (.ref C) "__getattr__" = some none
  no : ∀ f ∈ fs, findIn K (.ref C) f = some none
  iC : findIn K (.ref C) "__init__" = some (some (.ref fI))
  tC : typeIn K (.ref fI) = some (.type "function")
  kC : keepIn K (.ref C) = true
  exC : subIn K (.ref C) (.type "BaseException") = some true
  tyC : typeIn K (.ref C) = some (.type "type")
  hdC : hasDictIn K C = true
  fn : ∃ (oc : Value) (od : Option Addr) (kV doc pm : Value) (an : Option Addr) (cdv ct : Value) (osl : Array (Option Value)),
    K.lookup fI = some ⟨oc, od, .func (fnOf "__init__" qual (L2.defArgs st) (L2.defBody st) (L2.defScope st) .none kV doc pm an cdv ct), osl⟩ ∧ codeIn K cdv qual = true
theorem ldC {M : Model} {s : Shared} {name : Str} {scope : Scope} {L a : Addr} {cd : Value} {m : Str → Option Value} {x : Str} {pos : Pos} {v : Value} {Q : Value → Shared → Prop} {A : Around} {E : Value → Shared → Prop} (hn : s.heap.Ns L m) (hv : m x = some v) (h : Q v s)
    (hk : scope.kind = .function := by rfl) (hl : (envOfC name scope L a cd).kindOf x = some .local := by rfl) (hd : (x == ("__debug__" : Str)) = false := by decide) :
    wpAny M A (eval (.Name x pos) (envOfC name scope L a cd)) Q E s := wpAny_Name (wpAny_loadName_local hk hl hn hv h) hd
end ExX
end PySem
namespace PySem
namespace ExX
open PySem.W PySem.Calls PyProof.Rows PySem.HandSPX
/-- a made exception of the class at C: itself at e, its dict at d, the fields m -/
structure OwnMade (h h' : Heap) (e C d : Addr) (m : Str → Option Value) : Prop where
  keep : ∀ b o, h.get? b = some o → h'.get? b = some o
  new : h.objs.size ≤ e
  obj : ∃ oe vs, h'.get? e = some oe ∧ oe.cls = .ref C ∧ oe.dict = some d ∧ oe.data = .fields vs ∧ vs[1]? = some .none
  dbig : h.objs.size ≤ d
  dne : d ≠ e
  ns : h'.Ns1 d m
end ExX
end PySem
namespace L2
open PySem PySem.Spec PyProof.Rows PySem.ExX
/-- an exception object of the class at C, its own dict at d, not raised -/
def ExD (C d e : Addr) : HO := .ext fun h => ∃ (oe : Obj) (vs : Array Value), h.get? e = some oe ∧ Zc (.ref C) (some d) oe ∧ oe.data = .fields vs ∧ vs[1]? = some .none
theorem exD_ok {P : Program} {w : World} {H : Hp} {h : Heap} {C d e : Addr} {oe : Obj} {vs : Array Value} (he : h.get? e = some oe) (z : Zc (.ref C) (some d) oe) (hd : oe.data = .fields vs) (h1 : vs[1]? = some .none) : ObjOk P w H h e (ExD C d e) :=
  ⟨⟨oe, vs, he, z, hd, h1⟩, ⟨oe, he⟩, fun _ _ ⟨o, v, q, r⟩ k => ⟨o, v, k o q, r⟩⟩
section
variable {X : Cx} {pins : List (Addr × Obj)} {σ : St} {H : Hp} {hp h' : Heap} {g : Array GenState} {dr : Drawn} {tk tk' : Nat} {os : OsState} {e C d : Addr} {m : Str → Option Value} {fs : List (Str × V)}
/-- the heap without the exception itself: its dict laid -/
theorem own_split (I : Inv X pins σ H ⟨hp, g, dr, tk, os⟩) (M : OwnMade hp h' e C d m) (rel : ∀ f, RelO (fs.lookup f) (m f)) :
    ∃ G' : Heap, (∀ b o, G'.get? b = some o → h'.get? b = some o) ∧ G'.get? e = none ∧ Inv X pins σ (upd H d (.xd fs)) ⟨G', g, dr, tk', os⟩ := by
  have hns := M.ns
  obtain ⟨G', g1, g2⟩ := restrict h' fun b => decide (b ≠ e)
  have gk : ∀ b, b ≠ e → G'.get? b = h'.get? b := fun b hb => g1 b (decide_eq_true hb)
  have ge : G'.get? e = none := g2 e (by simp)
  have old : ∀ b o, hp.get? b = some o → G'.get? b = some o := fun b o q => (gk b (Nat.ne_of_lt (Nat.lt_of_lt_of_le (Heap.lt_size q) M.new))).trans (M.keep b o q)
  have ob : ObjOk X.prog X.w (upd H d (.xd fs)) G' d (.xd fs) := ⟨_, hns.at (fun o q => (gk d M.dne).trans q), fun f => rel f⟩
  have J : Inv X pins σ (upd H d (.xd fs)) ⟨G', g, dr, tk', os⟩ := I.laid (t' := tk') old M.dbig ob
  refine ⟨G', fun b o q => ?_, ge, J⟩
  by_cases hb : b = e
  · rw [hb, ge] at q; cases q
  · exact (gk b hb).symm.trans q
theorem own_value (I : Inv X pins σ H ⟨hp, g, dr, tk, os⟩) (M : OwnMade hp h' e C d m) (rel : ∀ f, RelO (fs.lookup f) (m f)) :
    Inv X pins σ (upd (upd H d (.xd fs)) e (ExD C d e)) ⟨h', g, dr, tk', os⟩ := by
  obtain ⟨G', k, ge, J⟩ := own_split (tk' := tk') I M rel
  obtain ⟨oe, vs, hoe, hc, hd, hdat, h1⟩ := M.obj
  have hn : upd H d (.xd fs) e = none := by
    rw [upd_ne (Ne.symm M.dne)]
    exact I.hok.fresh M.new
  exact J.laidN k ge hn (exD_ok hoe ⟨hc, hd⟩ hdat h1)
theorem own_raise {Q : XK} (I : Inv X pins σ H ⟨hp, g, dr, tk, os⟩) (M : OwnMade hp h' e C d m) (rel : ∀ f, RelO (fs.lookup f) (m f)) (r : Raises X (.ref C)) (q : ∀ d, H d = none → Q (.ref C) (some d) (upd H d (.xd fs))) :
    MkP X pins σ Q (.ref e) ⟨h', g, dr, tk', os⟩ := by
  obtain ⟨G', k, ge, J⟩ := own_split (tk' := tk') I M rel
  obtain ⟨oe, vs, hoe, hc, hd, hdat, h1⟩ := M.obj
  refine ⟨e, oe, vs, ⟨G', g, dr, tk', os⟩, _, .ref C, some d, rfl, J, k, ge, hoe, ⟨hc, hd⟩, hdat, h1, ?_, rfl, I.bare, r, q d (I.hok.fresh M.dbig)⟩
  rw [upd_ne (Ne.symm M.dne)]
  exact I.hok.fresh M.new
end
end L2

set_option Elab.async false
set_option linter.all false
set_option maxRecDepth 100000
set_option maxHeartbeats 4000000
/-! isinstance of exception objects that are values, whatever own dict they have -/
namespace PySem.W
open PySem PySem.Spec PySem.Calls PyProof.Rows
section
variable {prog : Program} {w : World} {A : Around} {E : Value → Shared → Prop} {s : Shared} {K : Frag} {x D : Addr} {ox : Obj} {od : Option Obj}
theorem findObj_dataZ {C : Addr} {name : Str} {a g : Value} (hc : (clsIn K C).isSome = true) (ha : findIn K (.ref C) name = some (some a)) (hg : specialIn K a "__get__" = some (some g)) (ht : takesIn K a = some true) : findObj K C od name = some (.bind g a) := by
  obtain ⟨cd, hc⟩ := Option.isSome_iff_exists.mp hc
  unfold findObj
  rw [hc, Option.bind_some, ha, Option.bind_some]
  simp [hg, ht]
theorem kin_classZ {Q : Option Value → Shared → Prop} (hga : findIn K (.ref D) "__getattribute__" = some (some (.builtin "BaseException.__getattribute__"))) (hgt : findIn K (.ref D) "__getattr__" = some none) (hsub : subIn K (.ref D) (.type "BaseException") = some true)
    (hdct : hasDictIn K D = true) (ha : findIn K (.ref D) "__class__" = some (some (.builtin "object.__class__")))
    (hn : specialIn K (.builtin "object.__class__") "__get__" = some (some (.builtin "getset_descriptor.__get__"))) (htk : takesIn K (.builtin "object.__class__") = some true) (hm : mroIn K D (.type "object") = some true)
    (X : K.In s.heap) (I : InstAt s.heap x ox D od) (h : Q (some (.ref D)) { s with toks := s.toks + 1 }) : wpAny (model prog w) A (getAttr? (.ref x) "__class__") Q E s := by
  have hf : findObj K D od "__class__" = some (.bind (.builtin "getset_descriptor.__get__") (.builtin "object.__class__")) := findObj_dataZ (by obtain ⟨cd, hc, _⟩ := any_some hdct; rw [hc]; rfl) ha hn htk
  obtain ⟨hp, g, d, t, os⟩ := s
  have L0 := I.type (M := model prog w)
  have L1 := looks_findIn (M := model prog w) X hga
  have L2 := looks_findIn (M := model prog w) X hgt
  have L3 := looks_find (M := model prog w) X I hf
  have sub : Looks (model prog w) hp (isInstance (.ref x) (.type "BaseException")) true := L0.andThen (looks_subIn X hsub)
  have hx0 : (false && onTheHeap (Value.builtin "BaseException.__getattribute__")) = false := rfl
  have hx2 : (Value.builtin "BaseException.__getattribute__" == Value.builtin "object.__getattribute__") = false := by decide +kernel
  have hx1 : (onTheHeap (Value.ref D) && Value.builtin "BaseException.__getattribute__" == Value.builtin "object.__getattribute__") = false := by rw [hx2]; rfl
  unfold getAttr? getAttrBy? getAttrBy
  refine wpAny_bind (wpAny_mkText (wpAny_bind (wpAny_attempt (wpAny_holding (wpAny_bind (L0.at (wpAny_bind (L1.at ?_))))))))
  show wpAny _ _ (if (onTheHeap (Value.ref D) && Value.builtin "BaseException.__getattribute__" == Value.builtin "object.__getattribute__") = true then _ else _) _ _ _
  rw [hx1, if_neg Bool.false_ne_true]
  unfold getAttrByItsOwn hookBefore
  refine wpAny_bind ?_
  rw [if_pos (show onTheHeap (Value.ref D) = true from rfl)]
  refine L2.at ?_
  refine wpAny_bind (wpAny_attempt (wpAny_holding ?_))
  unfold callGetattribute
  rw [hx0, if_neg Bool.false_ne_true]
  unfold boundAndCalled
  rw [PySem.F.excAttr_ValueError.ga.bind (.ref x)]
  refine wpAny_bind (wpAny_pure ?_)
  show wpAny _ _ (call (.builtin "BaseException.__getattribute__") [.ref x, .str "__class__" t]) _ _ _
  refine wpAny_call (codeAny_call_builtin PySem.F.excAttr_ValueError.ga.plain PySem.F.entry_bexc_ga ?_)
  refine @check_slot (model prog w) _ _ ⟨hp, g, d, t + 1, os⟩ "BaseException.__getattribute__" "BaseException" "__getattribute__" (.ref x) [.str "__class__" t] [] _ (by decide +kernel) (by decide +kernel) sub (PySem.F.args_bexc_ga (.ref x) (.str "__class__" t)) ?_
  unfold Builtin.«object.__getattribute__»
  refine wpAny_bind (wpAny_of_eq (a := ((Value.ref x : Value), [Value.str "__class__" t])) (by first | rfl | (simp only [slotArgs]; rfl)) ?_)
  refine wpAny_bind (wpAny_pure (wpAny_bind (L0.at (wpAny_bind (L3.at ?_)))))
  show wpAny _ _ (holding [Value.builtin "object.__class__"] (call (.builtin "getset_descriptor.__get__") [.builtin "object.__class__", .ref x, .ref D]) >>= ret) _ _ _
  refine wpAny_bind (wpAny_holding (wpAny_call (class_get (s := ⟨hp, g, d, t + 1, os⟩) (ox := ox) (od := od) X I hm ?_)))
  refine wpAny_pure ?_
  show wpAny _ _ (handedOut (.ref D)) _ _ _
  rw [handedOut_of (v := .ref D) rfl]
  first
    | exact wpAny_pure (wpAny_pure h)
    | exact wpAny_pure h
    | exact wpAny_pure (wpAny_bind (wpAny_pure (wpAny_pure h)))
theorem kitx_excZ (hga : findIn K (.ref D) "__getattribute__" = some (some (.builtin "BaseException.__getattribute__"))) (hgt : findIn K (.ref D) "__getattr__" = some none) (hsub : subIn K (.ref D) (.type "BaseException") = some true) (hdct : hasDictIn K D = true) (ha : findIn K (.ref D) "__class__" = some (some (.builtin "object.__class__")))
    (hn : specialIn K (.builtin "object.__class__") "__get__" = some (some (.builtin "getset_descriptor.__get__"))) (htk : takesIn K (.builtin "object.__class__") = some true) (hm : mroIn K D (.type "object") = some true) :
    KitX K (.ref x) (.ref D) (fun h => InstAt h x ox D od) where
  ty := fun _ _ _ I => I.type
  it := fun _ _ X _ => by
    obtain ⟨cdD, hcD, _⟩ := any_some hdct
    unfold clsIn at hcD
    split at hcD
    · rename_i c' d' cd' sl' ho
      intro A' Q' E' s' k q
      unfold isType loadHead
      exact wpAny_bind (wpAny_loadPart (k _ _ (X _ _ ho)) (wpAny_pure q))
    · cases hcD
  ne := (handS_kitx_exc (x := x) (ox := ox) hga hgt hsub hdct ha hn htk hm).ne
  ca := fun X I k => kin_classZ hga hgt hsub hdct ha hn htk hm X I k
end
end PySem.W
namespace L2
open PySem PySem.Spec PyProof.Rows PySem.ExX
/-- the type of a value: also of an exception object that is a value -/
inductive TyZ (K : PySem.W.Frag) (H : Hp) : V → Value → Prop where
  | x {v : V} {t : Value} (h : TyX K H v t) : TyZ K H v t
  | exo {a C : Addr} (e : H a = some (ExO (.ref C) a)) (c : ExcC K C) : TyZ K H (.ref a) (.ref C)
  | exd {a C d : Addr} {fs : List (Str × V)} (e : H a = some (ExD C d a)) (ed : H d = some (.xd fs)) (c : ExcC K C) : TyZ K H (.ref a) (.ref C)
section
variable {X : Cx} {pins : List (Addr × Obj)} {σ : St} {H : Hp} {s : Shared}
theorem kit_ofZ {x : V} {u t : Value} (I : Inv X pins σ H s) (rx : RelV x u) (ty : TyZ X.K H x t) : ∃ P : Heap → Prop, PySem.W.KitX X.K u t P ∧ P s.heap ∧ u ≠ .builtin "__main__.__loader__#opaque" := by
  cases ty with
  | x h => exact kit_of I rx h
  | @exo a C e c =>
    cases (show u = Value.ref a from rx)
    obtain ⟨⟨oe, vs, ho, hz, hd, _, _⟩, _, _⟩ := I.hok a _ e
    have J : PySem.W.InstAt s.heap a oe C none := by
      obtain ⟨oc, od, oda, osl⟩ := oe
      obtain ⟨h1, h2⟩ := hz
      dsimp only at h1 h2 hd
      subst h1 h2 hd
      exact ⟨ho, rfl, rfl, trivial⟩
    exact ⟨_, PySem.W.kitx_excZ c.hg c.hk c.hs c.hd c.ha c.hn c.ht c.hm, J, fun z => nomatch z⟩
  | @exd a C d fs e ed c =>
    cases (show u = Value.ref a from rx)
    obtain ⟨⟨oe, vs, ho, hz, hd, _⟩, _, _⟩ := I.hok a _ e
    obtain ⟨mA, hns, _⟩ := (show ObjOk X.prog X.w H s.heap d (.xd fs) from I.hok d _ ed)
    obtain ⟨od, hod, _⟩ := lookIn_ns hns
    have J : PySem.W.InstAt s.heap a oe C (some od) := by
      obtain ⟨oc, odd, oda, osl⟩ := oe
      obtain ⟨h1, h2⟩ := hz
      dsimp only at h1 h2 hd
      subst h1 h2 hd
      exact ⟨ho, rfl, rfl, hod⟩
    exact ⟨_, PySem.W.kitx_excZ c.hg c.hk c.hs c.hd c.ha c.hn c.ht c.hm, J, fun z => nomatch z⟩
end
def rIsiZ (K : PySem.W.Frag) : List V → Hp → VK → Prop := fun xs H Q => ∃ (x c : V) (t u : Value) (b : Bool), xs = [x, c] ∧ ClsV c u ∧ TyZ K H x t ∧ PySem.W.kitOne K t u = some b ∧ Q (.bl b) H
def rIsiTZ (K : PySem.W.Frag) : List V → Hp → VK → Prop := fun xs H Q => ∃ (x : V) (tp : Addr) (cs : List V) (t : Value) (us : List Value) (b : Bool), xs = [x, .ref tp] ∧ H tp = some (.tup cs) ∧ Paired ClsV cs us ∧ TyZ K H x t ∧ PySem.W.kitAny K t us = some b ∧ Q (.bl b) H
section
variable {X : Cx} {K : PySem.W.Frag}
theorem call_isiZ (hK : X.K = K) : CallR X (.builtin "isinstance") (rIsiZ K) := by
  subst hK
  intro pins s σ H xs us Q I r h
  obtain ⟨x, c, t, u, b, rfl, k, ty, e, q⟩ := h
  obtain ⟨u1, u2, rfl, r1, r2⟩ := vals2 r
  have e2 := k.eq r2
  subst e2
  obtain ⟨P, Z, p, hx⟩ := kit_ofZ I r1 ty
  exact PySem.W.kia_one Z I.kIn p e hx fun tk => ⟨.bl b, H, I.tok tk, rfl, q⟩
theorem call_isiTZ (hK : X.K = K) : CallR X (.builtin "isinstance") (rIsiTZ K) := by
  subst hK
  intro pins s σ H xs us Q I r h
  obtain ⟨x, tp, cs, t, ws, b, rfl, hT, k, ty, e, q⟩ := h
  obtain ⟨u1, u2, rfl, r1, r2⟩ := vals2 r
  cases (show u2 = Value.ref tp from r2)
  obtain ⟨P, Z, p, hx⟩ := kit_ofZ I r1 ty
  obtain ⟨_, its, rv, o, h1, h2, n, h3⟩ := (show ObjOk X.prog X.w H s.heap tp (.tup cs) from I.hok tp _ hT)
  have e3 := ClsV.all k rv
  subst e3
  obtain ⟨oc, od, dt, sl⟩ := o
  simp only at h2 h3
  subst h2 h3
  exact PySem.W.kia_tup Z I.kIn p h1 e hx fun tk => ⟨.bl b, H, I.tok tk, rfl, q⟩
end
end L2

set_option Elab.async false
set_option linter.all false
set_option maxRecDepth 100000
set_option maxHeartbeats 4000000
/-! x != y of two objects of a class with an own __eq__ and no __ne__ -/
namespace HN
open PySem PySem.Spec PyProof.Rows PySem.SeqAt
section
variable {M : Model} {prog : Program} {w : World} {A : Around} {E : Value → Shared → Prop} {s : Shared} {K : PySem.W.Frag} {x C f : Addr} {ox : Obj} {od : Option Obj} {b tb : Value}
theorem ifBound_objNe {args : List Value} {Q : Option Value → Shared → Prop} (X : K.In s.heap) (I : PySem.W.InstAt s.heap x ox C od) (hs : PySem.W.findIn K (.ref C) "__ne__" = some (some (.builtin "object.__ne__")))
    (h : wpAny M A (call (.builtin "object.__ne__") (.ref x :: args)) (fun v => Q (some v)) E s) : wpAny M A (callSpecialIfBound? (.ref x) "__ne__" args) Q E s := by
  simp only [callSpecialIfBound?, bindSpecialIfBound?]
  refine wpAny_holding (wpAny_bind (wpAny_bind (wpAny_bind (I.type.here ((PySem.W.looks_findIn X hs).here ?_)))))
  refine wpAny_bind (wpAny_askSetting (wpAny_ite ?_))
  have fin : wpAny M A (call (.builtin "object.__ne__") ([.ref x] ++ args) >>= fun v => pure (some v)) Q E s := wpAny_bind (wpAny_mono h (fun v s' h' => wpAny_pure h') fun _ _ h' => h')
  split
  · exact wpAny_bind (wpAny_of_eq (F.cmp_object.ne.bind _) (wpAny_pure (by exact fin)))
  · exact wpAny_tryCatch (wpAny_bind (wpAny_of_eq (F.cmp_object.ne.bind _) (wpAny_pure (by exact fin))))
/-- what object.__ne__ does, where the class's own __eq__ says True -/
theorem entry_ne {R : Fin → Shared → Prop} (hu : A.units < cLine) (X : K.In s.heap) (I : PySem.W.InstAt s.heap x ox C od) (hs : PySem.W.findIn K (.ref C) "__eq__" = some (some (.ref f))) (hf : PySem.W.isFn K (.ref f) = true)
    (h : wpAny M A (call (.ref f) [.ref x, b]) (fun v s' => v = .bool true ∧ R (.done (.ret (.bool false))) s') E s) : wpAny M A (Builtin.«object.__ne__» ⟨[.ref x, b], []⟩) R E s := by
  unfold Builtin.«object.__ne__»
  have q : wpAny M A (callSpecialIfBound? (.ref x) "__eq__" [b]) (fun r s' => r = some (.bool true) ∧ R (.done (.ret (.bool false))) s') E s :=
    PySem.W.ifBound_K X I hs hf (wpAny_mono h (fun v s' ⟨e, z⟩ => ⟨by rw [e], z⟩) fun _ _ z => z)
  repeat (first | with_reducible refine wpAny_cRoomFor hu ?_ | with_reducible refine wpAny_bind (wpAny_mono q (fun r s' ⟨e, z⟩ => ?_) fun _ _ z => z) | wp_step)
  subst e
  refine wpAny_bind (wpAny_truthy_bool ?_)
  exact wpAny_pure z
theorem call_objNe {Q : Value → Shared → Prop} (hu : A.in1.units < cLine) (X : K.In s.heap) (I : PySem.W.InstAt s.heap x ox C od) (hm : PySem.W.mroIn K C (.type "object") = some true) (hs : PySem.W.findIn K (.ref C) "__eq__" = some (some (.ref f))) (hf : PySem.W.isFn K (.ref f) = true)
    (h : wpAny (model prog w) A.in1 (call (.ref f) [.ref x, b]) (fun v s' => v = .bool true ∧ Q (.bool false) s') E s) :
    wpAny (model prog w) A (call (.builtin "object.__ne__") [.ref x, b]) Q E s :=
  wpAny_call (codeAny_call_builtin F.cmp_object.ne.plain F.cmpEntry_ne (PySem.W.check_slot F.cmpKind_ne F.cmpSplit_ne (I.type.andThen (PySem.W.looks_mroIn X hm)) (F.cmpArgs_ne _ _) (entry_ne hu X I hs hf h)))
theorem rc_ne {L : Addr} {h₀ : Heap} {m : Str → Option Value} {Q : Value → Shared → Prop} (hu : A.units < cLine) (hu1 : A.in1.units < cLine) (F : Fr h₀ L s.heap m) (X₀ : K.In h₀) (I : PySem.W.InstAt s.heap x ox C od) (hb : PySem.W.Looks (model prog w) s.heap (typeOf b) tb) (hn : PySem.W.notFirst K C tb = true)
    (hm : PySem.W.mroIn K C (.type "object") = some true) (hne : PySem.W.findIn K (.ref C) "__ne__" = some (some (.builtin "object.__ne__"))) (hs : PySem.W.findIn K (.ref C) "__eq__" = some (some (.ref f))) (hf : PySem.W.isFn K (.ref f) = true)
    (h : wpAny (model prog w) A.in1 (call (.ref f) [.ref x, b]) (fun v s' => v = .bool true ∧ Q (.bool false) s') E s) : wpAny (model prog w) A (richCompare .NotEq (.ref x) b) Q E s := by
  have X := X₀.keeps F.keep
  have one : wpAny (model prog w) A (tryCompare (.ref x) (cmpInfo .NotEq).2.1 b) (fun r s' => ∃ v, r = some v ∧ Q v s') E s := by
    unfold tryCompare
    refine wpAny_bind (ifBound_objNe X I hne (call_objNe hu1 X I hm hs hf (wpAny_mono h (fun v s' hv => ?_) fun _ _ e => e)))
    exact ⟨hv.1, wpAny_pure ⟨_, rfl, hv.2⟩⟩
  unfold richCompare
  simp only [oneThing_ref]
  refine wpAny_holding (wpAny_bind (wpAny_cRoomFor hu ?_))
  refine wpAny_bind (I.type.here (wpAny_bind (hb.here ?_)))
  split
  · rename_i q
    have e : PySem.W.subIn K tb (.ref C) = some false := by
      rcases Bool.or_eq_true_iff.mp hn with e | e
      · rw [beq_iff_eq.mp e] at q; simp at q
      · exact beq_iff_eq.mp e
    refine wpAny_bind ((PySem.W.looks_subIn X e).here ?_)
    simp only [Bool.false_eq_true, if_false]
    refine wpAny_bind (wpAny_mono one (fun r s' z => ?_) fun _ _ e => e)
    obtain ⟨v, rfl, hq⟩ := z
    exact wpAny_pure hq
  · refine wpAny_bind (wpAny_pure ?_)
    simp only [Bool.false_eq_true, if_false]
    refine wpAny_bind (wpAny_mono one (fun r s' z => ?_) fun _ _ e => e)
    obtain ⟨v, rfl, hq⟩ := z
    exact wpAny_pure hq
end
end HN
namespace L2
open PySem PySem.Spec PyProof.Rows
section
variable {X : Cx} {n : Nat}
def rNeG (D : Eqv) : R2 := fun x y H Q => D x y H ∧ ∀ H', Ext H H' → Q (.bl false) H'
/-- x != y, two objects of the class at C, equal by its own __eq__ -/
theorem op_neG {CX : CXT} {C f : Addr} {fd : FuncData} {ps : List Str} {R : Addr → Addr → Hp → Prop} {E : XK} (F : FnOk X.prog X.w X.K X.mg X.base CX n f fd ps (spEq R))
    (hs : PySem.W.findIn X.K (.ref C) "__eq__" = some (some (.ref f))) (hf : PySem.W.isFn X.K (.ref f) = true) (hne : PySem.W.findIn X.K (.ref C) "__ne__" = some (some (.builtin "object.__ne__"))) (hm : PySem.W.mroIn X.K C (.type "object") = some true)
    (hb : Binds X.K fd ps []) (hx : Passes CX X E) (hr : Room (n + 1) X.A) : OpR X (compareOp .NotEq) (rNeG (DIns C R)) := by
  intro pins s σ H x y u v Q I rx ry hq
  obtain ⟨⟨a, b, dx, dy, fs, gs, rfl, rfl, ha, hb', hr'⟩, q⟩ := hq
  cases rx
  cases ry
  have sb : Sub X n X.A.in1 := Sub.in1 ⟨hr, rfl⟩
  obtain ⟨mA, J, _⟩ := ins_get I.hok ha
  obtain ⟨mB, J', _⟩ := ins_get I.hok hb'
  obtain ⟨od, J, _⟩ := J.look
  obtain ⟨od', J', _⟩ := J'.look
  obtain ⟨m, hF⟩ := I.fr
  show wpAny (model X.prog X.w) X.A (richCompare .NotEq (.ref a) (.ref b)) (EP X pins σ Q) X.xe s
  refine HN.rc_ne (tb := .ref C) hr.units0 sb.room.units0 hF I.ok.mod.kin J J'.type (by simp [PySem.W.notFirst]) hm hne hs hf ?_
  have hsp : spEq R [.ref a, .ref b] H (fun v H' => v = .bl true ∧ Ext H H') E := ⟨a, b, rfl, hr', fun H' e => ⟨rfl, e⟩⟩
  have e0 : Env0 X.prog X.w X.K X.mg X.base X.A.in1 X.stack s H := by
    have e := I.env0
    exact ⟨by rw [sb.fr]; exact e.frames, e.mod, e.bs, e.bsz, e.funs, e.frf, e.hok, e.bare⟩
  have hl := F.len _ _ _ _ hsp
  have r2 : Vals [V.ref a, V.ref b] [Value.ref a, Value.ref b] := .cons rfl (.cons rfl .nil)
  refine wpAny_call (codeAny_mono (F.run X.A.in1 X.stack s H ⟨[.ref a, .ref b], []⟩ [.ref a, .ref b] [.ref a, .ref b] _ E sb.room e0 (by
    have := hb s [.ref a, .ref b] I.kIn (by simpa using hl)
    simpa using this) r2 hsp) fun r s' hq => ?_)
  cases r with
  | error e => exact hx pins σ H s e s' I hq
  | ok fl =>
    cases fl with
    | ret w =>
      obtain ⟨z, H', I', rz, ez, ex⟩ := I.after hq
      subst ez
      cases rz
      exact ⟨rfl, .bl false, H', I', rfl, q H' ex⟩
    | next => exact False.elim hq
    | brk => exact False.elim hq
    | cont => exact False.elim hq
end
end L2

set_option Elab.async false
set_option linter.all false
set_option maxRecDepth 100000
set_option maxHeartbeats 4000000
/-! x != y of two objects of a class with an own __eq__ and no __ne__ -/
namespace HNB
open PySem PySem.Spec PyProof.Rows PySem.SeqAt
section
variable {M : Model} {prog : Program} {w : World} {A : Around} {E : Value → Shared → Prop} {s : Shared} {K : PySem.W.Frag} {x C f : Addr} {ox : Obj} {od : Option Obj} {b tb : Value} {rb : Bool}
theorem ifBound_objNe {args : List Value} {Q : Option Value → Shared → Prop} (X : K.In s.heap) (I : PySem.W.InstAt s.heap x ox C od) (hs : PySem.W.findIn K (.ref C) "__ne__" = some (some (.builtin "object.__ne__")))
    (h : wpAny M A (call (.builtin "object.__ne__") (.ref x :: args)) (fun v => Q (some v)) E s) : wpAny M A (callSpecialIfBound? (.ref x) "__ne__" args) Q E s := by
  simp only [callSpecialIfBound?, bindSpecialIfBound?]
  refine wpAny_holding (wpAny_bind (wpAny_bind (wpAny_bind (I.type.here ((PySem.W.looks_findIn X hs).here ?_)))))
  refine wpAny_bind (wpAny_askSetting (wpAny_ite ?_))
  have fin : wpAny M A (call (.builtin "object.__ne__") ([.ref x] ++ args) >>= fun v => pure (some v)) Q E s := wpAny_bind (wpAny_mono h (fun v s' h' => wpAny_pure h') fun _ _ h' => h')
  split
  · exact wpAny_bind (wpAny_of_eq (F.cmp_object.ne.bind _) (wpAny_pure (by exact fin)))
  · exact wpAny_tryCatch (wpAny_bind (wpAny_of_eq (F.cmp_object.ne.bind _) (wpAny_pure (by exact fin))))
/-- what object.__ne__ does, where the class's own __eq__ says True -/
theorem entry_ne {R : Fin → Shared → Prop} (hu : A.units < cLine) (X : K.In s.heap) (I : PySem.W.InstAt s.heap x ox C od) (hs : PySem.W.findIn K (.ref C) "__eq__" = some (some (.ref f))) (hf : PySem.W.isFn K (.ref f) = true)
    (h : wpAny M A (call (.ref f) [.ref x, b]) (fun v s' => v = .bool rb ∧ R (.done (.ret (.bool (!rb)))) s') E s) : wpAny M A (Builtin.«object.__ne__» ⟨[.ref x, b], []⟩) R E s := by
  unfold Builtin.«object.__ne__»
  have q : wpAny M A (callSpecialIfBound? (.ref x) "__eq__" [b]) (fun r s' => r = some (.bool rb) ∧ R (.done (.ret (.bool (!rb)))) s') E s :=
    PySem.W.ifBound_K X I hs hf (wpAny_mono h (fun v s' ⟨e, z⟩ => ⟨by rw [e], z⟩) fun _ _ z => z)
  repeat (first | with_reducible refine wpAny_cRoomFor hu ?_ | with_reducible refine wpAny_bind (wpAny_mono q (fun r s' ⟨e, z⟩ => ?_) fun _ _ z => z) | wp_step)
  subst e
  refine wpAny_bind (wpAny_truthy_bool ?_)
  exact wpAny_pure z
theorem call_objNe {Q : Value → Shared → Prop} (hu : A.in1.units < cLine) (X : K.In s.heap) (I : PySem.W.InstAt s.heap x ox C od) (hm : PySem.W.mroIn K C (.type "object") = some true) (hs : PySem.W.findIn K (.ref C) "__eq__" = some (some (.ref f))) (hf : PySem.W.isFn K (.ref f) = true)
    (h : wpAny (model prog w) A.in1 (call (.ref f) [.ref x, b]) (fun v s' => v = .bool rb ∧ Q (.bool (!rb)) s') E s) :
    wpAny (model prog w) A (call (.builtin "object.__ne__") [.ref x, b]) Q E s :=
  wpAny_call (codeAny_call_builtin F.cmp_object.ne.plain F.cmpEntry_ne (PySem.W.check_slot F.cmpKind_ne F.cmpSplit_ne (I.type.andThen (PySem.W.looks_mroIn X hm)) (F.cmpArgs_ne _ _) (entry_ne (rb := rb) hu X I hs hf h)))
theorem rc_ne {L : Addr} {h₀ : Heap} {m : Str → Option Value} {Q : Value → Shared → Prop} (hu : A.units < cLine) (hu1 : A.in1.units < cLine) (F : Fr h₀ L s.heap m) (X₀ : K.In h₀) (I : PySem.W.InstAt s.heap x ox C od) (hb : PySem.W.Looks (model prog w) s.heap (typeOf b) tb) (hn : PySem.W.notFirst K C tb = true)
    (hm : PySem.W.mroIn K C (.type "object") = some true) (hne : PySem.W.findIn K (.ref C) "__ne__" = some (some (.builtin "object.__ne__"))) (hs : PySem.W.findIn K (.ref C) "__eq__" = some (some (.ref f))) (hf : PySem.W.isFn K (.ref f) = true)
    (h : wpAny (model prog w) A.in1 (call (.ref f) [.ref x, b]) (fun v s' => v = .bool rb ∧ Q (.bool (!rb)) s') E s) : wpAny (model prog w) A (richCompare .NotEq (.ref x) b) Q E s := by
  have X := X₀.keeps F.keep
  have one : wpAny (model prog w) A (tryCompare (.ref x) (cmpInfo .NotEq).2.1 b) (fun r s' => ∃ v, r = some v ∧ Q v s') E s := by
    unfold tryCompare
    refine wpAny_bind (ifBound_objNe X I hne (call_objNe (rb := rb) hu1 X I hm hs hf (wpAny_mono h (fun v s' hv => ?_) fun _ _ e => e)))
    exact ⟨hv.1, wpAny_pure ⟨_, rfl, hv.2⟩⟩
  unfold richCompare
  simp only [oneThing_ref]
  refine wpAny_holding (wpAny_bind (wpAny_cRoomFor hu ?_))
  refine wpAny_bind (I.type.here (wpAny_bind (hb.here ?_)))
  split
  · rename_i q
    have e : PySem.W.subIn K tb (.ref C) = some false := by
      rcases Bool.or_eq_true_iff.mp hn with e | e
      · rw [beq_iff_eq.mp e] at q; simp at q
      · exact beq_iff_eq.mp e
    refine wpAny_bind ((PySem.W.looks_subIn X e).here ?_)
    simp only [Bool.false_eq_true, if_false]
    refine wpAny_bind (wpAny_mono one (fun r s' z => ?_) fun _ _ e => e)
    obtain ⟨v, rfl, hq⟩ := z
    exact wpAny_pure hq
  · refine wpAny_bind (wpAny_pure ?_)
    simp only [Bool.false_eq_true, if_false]
    refine wpAny_bind (wpAny_mono one (fun r s' z => ?_) fun _ _ e => e)
    obtain ⟨v, rfl, hq⟩ := z
    exact wpAny_pure hq
end
end HNB
namespace L2
open PySem PySem.Spec PyProof.Rows
section
variable {X : Cx} {n : Nat}
/-- what the own == says of two objects -/
def spEqB (R : Addr → Addr → Bool → Hp → Prop) : Sp := fun vs H Q _ => ∃ a b r, vs = [.ref a, .ref b] ∧ R a b r H ∧ ∀ H', Ext H H' → Q (.bl r) H'
def rEqB (C : Addr) (R : Addr → Addr → Bool → Hp → Prop) : R2 := fun x y H Q => ∃ a b dx dy fs gs r, x = .ref a ∧ y = .ref b ∧ H a = some (.ins C dx fs) ∧ H b = some (.ins C dy gs) ∧ R a b r H ∧ ∀ H', Ext H H' → Q (.bl r) H'
def rNeB (C : Addr) (R : Addr → Addr → Bool → Hp → Prop) : R2 := fun x y H Q => ∃ a b dx dy fs gs r, x = .ref a ∧ y = .ref b ∧ H a = some (.ins C dx fs) ∧ H b = some (.ins C dy gs) ∧ R a b r H ∧ ∀ H', Ext H H' → Q (.bl (!r)) H'
/-- the call of the own == -/
theorem call_eqB {CX : CXT} {f : Addr} {fd : FuncData} {ps : List Str} {R : Addr → Addr → Bool → Hp → Prop} {E : XK} {A : Around} {pins : List (Addr × Obj)} {σ : St} {H : Hp} {s : Shared} {a b : Addr} {r : Bool} (F : FnOk X.prog X.w X.K X.mg X.base CX n f fd ps (spEqB R))
    (hb : Binds X.K fd ps []) (hx : Passes CX X E) (sb : Sub X n A) (I : Inv X pins σ H s) (hr : R a b r H) :
    wpAny (model X.prog X.w) A (call (.ref f) [.ref a, .ref b]) (fun v s' => v = .bool r ∧ ∃ H', Inv X pins σ H' s' ∧ Ext H H') X.xe s := by
  have hsp : spEqB R [.ref a, .ref b] H (fun v H' => v = .bl r ∧ Ext H H') E := ⟨a, b, r, rfl, hr, fun H' e => ⟨rfl, e⟩⟩
  have e0 : Env0 X.prog X.w X.K X.mg X.base A X.stack s H := by
    obtain ⟨p1, p2, p3, p4, p5, p6, p7, p8⟩ := I.env0
    exact ⟨by rw [sb.fr]; exact p1, p2, p3, p4, p5, p6, p7, p8⟩
  have two : Vals [V.ref a, V.ref b] [Value.ref a, Value.ref b] := .cons rfl (.cons rfl .nil)
  have bd := hb s [.ref a, .ref b] I.kIn (by simpa using F.len _ _ _ _ hsp)
  have go := F.run A X.stack s H ⟨[.ref a, .ref b], []⟩ [.ref a, .ref b] [.ref a, .ref b] _ E sb.room e0 (by simpa using bd) two hsp
  refine wpAny_call (codeAny_mono go fun z t hz => ?_)
  match z, hz with
  | .error e, hz => exact hx pins σ H s e t I hz
  | .ok (.ret w'), hz =>
    obtain ⟨y, H', I', ry, rfl, ex⟩ := I.after hz
    cases ry
    exact ⟨rfl, H', I', ex⟩
  | .ok .next, hz => exact hz.elim
  | .ok .brk, hz => exact hz.elim
  | .ok .cont, hz => exact hz.elim
theorem op_eqB {CX : CXT} {C f : Addr} {fd : FuncData} {ps : List Str} {R : Addr → Addr → Bool → Hp → Prop} {E : XK} (F : FnOk X.prog X.w X.K X.mg X.base CX n f fd ps (spEqB R))
    (hs : PySem.W.findIn X.K (.ref C) "__eq__" = some (some (.ref f))) (hf : PySem.W.isFn X.K (.ref f) = true) (hb : Binds X.K fd ps []) (hx : Passes CX X E) (hr : Room n X.A) : OpR X (compareOp .Eq) (rEqB C R) := by
  intro pins s σ H x y u v Q I rx ry hq
  obtain ⟨a, b, dx, dy, fs, gs, r, rfl, rfl, ha, hb', hR, q⟩ := hq
  cases rx
  cases ry
  obtain ⟨mA, J, _⟩ := ins_get I.hok ha
  obtain ⟨mB, J', _⟩ := ins_get I.hok hb'
  obtain ⟨od, J, _⟩ := J.look
  obtain ⟨od', J', _⟩ := J'.look
  obtain ⟨m, hF⟩ := I.fr
  show wpAny (model X.prog X.w) X.A (richCompare .Eq (.ref a) (.ref b)) (EP X pins σ Q) X.xe s
  refine PySem.W.cmp_K (tb := .ref C) hr.units0 hF I.ok.mod.kin J J'.type (by simp [PySem.W.notFirst]) hs hf (wpAny_mono (call_eqB F hb hx ⟨hr, rfl⟩ I hR) (fun w' t z => ?_) fun _ _ e => e)
  obtain ⟨rfl, H', I', ex⟩ := z
  exact ⟨.bl r, H', I', rfl, q H' ex⟩
theorem op_neB {CX : CXT} {C f : Addr} {fd : FuncData} {ps : List Str} {R : Addr → Addr → Bool → Hp → Prop} {E : XK} (F : FnOk X.prog X.w X.K X.mg X.base CX n f fd ps (spEqB R))
    (hs : PySem.W.findIn X.K (.ref C) "__eq__" = some (some (.ref f))) (hf : PySem.W.isFn X.K (.ref f) = true) (hne : PySem.W.findIn X.K (.ref C) "__ne__" = some (some (.builtin "object.__ne__"))) (hm : PySem.W.mroIn X.K C (.type "object") = some true)
    (hb : Binds X.K fd ps []) (hx : Passes CX X E) (hr : Room (n + 1) X.A) : OpR X (compareOp .NotEq) (rNeB C R) := by
  intro pins s σ H x y u v Q I rx ry hq
  obtain ⟨a, b, dx, dy, fs, gs, r, rfl, rfl, ha, hb', hR, q⟩ := hq
  cases rx
  cases ry
  obtain ⟨mA, J, _⟩ := ins_get I.hok ha
  obtain ⟨mB, J', _⟩ := ins_get I.hok hb'
  obtain ⟨od, J, _⟩ := J.look
  obtain ⟨od', J', _⟩ := J'.look
  obtain ⟨m, hF⟩ := I.fr
  have sb : Sub X n X.A.in1 := Sub.in1 ⟨hr, rfl⟩
  show wpAny (model X.prog X.w) X.A (richCompare .NotEq (.ref a) (.ref b)) (EP X pins σ Q) X.xe s
  refine HNB.rc_ne (tb := .ref C) (rb := r) hr.units0 sb.room.units0 hF I.ok.mod.kin J J'.type (by simp [PySem.W.notFirst]) hm hne hs hf (wpAny_mono (call_eqB F hb hx sb I hR) (fun w' t z => ?_) fun _ _ e => e)
  obtain ⟨rfl, H', I', ex⟩ := z
  exact ⟨rfl, .bl (!r), H', I', rfl, q H' ex⟩
end
end L2

set_option Elab.async false
set_option linter.all false
set_option maxRecDepth 100000
set_option maxHeartbeats 4000000
namespace PySem
namespace ExX
open PySem.W PySem.Calls PyProof.Rows
theorem refsEX_of : ∀ l : List Value, excTail exTail l = true → refsEX l = true := by
  intro l
  induction l with
  | nil => intro h; exact absurd h (by decide +kernel)
  | cons a r ih =>
    intro h
    rcases excTail_cases (bmB := exTail) (a :: r) h with ⟨c, r', e, q⟩ | e
    · cases e
      exact ih q
    · rw [e]; rfl
theorem excT_cls {K : Frag} {C : Addr} (q : excInitIn K C exTail "Exception.__new__" = true) (hd : hasDictIn K C = true) :
    ∃ nm q N bs bm sn sub ab col dd k0 k1 k2 k3 k5, K.lookup C = some (excClassObj nm q C N bs bm true sn sub ab col dd k0 k1 k2 k3 k5 "Exception.__new__") ∧ refsEX bm = true := by
  unfold excInitIn at q
  split at q
  · rename_i dd cd sl ho
    split at q
    · rename_i C' bm k0 k1 k2 k3 n k5 hm hs
      simp only [Bool.and_eq_true, beq_iff_eq, Bool.not_eq_true'] at q
      obtain ⟨⟨⟨rfl, rfl⟩, hdel⟩, ht⟩ := q
      obtain ⟨nm, bs, mro, ns, qn, hd', sn, sub, ab, col, del⟩ := cd
      dsimp only at hm hdel
      subst hm hdel
      have hsl : sl = #[k0, k1, k2, k3, some (.builtin "Exception.__new__"), k5] := by
        obtain ⟨l⟩ := sl
        simp only at hs
        rw [hs]
      subst hsl
      have e : hd' = true := by
        unfold hasDictIn at hd
        have hc : clsIn K C' = some ⟨nm, bs, .ref C' :: bm, ns, qn, hd', sn, sub, ab, col, false⟩ := by unfold clsIn; rw [ho]
        rw [hc] at hd
        simpa using hd
      subst e
      exact ⟨nm, qn, ns, bs, bm, sn, sub, ab, col, dd, k0, k1, k2, k3, k5, ho, refsEX_of _ ht⟩
    · cases q
  · cases q
end ExX
end PySem

set_option Elab.async false
set_option linter.all false
set_option maxRecDepth 100000
set_option maxHeartbeats 4000000
/-! zip of two texts, in a for and in a comprehension -/
namespace L2
open PySem PySem.Spec PyProof.Rows
/-- two texts at once, the signs in new pairs -/
def ItzS (x y : Str) : It :=
  ⟨fun i _ => i < min x.cps.size y.cps.size,
    fun i H v H' => ∃ T c d, v = .ref T ∧ H T = none ∧ H' = upd H T (.tup [.str ⟨#[c]⟩, .str ⟨#[d]⟩]) ∧ x.cps[i]? = some c ∧ y.cps[i]? = some d,
    fun i _ => i = min x.cps.size y.cps.size⟩
theorem turn_zipS {P : Program} {w : World} {K : PySem.W.Frag} {elts : List Expr} {kk : Nat} {tpos : Pos} {x y : Str} {t1 t2 : Tok} {z TI TO i1 i2 : Addr} (D : ZipSep2 z TI TO i1 i2 [i1] [i2]) :
    Turn P w K (.Tuple elts kk tpos) (ItzS x y) [z, TI, TO, i1, i2] z (fun i h => IsZip h z TI TO .none ∧ IsTupOf2 h TI (.ref i1) (.ref i2) ∧ (∃ x y, IsTupOf2 h TO x y) ∧ h.IsStrIter i1 (strIterType x) x t1 i ∧ h.IsStrIter i2 (strIterType y) y t2 i) where
  mem := by simp
  obj := fun i h st c hc => by
    obtain ⟨hz, hTI, ⟨x, y, hTO⟩, ⟨o1, e1, _, d1⟩, ⟨o2, e2, _, d2⟩⟩ := st
    have e' : c = z ∨ c = TI ∨ c = TO ∨ c = i1 ∨ c = i2 := by simpa using hc
    rcases e' with q | q | q | q | q
    · rw [q]; exact ⟨_, hz, fun v q => nomatch q⟩
    · rw [q]; exact ⟨_, hTI, fun v q => nomatch q⟩
    · rw [q]; exact ⟨_, hTO, fun v q => nomatch q⟩
    · rw [q]; exact ⟨o1, e1, fun v q => by rw [d1] at q; cases q⟩
    · rw [q]; exact ⟨o2, e2, fun v q => by rw [d2] at q; cases q⟩
  keep := fun i h h' st k => by
    obtain ⟨hz, hTI, ⟨x, y, hTO⟩, ⟨o1, e1, r1⟩, ⟨o2, e2, r2⟩⟩ := st
    exact ⟨k z (by simp) _ hz, k TI (by simp) _ hTI, ⟨x, y, k TO (by simp) _ hTO⟩, ⟨o1, k i1 (by simp) _ e1, r1⟩, ⟨o2, k i2 (by simp) _ e2, r2⟩⟩
  item := by
    intro X hP hw hK hc i pins s σ H E I hf st hg
    subst hP hw hK
    obtain ⟨hz, hTI, ⟨x0, y0, hTO⟩, h1, h2⟩ := st
    have hg' : i < min x.cps.size y.cps.size := hg
    have hzl : z < s.heap.objs.size := Heap.lt_size hz
    have hd := I.ok.hd hc
    refine wpAny_pyNext_zipD2_item D (Draws.text (A := X.A.in1) hd i1 x t1) (Draws.text (A := X.A.in1) hd i2 y t2) hz hTI hTO h1 h2 (by omega) (by omega) fun u u2 h' tk p1 p2 z' TO' h1' h2' hT hsz hk => ?_
    obtain ⟨c, tc, hcx, rfl⟩ := p1
    obtain ⟨d, td, hdy, rfl⟩ := p2
    refine ⟨_, rfl, wpAny_letOwnedTupleGo_zip (s := { s with heap := h', toks := tk }) z' fun h'' z'' sb => ?_⟩
    have hT2 : h''.get? s.heap.objs.size = some { cls := .type "tuple", data := .seq #[.str ⟨#[c]⟩ tc, .str ⟨#[d]⟩ td] } := (sb.2 _ (Nat.ne_of_gt hzl)).trans hT
    have new : ObjOk X.prog X.w (upd H s.heap.objs.size (.tup [.str ⟨#[c]⟩, .str ⟨#[d]⟩])) h'' s.heap.objs.size (.tup [.str ⟨#[c]⟩, .str ⟨#[d]⟩]) :=
      ⟨by show 2 ≤ sizeLine; decide, [.str ⟨#[c]⟩ tc, .str ⟨#[d]⟩ td], .cons ⟨_, rfl⟩ (.cons ⟨_, rfl⟩ .nil), ⟨_, hT2, rfl, _, rfl⟩⟩
    have I1 : Inv X pins σ (upd H s.heap.objs.size (.tup [.str ⟨#[c]⟩, .str ⟨#[d]⟩])) { s with heap := h'', toks := tk } :=
      I.turnedNew (t' := tk) (ch := [z, TI, TO, i1, i2]) (fun c o hb q => (sb.2 c (fun q' => hb (by simp [q']))).trans (hk c o (fun q' => hb (by simp [q'])) (fun q' => hb (by simp [q'])) (fun q' => hb (by simp [q'])) (fun q' => hb (by simp [q'])) q)) hf (Nat.le_refl _) new
    have nz1 : i1 ≠ z := D.zi1.symm
    have nz2 : i2 ≠ z := D.zi2.symm
    refine ⟨.ref s.heap.objs.size, _, I1, rfl, ⟨_, c, d, rfl, I.hok.fresh (Nat.le_refl _), rfl, hcx, hdy⟩, ⟨z'', ?_, ⟨_, _, (sb.2 _ D.TOz).trans TO'⟩, ?_, ?_⟩, fun c hcm => ?_⟩
    · exact (sb.2 _ D.TIz).trans (hk _ _ D.TIz D.TITO D.TIi1 D.TIi2 hTI)
    · obtain ⟨o, e, r⟩ := h1'
      exact ⟨o, (sb.2 _ nz1).trans e, r⟩
    · obtain ⟨o, e, r⟩ := h2'
      exact ⟨o, (sb.2 _ nz2).trans e, r⟩
    · have hlt : c < s.heap.objs.size := by
        have e' : c = z ∨ c = TI ∨ c = TO ∨ c = i1 ∨ c = i2 := by simpa using hcm
        rcases e' with q | q | q | q | q
        · rw [q]; exact hzl
        · rw [q]; exact Heap.lt_size hTI
        · rw [q]; exact Heap.lt_size hTO
        · rw [q]; obtain ⟨_, e1, _⟩ := h1; exact Heap.lt_size e1
        · rw [q]; obtain ⟨_, e2, _⟩ := h2; exact Heap.lt_size e2
      rw [upd_ne (Nat.ne_of_lt hlt)]
      exact (hf c hcm).1
  done := by
    intro X hP hw hK hc i pins s σ H E I hf st hg
    subst hP hw hK
    obtain ⟨hz, hTI, ⟨x0, y0, hTO⟩, h1, h2⟩ := st
    have hg' : i = min x.cps.size y.cps.size := hg
    have hd := I.ok.hd hc
    exact wpAny_pyNext_zipD2_end D (Draws.text (A := X.A.in1) hd i1 x t1) (Draws.text (A := X.A.in1) hd i2 y t2) hz hTI hTO h1 h2 (by omega) (by omega) (by omega) fun h' tk hk => ⟨rfl, I.turnedL (t' := tk) (ch := [z, TI, TO, i1, i2]) (fun c o hb q =>
      hk c o (fun q' => hb (by simp [q'])) (fun q' => hb (by simp [q'])) (fun q' => hb (by simp [q'])) (fun q' => hb (by simp [q'])) q) hf⟩
  self := fun A i s Q E st h => wpAny_pyIter_zip st.1 h
def iZipS (ta : TA) : TI := fun σ H R => ta σ H fun vs H1 => ∃ x y, vs = [.str x, .str y] ∧ R (ItzS x y) H1
theorem pi_zipS {X : Cx} {e e2 : Expr} {ta : TA} {p pos tpos : Pos} {elts : List Expr} {kk : Nat} (hg : Gl X "zip") (hm : X.mg "zip" = none) (ha : PA X [e, e2] ta)
    (hs : starEach [e, e2] X.env = (false, eval e X.env) :: starEach [e2] X.env := by rfl) (hpl : (backTo pos (starEach [e2] X.env)).any (·.1) = false := by rfl) :
    PI X (.Tuple elts kk tpos) (.Call (.Name "zip" p) [e, e2] [] pos) (iZipS ta) := by
  refine ⟨fun pins s σ H R I h => ?_⟩
  refine Call_ (ld_blt I hg hm PyProof.Rows.boot_zip (PyProof.Rows.callWith_type1 (thn (ha.run pos pins s σ H _ I h) fun us s1 ⟨vs, H1, I1, r1, q1⟩ => ?_) hs hpl))
  obtain ⟨x, y, ex, q⟩ := q1
  subst ex
  cases r1 with
  | cons r rr =>
    cases rr with
    | cons r' rr =>
      cases rr
      obtain ⟨t1, rfl⟩ := r
      obtain ⟨t2, rfl⟩ := r'
      refine zip_begins2 (begins_text x t1) (begins_text y t2) trivial trivial fun h' hz hTI hTO h1 h2 hsz hk => wpAny_pyIter_zip hz ?_
      have I2 : Inv X pins σ H1 { s1 with heap := h' } := I1.kept (t' := s1.toks) hk
      generalize hn : s1.heap.objs.size = n at hz hTI hTO h1 h2 hsz ⊢
      have D : ZipSep2 (n + 4) (n + 2) (n + 3) n (n + 1) [n] [n + 1] := by constructor <;> simp <;> omega
      refine ⟨n + 4, [n + 4, n + 2, n + 3, n, n + 1], _, _, H1, rfl, I2, turn_zipS (t1 := t1) (t2 := t2) D, ⟨hz, hTI, ⟨_, _, hTO⟩, ⟨_, h1, rfl, rfl⟩, ⟨_, h2, rfl, rfl⟩⟩, fun c hcm => ?_, q⟩
      have e' : c = n + 4 ∨ c = n + 2 ∨ c = n + 3 ∨ c = n ∨ c = n + 1 := by simpa using hcm
      have hle : s1.heap.objs.size ≤ c := by
        rw [hn]
        rcases e' with q | q | q | q | q
        · rw [q]; exact Nat.le_add_right _ _
        · rw [q]; exact Nat.le_add_right _ _
        · rw [q]; exact Nat.le_add_right _ _
        · rw [q]; exact Nat.le_refl _
        · rw [q]; exact Nat.le_add_right _ _
      exact I1.fpOk hle (I1.hok.fresh hle)
end L2

set_option Elab.async false
set_option linter.all false
set_option maxRecDepth 100000
set_option maxHeartbeats 4000000
/-! a call by keywords alone; a text times a number -/
namespace L2
open PySem PySem.Spec PyProof.Rows
theorem Fun.kbinds {K : PySem.W.Frag} {x qual : Str} {st : Stmt} {f : Addr} {fd : FuncData} {ps ks : List Str} (F : Fun K x qual st f fd) (g : {α : Type} → List α → List α)
    (h : ∀ (kV doc pm : Value) (an : Option Addr) (cdv ct : Value) (ws : List Value), ws.length = ks.length → bindArgs (PySem.W.fnOf x qual (defArgs st) (defBody st) (defScope st) .none kV doc pm an cdv ct) ⟨[], ks.zip ws⟩ = pure (ps.zip (g ws)))
    (hrel : ∀ {zs : List V} {ws : List Value}, Vals zs ws → Vals (g zs) (g ws)) : KBn K fd ps 0 ks (fun _ ws => g ws) (fun _ zs => g zs) := by
  obtain ⟨oc, od, kV, doc, pm, an, cdv, ct, osl, rfl, lk, hcd⟩ := F.ex
  refine ⟨fun s us ws _ h0 hl => ?_, fun _ r => hrel r⟩
  cases us with
  | nil => exact BindsTo.of_eq (h kV doc pm an cdv ct ws hl)
  | cons a r => cases h0
section
variable {X : Cx} {CX : CXT} {k : Nat} {f : Addr} {fd : FuncData} {ps ks : List Str} {sp : Sp} {E : XK} {x : Str} {p pos : Pos} {kws : List Keyword} {tk : TA} {g : List Value → List Value → List Value} {gV : List V → List V → List V}
theorem pe_callN0 (F : FnOk X.prog X.w X.K X.mg X.base CX k f fd ps sp) (hr : Room k X.A) (hg : Gl X x) (hm : X.mg x = some (.ref f)) (hk : PySem.W.keepIn X.K (.ref f) = true) (hb : KBn X.K fd ps 0 ks g gV) (hx : Passes CX X E)
    (hkw : PK X kws tk) (hall : (backToKw pos (keywordEach kws X.env)).all (·.1.isSome) = true := by rfl) (hks : (backToKw pos (keywordEach kws X.env)).filterMap (·.1) = ks := by rfl)
    (hdb : (x == ("__debug__" : Str)) = false := by decide)
    (hpl : ((backTo pos (starEach [] X.env)).any (·.1) || (backToKw pos (keywordEach kws X.env)).any (·.1.isNone)) = false := by rfl) :
    PE X (.Call (.Name x p) [] kws pos) (tCallN 0 ks.length sp gV E tNil tk) := by
  refine ⟨fun pins s σ H Q I h => ?_⟩
  refine wpAny_Call_Name_kw (ld_glob I hg hm ?_ hdb)
  refine PySem.W.callWith_KW0 (h₀ := X.base) I.ok.mod.kin hk hall ?_ hpl
  refine thn (hkw.run pos pins s σ H _ I h) fun ws s2 ⟨zs, H2, I2, rz, l1, l2, q2⟩ => ⟨I2.kIn, ?_⟩
  rw [hks]
  exact run_fnN (us := []) (vs := []) F hr hb hx I2 .nil rz rfl l2 q2
theorem op_mul_str : OpR X (binaryOp .Mult) (fun x y H Q => ∃ z n, x = .str z ∧ y = .int n ∧ z.length ≤ 16 ∧ -(2 ^ 63 : Int) ≤ n ∧ n ≤ 1048576 ∧ Q (.str (Txt.mul z n)) H) := by
  intro pins s σ H x y v u Q I rx ry h
  obtain ⟨z, n, rfl, rfl, h1, h2, h3, q⟩ := h
  obtain ⟨t, rfl⟩ := rx
  obtain ⟨t', rfl⟩ := ry
  exact SB.mul (mulOk_of 16 1048576 h1 h3 h2 (by decide) (by decide)) fun t' tk => ⟨.str _, H, I.tok _, ⟨_, rfl⟩, q⟩
end
end L2

set_option Elab.async false
set_option linter.all false
set_option maxRecDepth 100000
/-! the rules whose reading names the written part, with that part a letter of its own (within a comprehension the place's own name of it can't be found by unification) -/
namespace L2
open PySem PySem.Spec PyProof.Rows
variable {X : Cx} {K : PySem.W.Frag}
theorem ix_listK (h : X.K = K) : IxR X (rIxL K) := by subst h; exact ix_list
theorem ix_tupK (h : X.K = K) : IxR X (rIxT K) := by subst h; exact ix_tup
theorem call_tuple_ofK (h : X.K = K) : CallR X (.type "tuple") (fun xs H Q => ∃ p ys, xs = [.ref p] ∧ ((SqL K H p ys ∧ ∀ l, H l = none → Q (.ref l) (upd H l (.tup ys))) ∨ (SqT K H p ys ∧ Q (.ref p) H))) := by subst h; exact call_tuple_of
theorem call_list_ofK (h : X.K = K) : CallR X (.type "list") (fun xs H Q => ∃ p ys, xs = [.ref p] ∧ (SqL K H p ys ∨ SqT K H p ys) ∧ ∀ l, H l = none → Q (.ref l) (upd H l (.lst ys))) := by subst h; exact call_list_of
theorem call_len_seqK (h : X.K = K) : CallR X (.builtin "len") (fun xs H Q => ∃ p ys, xs = [.ref p] ∧ (SqL K H p ys ∨ SqT K H p ys) ∧ Q (.int ys.length) H) := by subst h; exact call_len_seq
theorem call_isiK' (h : X.K = K) : CallR X (.builtin "isinstance") (rIsi K) := by subst h; exact call_isi
theorem call_isiTK (h : X.K = K) : CallR X (.builtin "isinstance") (rIsiT K) := by subst h; exact call_isiT
theorem sl_listK (h : X.K = K) : SlR X (rSlL K) := by subst h; exact sl_list
theorem cr_allK (h : X.K = K) (hc : X.calm = true) : CallR X (.builtin "all") (rAll K) := by subst h; exact cr_all hc
theorem cr_anyK (h : X.K = K) (hc : X.calm = true) : CallR X (.builtin "any") (rAny K) := by subst h; exact cr_any hc
theorem cr_sumK (h : X.K = K) (hc : X.calm = true) : CallR X (.builtin "sum") (rSum K) := by subst h; exact cr_sum hc
end L2


set_option Elab.async false
set_option linter.all false
set_option maxRecDepth 100000
set_option maxHeartbeats 4000000
/-! sorted of lists of tuples of ints and texts, and of texts, of any length: one total order -/
namespace SrtC
open PySem PySem.Spec PyProof.Rows Srt SrtO L2
/-! ### the order of texts and cells -/
def sLt (x y : Str) : Bool := decide (x.cps.toList < y.cps.toList)
theorem str_ext {x y : Str} (h : x.cps.toList = y.cps.toList) : x = y := by
  cases x; cases y
  exact congrArg _ (Array.toList_inj.mp h)
theorem sLt_irr (x : Str) : sLt x x = false := decide_eq_false (List.lt_irrefl _)
theorem sLt_trans {x y z : Str} (h1 : sLt x y = true) (h2 : sLt y z = true) : sLt x z = true :=
  decide_eq_true (List.lt_trans (of_decide_eq_true h1) (of_decide_eq_true h2))
theorem sLt_tri {x y : Str} (h1 : sLt x y = false) (h2 : sLt y x = false) : x = y := by
  have a := List.not_lt.mp (of_decide_eq_false h1)
  have b := List.not_lt.mp (of_decide_eq_false h2)
  exact str_ext (List.le_antisymm b a)
def cLt : Key → Key → Bool
  | .inl a, .inl b => decide (a < b)
  | .inl _, .inr _ => true
  | .inr _, .inl _ => false
  | .inr x, .inr y => sLt x y
theorem cLt_irr (x : Key) : cLt x x = false := by
  cases x with
  | inl a => exact decide_eq_false (Int.lt_irrefl a)
  | inr x => exact sLt_irr x
theorem cLt_trans {x y z : Key} (h1 : cLt x y = true) (h2 : cLt y z = true) : cLt x z = true := by
  cases x with
  | inl a =>
    cases z with
    | inr c => rfl
    | inl c =>
      cases y with
      | inl b => exact decide_eq_true (Int.lt_trans (of_decide_eq_true h1) (of_decide_eq_true h2))
      | inr b => cases h2
  | inr a =>
    cases y with
    | inl b => cases h1
    | inr b =>
      cases z with
      | inl c => cases h2
      | inr c => exact sLt_trans h1 h2
theorem cLt_tri {x y : Key} (h1 : cLt x y = false) (h2 : cLt y x = false) : x = y := by
  cases x with
  | inl a =>
    cases y with
    | inl b =>
      have p : ¬ a < b := of_decide_eq_false h1
      have q : ¬ b < a := of_decide_eq_false h2
      exact congrArg _ (by omega)
    | inr b => cases h1
  | inr a =>
    cases y with
    | inl b => cases h2
    | inr b => exact congrArg _ (sLt_tri h1 h2)
def lexC : List Key → List Key → Bool
  | [], [] => false
  | [], _ :: _ => true
  | _ :: _, [] => false
  | x :: xs, y :: ys => if x = y then lexC xs ys else cLt x y
theorem lexC_irr : ∀ x : List Key, lexC x x = false
  | [] => rfl
  | x :: xs => by
    show (if x = x then lexC xs xs else cLt x x) = false
    rw [if_pos rfl]
    exact lexC_irr xs
theorem lexC_trans : ∀ {x y z : List Key}, lexC x y = true → lexC y z = true → lexC x z = true
  | [], [], [], h1, _ => nomatch h1
  | [], _ :: _, [], _, h2 => nomatch h2
  | [], _, _ :: _, _, _ => rfl
  | _ :: _, [], _, h1, _ => by cases h1
  | _ :: _, _ :: _, [], _, h2 => by cases h2
  | x :: xs, y :: ys, z :: zs, h1, h2 => by
    have e1 : (if x = y then lexC xs ys else cLt x y) = true := h1
    have e2 : (if y = z then lexC ys zs else cLt y z) = true := h2
    show (if x = z then lexC xs zs else cLt x z) = true
    by_cases a : x = y
    · subst a
      rw [if_pos rfl] at e1
      by_cases b : x = z
      · rw [if_pos b] at e2 ⊢
        exact lexC_trans e1 e2
      · rw [if_neg b] at e2 ⊢
        exact e2
    · rw [if_neg a] at e1
      by_cases b : y = z
      · subst b
        rw [if_neg a]
        exact e1
      · rw [if_neg b] at e2
        have t := cLt_trans e1 e2
        have n : ¬ x = z := fun q => by
          subst q
          rw [cLt_irr] at t
          cases t
        rw [if_neg n]
        exact t
theorem lexC_tri : ∀ {x y : List Key}, lexC x y = false → lexC y x = false → x = y
  | [], [], _, _ => rfl
  | [], _ :: _, h1, _ => by cases h1
  | _ :: _, [], _, h2 => by cases h2
  | x :: xs, y :: ys, h1, h2 => by
    have e1 : (if x = y then lexC xs ys else cLt x y) = false := h1
    have e2 : (if y = x then lexC ys xs else cLt y x) = false := h2
    by_cases a : x = y
    · subst a
      rw [if_pos rfl] at e1 e2
      rw [lexC_tri e1 e2]
    · rw [if_neg a] at e1
      rw [if_neg (fun q => a q.symm)] at e2
      exact absurd (cLt_tri e1 e2) a
/-- an order with these three is a strict weak one -/
theorem swo_of {α : Type} {lt : α → α → Bool} (irr : ∀ x, lt x x = false) (tr : ∀ x y z, lt x y = true → lt y z = true → lt x z = true) (tri : ∀ x y, lt x y = false → lt y x = false → lt x = lt y) : Swo lt := by
  have asym : ∀ x y, lt x y = true → lt y x = false := fun x y h => by
    rcases bcase (lt y x) with q | q
    · have t := tr _ _ _ h q
      rw [irr] at t
      cases t
    · exact q
  refine ⟨asym, fun x y z h1 h2 => ?_⟩
  rcases bcase (lt z x) with q | q
  · rcases bcase (lt x y) with p | p
    · have t := tr _ _ _ q p
      rw [h2] at t
      cases t
    · have e := tri _ _ p h1
      rcases bcase (lt y z) with r | r
      · have t := tr _ _ _ r q
        rw [h1] at t
        cases t
      · have e2 := tri _ _ h2 r
        have e3 : lt z x = lt y x := congrFun e2 x
        rw [q, h1] at e3
        cases e3
  · exact q
theorem swo_lexC {α : Type} (k : α → List Key) : Swo fun u v : α => lexC (k u) (k v) :=
  swo_of (fun x => lexC_irr _) (fun x y z h1 h2 => lexC_trans h1 h2) (fun x y h1 h2 => by
    have e := lexC_tri h1 h2
    funext z
    show lexC (k x) (k z) = lexC (k y) (k z)
    rw [e])
/-- the same things in a row that ascends stand in one way -/
theorem srtd_uniq {α : Type} {lt : α → α → Bool} (tri : ∀ x y, lt x y = false → lt y x = false → x = y) {l m : List α} (h1 : Srtd lt l) (h2 : Srtd lt m) (p : l.Perm m) : l = m :=
  List.Perm.eq_of_pairwise (fun a b _ _ h h' => tri a b h' h) h1 h2 p

/-! ### tuples of cells compare as lexC says -/
section
variable {prog : Program} {w : World} {A : Around} {E : Value → Shared → Prop} {s : Shared}
theorem one_int {b : Bool} {x y : Int} {t u : Tok} {Q : Bool → Shared → Prop} (h : Q (decide (x < y)) s) : wpAny (model prog w) A (oneLt' b (.int x t) (.int y u)) Q E s := by
  cases b with
  | true => exact oneLt_int h
  | false => exact PySem.W.kat_one _ _ (PyProof.Rows.lt_int h)
theorem one_str {b : Bool} {x y : Str} {t u : Tok} {Q : Bool → Shared → Prop} (h : Q (sLt x y) s) : wpAny (model prog w) A (oneLt' b (.str x t) (.str y u)) Q E s := by
  cases b with
  | true => exact oneLt_str h
  | false => exact PySem.W.kat_one _ _ (PyProof.Rows.lt_str h)
theorem lex_same (x : Key) (xs ys : List Key) : lexC (x :: xs) (x :: ys) = lexC xs ys := if_pos rfl
theorem lex_diff {x y : Key} (h : ¬ x = y) (xs ys : List Key) : lexC (x :: xs) (y :: ys) = cLt x y := if_neg h
theorem lex_go : ∀ (cs ds : List Key) (xs ys : List Value) (i : Nat) (r0 : Bool), Vals (cs.map kV) xs → Vals (ds.map kV) ys → cs.map Sum.isLeft = ds.map Sum.isLeft → r0 = lexC cs ds →
    PySem.W.KatLex prog w A true false (fun r s' => s' = s ∧ r = r0) (xs.zip ys) i s
  | [], [], _, _, i, r0, .nil, .nil, _, hr => PySem.W.kat_nil ⟨rfl, hr.symm⟩
  | [], _ :: _, _, _, _, _, _, _, hs, _ => by cases hs
  | _ :: _, [], _, _, _, _, _, _, hs, _ => by cases hs
  | .inl a :: cs, .inl b :: ds, x :: xs, y :: ys, i, r0, .cons rx tx, .cons ry ty, hs, hr => by
    obtain ⟨t, rfl⟩ := rx
    obtain ⟨u, rfl⟩ := ry
    have hs' : cs.map Sum.isLeft = ds.map Sum.isLeft := by simpa using hs
    refine PySem.W.kat_cons (SeqAt.EqAt.int_int a t b u prog w _ _ (PySem.W.kat_go (fun e => PySem.W.kat_yes ?_) (fun e => PySem.W.kat_no (one_int ⟨rfl, ?_⟩))))
    · have e : a = b := by simpa using e
      subst e
      exact lex_go cs ds xs ys (i + 1) r0 tx ty hs' (by rw [hr, lex_same])
    · have e : ¬ a = b := by simpa using e
      rw [hr, lex_diff (fun q => e (Sum.inl.inj q))]
      rfl
  | .inr a :: cs, .inr b :: ds, x :: xs, y :: ys, i, r0, .cons rx tx, .cons ry ty, hs, hr => by
    obtain ⟨t, rfl⟩ := rx
    obtain ⟨u, rfl⟩ := ry
    have hs' : cs.map Sum.isLeft = ds.map Sum.isLeft := by simpa using hs
    refine PySem.W.kat_cons (SeqAt.EqAt.str_str a t b u prog w _ _ (PySem.W.kat_go (fun e => PySem.W.kat_yes ?_) (fun e => PySem.W.kat_no (one_str ⟨rfl, ?_⟩))))
    · have e : a = b := by simpa using e
      subst e
      exact lex_go cs ds xs ys (i + 1) r0 tx ty hs' (by rw [hr, lex_same])
    · have e : ¬ a = b := by simpa using e
      rw [hr, lex_diff (fun q => e (Sum.inr.inj q))]
      rfl
  | .inl a :: cs, .inr b :: ds, _, _, _, _, _, _, hs, _ => by simp at hs
  | .inr a :: cs, .inl b :: ds, _, _, _, _, _, _, hs, _ => by simp at hs
/-- v is a tuple of these cells -/
def IsC (h : Heap) (v : Value) (cs : List Key) : Prop := ∃ a its, v = .ref a ∧ Vals (cs.map kV) its ∧ IsTup h a its.toArray
theorem IsC.keeps {h h' : Heap} {v : Value} {cs : List Key} (x : IsC h v cs) (k : ∀ b o, h.get? b = some o → o.cls = .type "tuple" → h'.get? b = some o) : IsC h' v cs := by
  obtain ⟨a, its, e, r, o, ho, hc, hd⟩ := x
  exact ⟨a, its, e, r, o, k _ _ ho hc, hc, hd⟩
theorem cells_cmp {vs : List Value} {k : Value → List Key} {S : List Bool} (hp : ∀ v ∈ vs, IsC s.heap v (k v) ∧ (k v).map Sum.isLeft = S) : Cmp prog w A s (tuples' true) (fun p => p.1 ∈ vs) (lt2 fun v u => lexC (k v) (k u)) := by
  intro p q hm hm'
  obtain ⟨⟨a, its, e, r, o, ho, hc, n, hd⟩, h1⟩ := hp _ hm
  obtain ⟨⟨a', its', e', r', o', ho', hc', n', hd'⟩, h2⟩ := hp _ hm'
  show wpAny (model prog w) A (keyLt' (tuples' true) p.1 q.1) (fun r s' => s' = s ∧ r = lexC (k p.1) (k q.1)) (fun _ _ => False) s
  have el : its.length = its'.length := by
    have q1 := congrArg List.length (h1.trans h2.symm)
    rw [List.length_map, List.length_map] at q1
    have q2 := r.length
    have q3 := r'.length
    rw [List.length_map] at q2 q3
    omega
  generalize k p.1 = cs at *
  generalize k q.1 = ds at *
  rw [e, e']
  refine PySem.W.kat_lt ho hd ho' hd' ?_
  have ed : decide (its.toArray.size < its'.toArray.size) = false := decide_eq_false (by simp [el])
  rw [ed]
  exact lex_go cs ds its its' 0 _ r r' (h1.trans h2.symm) rfl
theorem firstsC {h : Heap} {k : Value → List Key} {b : Bool} {S : List Bool} : ∀ {vs : List Value}, (∀ v ∈ vs, IsC h v (k v) ∧ (k v).map Sum.isLeft = b :: S) → ∃ fs : List Value, PySem.W.KatTups h vs fs ∧ fs.length = vs.length ∧
    ∀ f ∈ fs, (b = true ∧ ∃ x t, f = Value.int x t) ∨ (b = false ∧ ∃ x t, f = Value.str x t)
  | [], _ => ⟨[], PySem.W.KatTups.nil, rfl, fun _ hm => by simp at hm⟩
  | v :: vs, hp => by
    obtain ⟨fs, h1, h2, h3⟩ := firstsC (vs := vs) fun v' hm => hp v' (List.mem_cons_of_mem _ hm)
    obtain ⟨⟨a, its, e, r, o, ho, hc, n, hd⟩, hs⟩ := hp v (List.mem_cons_self ..)
    subst e
    generalize k (.ref a) = cs at *
    cases cs with
    | nil => cases hs
    | cons c cs =>
      match its, r with
      | u :: us, .cons rx tx =>
        refine ⟨u :: fs, PySem.W.KatTups.cons ho hc hd rfl h1, by rw [List.length_cons, List.length_cons, h2], fun f hm => ?_⟩
        rcases List.mem_cons.mp hm with rfl | hm
        · have hb : Sum.isLeft c = b := by
            have := congrArg List.head? hs
            simpa using this
          cases c with
          | inl x =>
            obtain ⟨t, rfl⟩ := rx
            exact .inl ⟨hb.symm, x, t, rfl⟩
          | inr x =>
            obtain ⟨t, rfl⟩ := rx
            exact .inr ⟨hb.symm, x, t, rfl⟩
        · exact h3 f hm
theorem cells_sortable {a : Addr} {vs : List Value} {k : Value → List Key} {b : Bool} {S : List Bool} (h0 : 0 < vs.length) (hp : ∀ v ∈ vs, IsC s.heap v (k v) ∧ (k v).map Sum.isLeft = b :: S) (ha : ∀ o, s.heap.get? a = some o → o.cls ≠ .type "tuple") :
    SortableO prog w A s a vs fun v u => lexC (k v) (k u) := by
  intro h' keep
  have hp' : ∀ v ∈ vs, IsC h' v (k v) ∧ (k v).map Sum.isLeft = b :: S := fun v hm => ⟨(hp v hm).1.keeps fun b o e c => keep b o (fun z => by subst z; exact ha o e c) e, (hp v hm).2⟩
  obtain ⟨fs, h1, h2, h3⟩ := firstsC hp'
  refine ⟨tuples' true, fun Q E hq => ?_, cells_cmp hp'⟩
  cases b with
  | true =>
    refine PySem.W.kat_kind (T := .type "int") h1 (by omega) (fun f hm => ?_) (by rfl) ?_
    · rcases h3 f hm with ⟨_, x, t, rfl⟩ | ⟨z, _⟩
      · exact PySem.W.Looks.now
      · cases z
    · have e : (Value.type "int" != Value.type "tuple") = true := by first | decide +kernel | rfl | decide
      rw [e]
      exact hq
  | false =>
    refine PySem.W.kat_kind (T := .type "str") h1 (by omega) (fun f hm => ?_) (by rfl) ?_
    · rcases h3 f hm with ⟨z, _⟩ | ⟨_, x, t, rfl⟩
      · cases z
      · exact PySem.W.Looks.now
    · have e : (Value.type "str" != Value.type "tuple") = true := by first | decide +kernel | rfl | decide
      rw [e]
      exact hq
theorem sorted_cells {l : Addr} {vs : List Value} {k : Value → List Key} {b : Bool} {S : List Bool} {Q : Value → Shared → Prop} (hl : s.heap.IsList l vs.toArray) (hz : vs.length ≤ sizeLine) (hp : ∀ v ∈ vs, IsC s.heap v (k v) ∧ (k v).map Sum.isLeft = b :: S)
    (h : ∀ (h' : Heap) (d : Addr) (out : List Value), Srtd (fun v u => lexC (k v) (k u)) out → Stb (fun v u => lexC (k v) (k u)) out vs → (∀ b o, s.heap.get? b = some o → h'.get? b = some o) → s.heap.objs.size ≤ d → (∃ n, h'.get? d = some (seqObj "list" out.toArray n)) → Q (.ref d) { s with heap := h' }) :
    wpAny (model prog w) A (call (.builtin "sorted") [.ref l]) Q E s := by
  refine sorted_ord (swo_lexC k) hl hz (fun h2 h₁ a ha kk => ?_) fun out hs hb => ?_
  · refine cells_sortable (s := { s with heap := h₁ }) (by omega) (fun v hm => ⟨(hp v hm).1.keeps fun b o e _ => (kk b o e).2, (hp v hm).2⟩) fun o e => ?_
    obtain rfl : o = seqObj "list" vs.toArray 0 := Option.some.inj (e.symm.trans ha)
    intro c
    exact absurd (Value.type.inj c) (by decide)
  · exact h _ _ out hs hb (fun b o e => sortedAll_old e) (Nat.le_succ _) (sortedAll_at s.heap vs out.toArray)
/-! ### texts -/
def tv : Value → Str
  | .str x _ => x
  | _ => Str.empty
def ltTv (v u : Value) : Bool := sLt (tv v) (tv u)
theorem swo_tv : Swo ltTv := swo_of (fun x => sLt_irr _) (fun x y z h1 h2 => sLt_trans h1 h2) (fun x y h1 h2 => by
    have e := sLt_tri h1 h2
    funext z
    show sLt (tv x) (tv z) = sLt (tv y) (tv z)
    rw [e])
theorem strs_mem : ∀ {vs : List Value} {ss : List Str}, StrsAre vs ss → ∀ v ∈ vs, ∃ x t, v = Value.str x t
  | _, _, .nil, v, h => absurd h (by simp)
  | _, _, .cons x t r, v, h => by
    rcases List.mem_cons.mp h with e | h
    · exact ⟨x, t, e⟩
    · exact strs_mem r v h
theorem strs_tv : ∀ {vs : List Value}, (∀ v ∈ vs, ∃ x t, v = Value.str x t) → StrsAre vs (vs.map tv)
  | [], _ => .nil
  | v :: vs, h => by
    obtain ⟨x, t, e⟩ := h v List.mem_cons_self
    subst e
    exact .cons x t (strs_tv fun u hu => h u (List.mem_cons_of_mem _ hu))
theorem tv_strs : ∀ {vs : List Value} {ss : List Str}, StrsAre vs ss → vs.map tv = ss
  | _, _, .nil => rfl
  | _, _, .cons x t r => congrArg (x :: ·) (tv_strs r)
theorem str_cmp {vs : List Value} {ss : List Str} (hI : StrsAre vs ss) : Cmp prog w A s oneType' (fun p => p.1 ∈ vs) (lt2 ltTv) := by
  intro p q hm hm'
  obtain ⟨a, t, e⟩ := strs_mem hI _ hm
  obtain ⟨b, u, e'⟩ := strs_mem hI _ hm'
  show wpAny (model prog w) A (keyLt' oneType' p.1 q.1) (fun r s' => s' = s ∧ r = ltTv p.1 q.1) (fun _ _ => False) s
  rw [e, e', keyLt'_oneType]
  exact oneLt_str ⟨rfl, rfl⟩
theorem strs_sortable {a : Addr} {vs : List Value} {ss : List Str} (hI : StrsAre vs ss) (h2 : 2 ≤ vs.length) : SortableO prog w A s a vs ltTv := by
  intro h' _
  refine ⟨oneType', fun Q E hq => ?_, str_cmp hI⟩
  match vs, hI, h2 with
  | v1 :: v2 :: rest, hI, _ =>
    rw [keyKind_strs hI]
    exact wpAny_pure hq
  | [], _, h => exact absurd h (by decide)
  | [v], _, h => exact absurd h (by simp)
/-- ascending texts -/
def Asc (ss : List Str) : Prop := ss.Pairwise fun x y => sLt y x = false
theorem strs_out {vs out : List Value} {ss : List Str} (hI : StrsAre vs ss) (hs : Srtd ltTv out) (hb : Stb ltTv out vs) : StrsAre out (out.map tv) ∧ (out.map tv).Perm ss ∧ Asc (out.map tv) := by
  refine ⟨strs_tv fun v hv => strs_mem hI v (hb.perm.mem_iff.mp hv), ?_, ?_⟩
  · have q := hb.perm.map tv
    rw [tv_strs hI] at q
    exact q
  · exact List.pairwise_map.mpr hs
end
end SrtC
namespace L2
open PySem PySem.Spec PyProof.Rows
section
variable {X : Cx}
/-- sorted(xs), xs a list of tuples of ints and texts that stand in the same columns (k says which): a new list, ascending -/
def rSortedC (K : PySem.W.Frag) : List V → Hp → VK → Prop := fun vs H Q => ∃ (a : Addr) (xs : List V) (k : V → List Key) (b : Bool) (S : List Bool), vs = [V.ref a] ∧ SqL K H a xs ∧ (∀ x ∈ xs, ∃ t, x = V.ref t ∧ SqT K H t ((k x).map kV) ∧ (k x).map Sum.isLeft = b :: S) ∧
  ∀ ys p, SrtO.Srtd (fun x y => SrtC.lexC (k x) (k y)) ys → ys.Perm xs → H p = none → Q (.ref p) (upd H p (.lst ys))
theorem cr_sortedC : CallR X (.builtin "sorted") (rSortedC X.K) := by
  intro pins s σ H vs us Q I r h
  obtain ⟨a, xs, k, b, S, rfl, hs, hx, q⟩ := h
  obtain ⟨its, rv, hl, hz⟩ := I.list hs
  obtain ⟨u, rfl, ru⟩ := vals1 r
  obtain rfl : u = Value.ref a := ru
  obtain ⟨e1, e2⟩ := refs_back rv fun x m => by
    obtain ⟨t, e, _⟩ := hx x m
    exact ⟨t, e⟩
  refine SrtC.sorted_cells (k := fun u => k (backV u)) (b := b) (S := S) hl.isList (by rw [← rv.length]; exact hz) (fun v hv => ?_) fun h' d out h1 h2 kp hd hn => ?_
  · obtain ⟨t, rfl⟩ := e2 v hv
    have hm : V.ref t ∈ xs := by rw [e1]; exact List.mem_map.mpr ⟨_, hv, rfl⟩
    obtain ⟨t', e, ht, hS⟩ := hx _ hm
    cases e
    obtain ⟨its2, r2, hT, _⟩ := I.tuple ht
    exact ⟨⟨t, its2, rfl, r2, hT⟩, hS⟩
  · have h3 : ∀ u ∈ out, ∃ a, u = Value.ref a := fun u hu => e2 u (h2.perm.mem_iff.mp hu)
    obtain ⟨n, hn⟩ := hn
    have hb : (out.map backV).Perm xs := by
      rw [e1]
      exact h2.perm.map backV
    refine ⟨.ref d, upd H d (.lst (out.map backV)), I.laid (t' := s.toks) kp hd ⟨?_, out, n, vals_back h3, hn⟩, rfl, q _ d (List.pairwise_map.mpr h1) hb (I.hok.fresh hd)⟩
    rw [hb.length_eq]
    exact hz
/-- sorted(xs), xs a list of texts of any length -/
def rSortedTx (K : PySem.W.Frag) : List V → Hp → VK → Prop := fun vs H Q => ∃ (a : Addr) (ss : List Str), vs = [V.ref a] ∧ SqL K H a (ss.map V.str) ∧
  ∀ (ys : List Str) (p : Addr), SrtC.Asc ys → ys.Perm ss → H p = none → Q (.ref p) (upd H p (.lst (ys.map V.str)))
theorem strs_of_vals' : ∀ {ss : List Str} {us : List Value}, Vals (ss.map V.str) us → StrsAre us ss
  | [], _, .nil => .nil
  | x :: ss, _, .cons ⟨t, e⟩ r => by
    subst e
    exact .cons x t (strs_of_vals' r)
theorem cr_sortedTx : CallR X (.builtin "sorted") (rSortedTx X.K) := by
  intro pins s σ H vs us Q I r h
  obtain ⟨a, ss, rfl, hs, q⟩ := h
  obtain ⟨its, rv, hl, hz⟩ := I.list hs
  obtain ⟨u, rfl, ru⟩ := vals1 r
  obtain rfl : u = Value.ref a := ru
  have hI := strs_of_vals' rv
  have hz' : its.length ≤ sizeLine := by rw [← rv.length]; exact hz
  refine SrtO.sorted_ord SrtC.swo_tv hl.isList hz' (fun h2 h₁ a ha kk => SrtC.strs_sortable hI h2) fun out h1 h2 => ?_
  obtain ⟨a1, a2, a3⟩ := SrtC.strs_out hI h1 h2
  obtain ⟨ep, he'⟩ := sortedAll_at s.heap its out.toArray
  have hlen : ((out.map SrtC.tv).map V.str).length ≤ sizeLine := by
    rw [List.length_map, a2.length_eq, ← List.length_map (f := V.str)]
    exact hz
  exact ⟨.ref _, upd H (s.heap.objs.size + 1) (.lst ((out.map SrtC.tv).map V.str)), I.laid (t' := s.toks) (fun _ _ => sortedAll_old) (Nat.le_succ _) ⟨hlen, out, ep, vals_of_strs a1, he'⟩, rfl, q _ _ a3 a2 (I.hok.fresh (Nat.le_succ _))⟩
end
end L2

set_option Elab.async false
set_option linter.all false
set_option maxRecDepth 100000
set_option maxHeartbeats 4000000
/-! sorted(texts, key=len): shorter ones first, equal ones in their order -/
namespace SrtK
open PySem PySem.Spec PyProof.Rows Srt SrtO L2 SrtC
def tl (v : Value) : Int := ((tv v).length : Int)
def ltLen (v u : Value) : Bool := decide (tl v < tl u)
theorem swo_len : Swo ltLen := by
  refine ⟨fun x y h => ?_, fun x y z h1 h2 => ?_⟩
  · have a : tl x < tl y := of_decide_eq_true h
    exact decide_eq_false (by omega)
  · have a : ¬ tl y < tl x := of_decide_eq_false h1
    have b : ¬ tl z < tl y := of_decide_eq_false h2
    exact decide_eq_false (by omega)
def ltK (p q : Keyed) : Bool := ltIv p.1 q.1
theorem swo_key : Swo ltK := ⟨fun x y h => swo_int.asym _ _ h, fun x y z h1 h2 => swo_int.tr _ _ _ h1 h2⟩
section
variable {prog : Program} {w : World} {A : Around} {E : Value → Shared → Prop} {s : Shared} {a kS : Addr} {vs : List Value} {ss : List Str} {R : PySem.Fin → Shared → Prop}
/-- the keys that stand with the items -/
def Keys (ks : List Value) (vs : List Value) : Prop := IntsAre ks (vs.map tl)
theorem keys_at : ∀ {ks vs : List Value}, Keys ks vs → ∀ p ∈ ks.zip vs, ∃ t, p.1 = Value.int (tl p.2) t
  | [], _, _, p, h => by simp at h
  | _ :: _, [], k, p, h => by simp at h
  | k :: ks, v :: vs, hk, p, h => by
    unfold Keys at hk
    rw [List.map_cons] at hk
    cases hk with
    | cons n t r =>
      rcases List.mem_cons.mp (by simpa using h) with e | h
      · rw [e]; exact ⟨t, rfl⟩
      · exact keys_at r p h
theorem keys_len {ks vs : List Value} (h : Keys ks vs) : ks.length = vs.length := by
  have := h.length
  rw [List.length_map] at this
  exact this
theorem out_len {ks vs : List Value} {out : List Keyed} (hk : Keys ks vs) (h1 : Srtd ltK out) (h2 : Stb ltK out (ks.zip vs)) : Srtd ltLen (out.map (·.2)) ∧ Stb ltLen (out.map (·.2)) vs := by
  have ez : (ks.zip vs).map (fun p : Keyed => p.2) = vs := List.map_snd_zip (Nat.le_of_eq (keys_len hk).symm)
  have key : ∀ p ∈ out, ∃ t, p.1 = Value.int (tl p.2) t := fun p hp => keys_at hk p (h2.perm.mem_iff.mp hp)
  have lt_eq : ∀ {p q : Keyed}, (∃ t, p.1 = Value.int (tl p.2) t) → (∃ t, q.1 = Value.int (tl q.2) t) → ltK p q = ltLen p.2 q.2 := by
    rintro p q ⟨t, e⟩ ⟨u, e'⟩
    unfold ltK ltIv ltLen
    rw [e, e']
    rfl
  refine ⟨?_, ?_⟩
  · refine List.pairwise_map.mpr (List.Pairwise.imp_of_mem (fun {p q} hp hq h => ?_) h1)
    rw [← lt_eq (key q hq) (key p hp)]
    exact h
  · refine ⟨?_, fun x => ?_⟩
    · have := h2.perm.map (fun p : Keyed => p.2)
      rw [ez] at this
      exact this
    · have f : ∀ l : List Keyed, (∀ p ∈ l, ∃ t, p.1 = Value.int (tl p.2) t) → (l.map (fun p : Keyed => p.2)).filter (eqv ltLen x) = (l.filter (eqv ltK (Value.int (tl x) 0, x))).map (fun p : Keyed => p.2) := fun l hl => by
        rw [List.filter_map]
        refine congrArg _ (List.filter_congr fun p hp => ?_)
        show (!ltLen x p.2 && !ltLen p.2 x) = (!ltK (Value.int (tl x) 0, x) p && !ltK p (Value.int (tl x) 0, x))
        rw [lt_eq (p := (Value.int (tl x) 0, x)) ⟨0, rfl⟩ (hl p hp), lt_eq (q := (Value.int (tl x) 0, x)) (hl p hp) ⟨0, rfl⟩]
      have e1 := f out key
      have e2 := f (ks.zip vs) (keys_at hk)
      rw [ez] at e2
      show (out.map (fun p : Keyed => p.2)).filter (eqv ltLen x) = vs.filter (eqv ltLen x)
      rw [e1, e2, h2.cls]
/-- what stands while the keys are made -/
structure Mid (h0 h : Heap) (a kS : Addr) (kA : Array Value) (e1 : Nat) : Prop where
  old : ∀ b o, b ≠ a → h0.get? b = some o → h.get? b = some o
  ks : ∃ e, h.get? kS = some (seqObj "list" kA e)
  li : h.get? a = some (seqObj "list" #[] e1)
theorem end_len {h0 : Heap} {keys : Array Value} {e1 : Nat} (M : Mid h0 s.heap a kS keys e1) (hka : kS ≠ a) (hk0 : h0.get? kS = none) (hk : Keys keys.toList vs) (hz : vs.length ≤ sizeLine)
    (h : ∀ h' tk out c, (∀ b o, b ≠ a → h0.get? b = some o → h'.get? b = some o) → h'.get? a = some (seqObj "list" out c) → Srtd ltLen out.toList → Stb ltLen out.toList vs → R (.done (.ret .none)) { s with heap := h', toks := tk }) :
    wpAny (model prog w) A (ksk_end a false vs.toArray e1 (.ref kS) keys) R E s := by
  have hsz : keys.size = vs.length := by
    have := keys_len hk
    rw [Array.length_toList] at this
    exact this
  have ezl : (keys.zip vs.toArray).toList = keys.toList.zip vs := ksk_zip keys vs
  have hzs : (keys.zip vs.toArray).size = vs.length := by rw [Array.size_zip, hsz, List.size_toArray, Nat.min_self]
  have sL := sizeLine_eq
  have tail : ∀ st' : SortSt, Srtd ltK (arrOf st').toList → Stb ltK (arrOf st').toList (keys.zip vs.toArray).toList → failedOf st' = none → wpAny (model prog w) A (ksk_tail a false e1 (.ref kS) st') R E s := by
    intro st' h1 h2 hf
    rw [ezl] at h2
    obtain ⟨o1, o2⟩ := out_len hk h1 h2
    obtain ⟨e, he⟩ := M.ks
    have hl : (arrOf st').size = vs.length := by
      have := h2.len
      rw [Array.length_toList, ← ezl, Array.length_toList, hzs] at this
      exact this
    have s1 := Heap.SameBut.update s.heap kS (Obj.mapSeq fun _ => (#[] : Array Value))
    have na1 : (s.heap.update kS (Obj.mapSeq fun _ => (#[] : Array Value))).get? a = some (seqObj "list" #[] e1) := (s1.2 a hka.symm).trans M.li
    have s2 := Heap.SameBut.update (s.heap.update kS (Obj.mapSeq fun _ => (#[] : Array Value))) a (Obj.mapSeq fun _ => (arrOf st').map (·.2))
    obtain ⟨c2, hc2⟩ : ∃ c2, ((s.heap.update kS (Obj.mapSeq fun _ => (#[] : Array Value))).update a (Obj.mapSeq fun _ => (arrOf st').map (·.2))).get? a = some (seqObj "list" ((arrOf st').map (·.2)) c2) := ⟨_, get?_update_seq na1 fun _ => (arrOf st').map (·.2)⟩
    unfold ksk_tail
    try dsimp only
    refine wpAny_bind (listUpdate_at he rfl ?_ (by rw [hsz]; omega) (Nat.zero_le _))
    refine wpAny_bind (wpAny_letGo (wpAny_bind (seqEpoch_at na1 rfl ?_)))
    simp only [Bool.false_eq_true, if_false]
    refine wpAny_bind (listUpdate_at na1 rfl ?_ (Nat.zero_le _) (by rw [Array.size_map, hl]; omega))
    rw [hf]
    simp only [bne_self_eq_false, Bool.false_eq_true, if_false]
    refine wpAny_pure (h _ _ ((arrOf st').map (·.2)) c2 (fun b o hb e => ?_) hc2 ?_ ?_)
    · have hbk : b ≠ kS := fun z => by rw [z, hk0] at e; cases e
      rw [s2.2 b hb, s1.2 b hbk]
      exact M.old b o hb e
    · rw [Array.toList_map]; exact o1
    · rw [Array.toList_map]; exact o2
  unfold ksk_end
  try dsimp only
  simp only [Bool.false_eq_true, if_false]
  by_cases h2 : vs.toArray.size < 2
  · rw [if_pos h2, if_pos h2]
    rw [List.size_toArray] at h2
    refine wpAny_bind (wpAny_pure ?_)
    rw [StateT.run_pure]
    refine wpAny_bind (wpAny_pure ?_)
    try dsimp only
    refine tail _ ?_ (Stb.refl _) rfl
    show Srtd ltK (keys.zip vs.toArray).toList
    have hlen : (keys.zip vs.toArray).toList.length < 2 := by rw [Array.length_toList, hzs]; exact h2
    match (keys.zip vs.toArray).toList, hlen with
    | [], _ => exact List.Pairwise.nil
    | [v], _ => exact List.pairwise_singleton _ _
    | _ :: _ :: l, q => exact absurd q (by simp)
  · rw [if_neg h2, if_neg h2]
    rw [List.size_toArray] at h2
    rw [ksk_kind hk (by rw [hsz]; omega)]
    refine wpAny_bind (wpAny_pure ?_)
    have hT : Cmp prog w A s oneType' (fun p => ∃ n t, p.1 = Value.int n t) ltK := by
      rintro p q ⟨n, t, e⟩ ⟨m, u, e'⟩
      show wpAny (model prog w) A (keyLt' oneType' p.1 q.1) (fun r s' => s' = s ∧ r = ltIv p.1 q.1) (fun _ _ => False) s
      rw [e, e', keyLt'_oneType]
      exact oneLt_int ⟨rfl, rfl⟩
    refine wpAny_bind (wpAny_mono (wpS_sortO (st0 := SortSt.mk' oneType' (keys.zip vs.toArray) #[] 7 none)
      (Q := fun _ st' => Srtd ltK (arrOf st').toList ∧ Stb ltK (arrOf st').toList (keys.zip vs.toArray).toList ∧ failedOf st' = none) swo_key hT rfl ?_ rfl rfl fun st' a1 a2 a3 => ⟨a1, a2, a3⟩) ?_ fun _ _ e => e)
    · intro p hp
      have hp' : p ∈ keys.toList.zip vs := by rw [← ezl]; exact hp
      obtain ⟨t, e⟩ := keys_at hk p hp'
      exact ⟨_, t, e⟩
    · rintro ⟨⟨⟩, st'⟩ s' ⟨rfl, hp1, hp2, hf⟩
      exact tail st' hp1 hp2 hf
theorem sort_len {n : Nat} (hI : StrsAre vs ss) (hss : ∀ x ∈ ss, x.length ≤ sizeLine) (ho : s.heap.get? a = some (seqObj "list" vs.toArray n)) (hz : vs.length ≤ sizeLine)
    (h : ∀ h' tk out c, (∀ b o, b ≠ a → s.heap.get? b = some o → h'.get? b = some o) → h'.get? a = some (seqObj "list" out c) → Srtd ltLen out.toList → Stb ltLen out.toList vs → R (.done (.ret .none)) { s with heap := h', toks := tk }) :
    wpAny (model prog w) A (ksk_tree a (.builtin "len") false) R E s := by
  have sL := sizeLine_eq
  have h63 := line63
  have ha : a < s.heap.objs.size := Heap.lt_size ho
  have s1 := Heap.SameBut.update s.heap a (Obj.mapSeq fun _ => (#[] : Array Value))
  obtain ⟨e1, ho1⟩ : ∃ e1, (s.heap.update a (Obj.mapSeq fun _ => (#[] : Array Value))).get? a = some (seqObj "list" #[] e1) := ⟨_, get?_update_seq ho fun _ => #[]⟩
  have hkS : ((s.heap.update a (Obj.mapSeq fun _ => (#[] : Array Value))).push (seqObj "tuple" vs.toArray 0)).objs.size = s.heap.objs.size + 1 := by rw [size_push', Heap.size_update]
  unfold ksk_tree
  refine wpAny_bind (listItems_at ho rfl ?_)
  refine wpAny_bind (listUpdate_at ho rfl ?_ (by rw [List.size_toArray]; exact hz) (Nat.zero_le _))
  refine wpAny_bind (seqEpoch_at ho1 rfl ?_)
  refine wpAny_bind (wpAny_newTuple ?_ (by show vs.length ≤ _; exact hz))
  refine wpAny_bind (wpAny_newList ?_ (Nat.zero_le _))
  refine wpAny_holding ?_
  have hka : ((s.heap.update a (Obj.mapSeq fun _ => (#[] : Array Value))).push (seqObj "tuple" vs.toArray 0)).objs.size ≠ a := by
    rw [hkS]
    exact Nat.ne_of_gt (Nat.lt_succ_of_lt ha)
  have hk0 : s.heap.get? ((s.heap.update a (Obj.mapSeq fun _ => (#[] : Array Value))).push (seqObj "tuple" vs.toArray 0)).objs.size = none := Heap.get?_none_of_le (by
    rw [hkS]
    exact Nat.le_succ _)
  generalize hkN : ((s.heap.update a (Obj.mapSeq fun _ => (#[] : Array Value))).push (seqObj "tuple" vs.toArray 0)).objs.size = kS at *
  have m0 : Mid s.heap (((s.heap.update a (Obj.mapSeq fun _ => (#[] : Array Value))).push (seqObj "tuple" vs.toArray 0)).push (seqObj "list" #[] 0)) a kS #[] e1 := by
    refine ⟨fun b o hb e => Heap.get?_push_of_some _ (Heap.get?_push_of_some _ ((s1.2 b hb).trans e)), ⟨0, ?_⟩, Heap.get?_push_of_some _ (Heap.get?_push_of_some _ ho1)⟩
    rw [← hkN]
    exact Heap.get?_push_size _ rfl
  unfold ksk_rest
  refine wpAny_bind (wpAny_rule ?_)
  first
    | rw [List.forIn_toArray]
    | (rw [← Array.forIn_toList]; simp only [List.toList_toArray])
    | rw [← Array.forIn_toList]
  refine wpAny_bind (ksk_fold (fun i s' => ∃ h' tk kA, s' = { s with heap := h', toks := tk } ∧ Mid s.heap h' a kS kA e1 ∧ Keys kA.toList (vs.take i)) vs 0 _ ⟨_, s.toks, #[], rfl, m0, by unfold Keys; simpa using IntsAre.nil⟩ ?step ?done)
  case step =>
    rintro j x s' hx ⟨h', tk, kA, rfl, M, hk⟩
    simp only [Nat.zero_add] at hk ⊢
    have hj : j < vs.length := (List.getElem?_eq_some_iff.mp hx).1
    obtain ⟨y, t, rfl⟩ := strs_mem hI x (List.mem_of_getElem? hx)
    have hy : y.length ≤ sizeLine := hss y (by rw [← tv_strs hI]; exact List.mem_map.mpr ⟨_, List.mem_of_getElem? hx, rfl⟩)
    obtain ⟨e, he⟩ := M.ks
    have hz2 : kA.size ≤ vs.length := by
      have h1 := keys_len hk
      rw [Array.length_toList, List.length_take] at h1
      omega
    refine wpAny_bind (wpAny_attempt (len_str (by omega) ?_))
    try dsimp only
    have s2 := Heap.SameBut.update h' kS (Obj.mapSeq (·.push (.int y.length (tk + 1))))
    obtain ⟨c2, hc2⟩ : ∃ c2, (h'.update kS (Obj.mapSeq (·.push (.int y.length (tk + 1))))).get? kS = some (seqObj "list" (kA.push (.int y.length (tk + 1))) c2) := ⟨_, get?_update_seq he (·.push (.int y.length (tk + 1)))⟩
    refine wpAny_bind (listUpdate_at he rfl ?_ (by omega) (Nat.le_trans (Nat.le_of_eq (Array.size_push ..)) (by omega)))
    refine wpAny_pure ⟨rfl, _, _, kA.push (.int y.length (tk + 1)), rfl, ⟨fun b o hb q => ?_, ⟨c2, hc2⟩, (s2.2 a hka.symm).trans M.li⟩, ?_⟩
    · have hbk : b ≠ kS := fun z => by rw [z, hk0] at q; cases q
      rw [s2.2 b hbk]
      exact M.old b o hb q
    · unfold Keys at hk ⊢
      have ek : (vs.take (j + 1)).map tl = (vs.take j).map tl ++ [(y.length : Int)] := by rw [List.take_add_one, hx, List.map_append]; rfl
      rw [ek, Array.toList_push]
      exact ksk_snoc hk
  case done =>
    rintro s' ⟨h', tk, kA, rfl, M, hk⟩
    rw [List.take_of_length_le (by omega)] at hk
    obtain ⟨e, he⟩ := M.ks
    try dsimp only
    refine wpAny_bind (listItems_at he rfl ?_)
    exact end_len (s := { s with heap := h', toks := tk }) (h0 := s.heap) M hka hk0 hk hz h
theorem sorted_len {l : Addr} {Q : Value → Shared → Prop} (hI : StrsAre vs ss) (hss : ∀ x ∈ ss, x.length ≤ sizeLine) (hl : s.heap.IsList l vs.toArray) (hz : vs.length ≤ sizeLine)
    (h : ∀ (h' : Heap) (tk : Nat) (D : Addr) (out : Array Value) (c : Nat), (∀ b o, s.heap.get? b = some o → h'.get? b = some o) → s.heap.objs.size ≤ D → h'.get? D = some (seqObj "list" out c) → Srtd ltLen out.toList → Stb ltLen out.toList vs → Q (.ref D) { s with heap := h', toks := tk }) :
    wpAny (model prog w) A (call (.builtin "sorted") [.ref l] [(Str.ofString "key", .builtin "len")]) Q E s := by
  have ha1 := ksk_s1 (.ref l) (.builtin "len")
  have ha2 := fun x : Addr => ksk_l1 (.ref x) (.builtin "len")
  refine call_function_entry_kw kind_sorted plain_sorted entry_sorted ha1 ?_
  unfold Builtin.«sorted»
  refine wpAny_bind (m := checkCount "sorted" 1 1 _) (wpAny_pure ?_)
  refine wpAny_bind (collect_list hl ?_ hz)
  refine wpAny_bind (wpAny_newList ?_ hz)
  have hsz : ((s.heap.push (seqObj "list" #[] 0)).update s.heap.objs.size (Obj.mapSeq (· ++ vs.toArray))).objs.size = s.heap.objs.size + 1 := by
    rw [Heap.size_update, size_push']
  have hoL : (((s.heap.push (seqObj "list" #[] 0)).update s.heap.objs.size (Obj.mapSeq (· ++ vs.toArray))).push (seqObj "list" vs.toArray 0)).get? (s.heap.objs.size + 1) = some (seqObj "list" vs.toArray 0) := by
    rw [← hsz]; exact Heap.get?_push_size _ rfl
  have keep : ∀ b o, s.heap.get? b = some o → b ≠ s.heap.objs.size + 1 ∧ (((s.heap.push (seqObj "list" #[] 0)).update s.heap.objs.size (Obj.mapSeq (· ++ vs.toArray))).push (seqObj "list" vs.toArray 0)).get? b = some o := fun b o q => by
    have hlt : b < s.heap.objs.size := Heap.lt_size q
    refine ⟨Nat.ne_of_lt (Nat.lt_succ_of_lt hlt), Heap.get?_push_of_some _ ?_⟩
    rw [Heap.get?_update_ne _ _ _ _ (Nat.ne_of_lt hlt)]
    exact Heap.get?_push_of_some _ q
  show wpAny _ _ _ _ _ { s with heap := ((s.heap.push (seqObj "list" #[] 0)).update s.heap.objs.size (Obj.mapSeq (· ++ vs.toArray))).push (seqObj "list" vs.toArray 0) }
  rw [hsz]
  refine wpAny_bind (wpAny_holding (wpAny_call_entry_kw slot_list_sort ⟨_, hoL, rfl⟩ entry_list_sort ?body (ha2 _)))
  case body =>
    show wpAny (model prog w) A.in1.in1 (Builtin.«list.sort» ⟨[.ref (s.heap.objs.size + 1)], [(Str.ofString "key", .builtin "len")]⟩) _ _ _
    rw [ksk_t4]
    refine sort_len hI hss hoL hz fun h' tk out c old ho' o1 o2 => ⟨_, rfl, ?_⟩
    exact wpAny_pure ⟨_, rfl, h h' tk _ out c (fun b o e => old b o (keep b o e).1 (keep b o e).2) (Nat.le_succ _) ho' o1 o2⟩
end
end SrtK
namespace L2
open PySem PySem.Spec PyProof.Rows
/-- shorter ones first -/
def ltL (x y : Str) : Bool := decide ((x.length : Int) < y.length)
/-- sorted(e, key=len), e a list of texts -/
def tSortLen (K : PySem.W.Frag) (t : TA) : TE := fun σ H Q => t σ H fun vs H1 => ∃ (a : Addr) (ss : List Str), vs = [.ref a] ∧ SqL K H1 a (ss.map V.str) ∧ (∀ x ∈ ss, x.length ≤ sizeLine) ∧
  ∀ (ys : List Str) (p : Addr), SrtO.Srtd ltL ys → SrtO.Stb ltL ys ss → H1 p = none → Q (.ref p) (upd H1 p (.lst (ys.map V.str)))
theorem swo_ltL : SrtO.Swo ltL := by
  refine ⟨fun x y h => ?_, fun x y z h1 h2 => ?_⟩
  · have a : (x.length : Int) < y.length := of_decide_eq_true h
    exact decide_eq_false (by omega)
  · have a : ¬ (y.length : Int) < x.length := of_decide_eq_false h1
    have b : ¬ (z.length : Int) < y.length := of_decide_eq_false h2
    exact decide_eq_false (by omega)
section
variable {X : Cx} {p p2 pos kpos : Pos} {e : Expr} {t : TA}
theorem pe_sortLen (hA : PA X [e] t) (hg : Gl X "sorted") (hm : X.mg "sorted" = none) (hg2 : Gl X "len") (hm2 : X.mg "len" = none)
    (hs : backTo pos (starEach [e] X.env) = (false, eval e X.env) :: backTo pos (starEach [] X.env) := by rfl) (hpl : (backTo pos (starEach [e] X.env)).any (·.1) = false := by rfl)
    (hall : (backToKw pos (keywordEach [⟨some "key", .Name "len" p2, kpos⟩] X.env)).all (·.1.isSome) = true := by rfl) (hnone : (backToKw pos (keywordEach [⟨some "key", .Name "len" p2, kpos⟩] X.env)).any (·.1.isNone) = false := by rfl)
    (hks : (backToKw pos (keywordEach [⟨some "key", .Name "len" p2, kpos⟩] X.env)).filterMap (·.1) = [Str.ofString "key"] := by rfl) :
    PE X (.Call (.Name "sorted" p) [e] [⟨some "key", .Name "len" p2, kpos⟩] pos) (tSortLen X.K t) := by
  refine ⟨fun pins s σ H Q I h => ?_⟩
  refine wpAny_Call_Name_kw (ld_blt I hg hm (show bootBuiltins "sorted" = some (.builtin "sorted") by decide +kernel) ?_ (by decide) (by decide))
  refine PyProof.Rows.callWith_kw (thn (hA.run pos pins s σ H _ I h) fun us s1 ⟨vs, H1, I1, r1, a, ss, ev, hsq, hss, q⟩ => ?_) hs hpl hall hnone
  · subst ev
    show wpAny _ _ (evalAll [(do let v ← eval (.Name "len" p2) X.env; standAt pos; pure v)]) _ _ s1
    refine wpAny_evalAll_cons (wpAny_bind (ld_blt I1 hg2 hm2 PySem.boot_len (wpAny_bind (wpAny_standAt (wpAny_pure ?_)))))
    refine wpAny_evalAll_nil ?_
    rw [hks]
    obtain rfl := Vals.ref1 r1
    obtain ⟨its, rv, hl, hz⟩ := I1.list hsq
    have hI := strs_of_vals' rv
    refine SrtK.sorted_len hI hss hl.isList (by rw [← rv.length]; exact hz) fun h' tk D out c old hD ho o1 o2 => ?_
    have hIo : StrsAre out.toList (out.toList.map SrtC.tv) := SrtC.strs_tv fun v hv => SrtC.strs_mem hI v (o2.perm.mem_iff.mp hv)
    have hb : SrtO.Stb ltL (out.toList.map SrtC.tv) ss := by
      have := SrtO.Stb.map (lt := ltL) swo_ltL SrtC.tv o2
      rw [SrtC.tv_strs hI] at this
      exact this
    refine ⟨.ref D, upd H1 D (.lst ((out.toList.map SrtC.tv).map V.str)), I1.laid (t' := tk) old hD ⟨?_, out.toList, c, vals_of_strs hIo, ho⟩, rfl, q _ D (List.pairwise_map.mpr o1) hb (I1.hok.fresh hD)⟩
    rw [List.length_map, hb.len]
    rw [List.length_map] at hz
    exact hz
end
end L2

set_option Elab.async false
set_option linter.all false
set_option maxRecDepth 100000
set_option maxHeartbeats 4000000
/-! sets of texts: made of a list, made by a comprehension, in, len, sorted -/
namespace SetX
open PySem PySem.Spec PyProof.Rows L2 PpSet
/-- an entry's text -/
def txt (e : Int × Value) : Str := SrtC.tv e.2
def Ent (w : World) (e : Int × Value) : Prop := ∃ k tk, e.2 = Value.str k tk ∧ e.1 = hashStr w k
/-- the set of texts at a: S its members, n their number -/
structure At (w : World) (h : Heap) (a : Addr) (S : Str → Bool) (n : Nat) (o : Obj) (es : Array (Int × Value)) (ep : Nat) (t : SetTable) : Prop where
  get : h.get? a = some o
  ex : o.ExactSet
  dat : o.data = .set es ep t
  ent : ∀ e ∈ es.toList, Ent w e
  nd : (es.toList.map txt).Nodup
  mem : ∀ k, S k = true ↔ k ∈ es.toList.map txt
  room : es.size < scanBound
  fit : t.fits es.size = true
  num : es.size = n
  ris : Ris t.place.toList
  led : w.params.followText "set-order" = true ∨ t.led = true
def SetS (w : World) (h : Heap) (a : Addr) (S : Str → Bool) (n : Nat) : Prop := ∃ o es ep t, At w h a S n o es ep t
section
variable {P : Program} {w : World} {h h' : Heap} {a : Addr} {S S' : Str → Bool} {n : Nat}
theorem SetS.keep (R : SetS w h a S n) (k : ∀ o, h.get? a = some o → h'.get? a = some o) : SetS w h' a S n := by
  obtain ⟨o, es, ep, t, r⟩ := R
  exact ⟨o, es, ep, t, { r with get := k o r.get }⟩
theorem SetS.congr (R : SetS w h a S n) (e : ∀ k, S' k = S k) : SetS w h a S' n := by
  have q : S' = S := funext e
  rw [q]; exact R
theorem str_is (k : Str) (u : Tok) : (strKind P w).is k (.str k u) = true := by
  show Value.isStrOf k (.str k u) = true
  simp [Value.isStrOf]
theorem elems {l : List (Int × Value)} (g : ∀ e ∈ l, Ent w e) : ElemsOf (strKind P w) l := fun e he => by
  obtain ⟨k, tk, h1, h2⟩ := g e he
  exact ⟨⟨k, by rw [h1]; exact str_is k tk, h2⟩, by rw [h1] <;> rfl⟩
theorem ent_is {e : Int × Value} (g : Ent w e) (k : Str) : (strKind P w).is k e.2 = true ↔ txt e = k := by
  obtain ⟨k0, tk, h1, _⟩ := g
  unfold txt
  rw [h1]
  constructor
  · intro q
    exact (strKind P w).inj (.str k0 tk) k0 k (str_is k0 tk) q
  · intro q
    have q : k0 = k := q
    rw [← q]
    exact str_is k0 tk
theorem ent_mem {l : List (Int × Value)} (g : ∀ e ∈ l, Ent w e) (k : Str) : k ∈ l.map txt ↔ ∃ e ∈ l, (strKind P w).is k e.2 = true := by
  rw [List.mem_map]
  exact ⟨fun ⟨e, he, q⟩ => ⟨e, he, (ent_is (g e he) k).2 q⟩, fun ⟨e, he, q⟩ => ⟨e, he, (ent_is (g e he) k).1 q⟩⟩
theorem SetS.of (R : SetS w h a S n) : h.SetOf (strKind P w) a S n := by
  obtain ⟨o, es, ep, t, r⟩ := R
  exact ⟨o, es, ep, t, r.get, r.ex, r.dat, elems r.ent, fun k => (r.mem k).trans (ent_mem r.ent k), r.room, r.fit, r.num⟩
end
section
variable {P : Program} {w : World} {A : Around} {E : Value → Shared → Prop} {s : Shared} {a : Addr} {S : Str → Bool} {n : Nat}
theorem add_tail {g : Bool → Sem Unit} (hg : ∀ (b : Bool) (s₁ : Shared) (Q' : Unit → Shared → Prop), Q' () s₁ → wpAny (model P w) A (g b) Q' E s₁)
    {o : Obj} {es : Array (Int × Value)} {ep : Nat} {t : SetTable} (ho : s.heap.get? a = some o) (hex : o.ExactSet) (hd : o.data = .set es ep t)
    {es1 : Array (Int × Value)} {t2 : SetTable} {S' : Str → Bool} (g1 : ∀ e ∈ es1.toList, Ent w e) (nd1 : (es1.toList.map txt).Nodup) (m1 : ∀ k, S' k = true ↔ k ∈ es1.toList.map txt)
    (hb1 : es1.size < scanBound) (hf2 : t2.fits es1.size = true) (hr : Ris t2.place.toList) (hl : w.params.followText "set-order" = true ∨ t2.led = true) {wasDummy : Bool} {R : Option Bool → Shared → Prop}
    (hR : ∀ h', Heap.SameBut a s.heap h' → SetS w h' a S' es1.size → R (some true) { s with heap := h' }) :
    wpAny (model P w) A (do
        storeSet a es1 t2
        if (!wasDummy && t2.tooFull) = true then do
            g (relayAll t2 es1 (SetTable.grown es1.size)).2.2
            storeSet a (relayAll t2 es1 (SetTable.grown es1.size)).1 (relayAll t2 es1 (SetTable.grown es1.size)).2.1
            pure (some true)
          else pure (some true)) R E s := by
  have ho1 := storeB_at (es' := es1) (t' := t2) ho hd
  have sb1 := Heap.SameBut.update s.heap a (Obj.putSet es1 t2)
  refine wpAny_bind (wpAny_storeSet_of ho hd ?_ (fits_of_scanBound hb1))
  by_cases full : (!wasDummy && t2.tooFull) = true
  · rw [if_pos full]
    have pm := relayAll_perm t2 es1 (SetTable.grown es1.size)
    have hf3 := relayAll_fits t2 es1 (SetTable.grown es1.size)
    have hr3 := relayAll_ris t2 es1 (SetTable.grown es1.size)
    have hl3 := relayAll_led t2 es1 (SetTable.grown es1.size)
    generalize relayAll t2 es1 (SetTable.grown es1.size) = Z at pm hf3 hr3 hl3 ⊢
    obtain ⟨es2, t3, gave⟩ := Z
    dsimp only at pm hf3 hr3 hl3 ⊢
    have hsz : es2.size = es1.size := by simpa using pm.length_eq
    have hb2 : es2.size < scanBound := hsz ▸ hb1
    refine wpAny_bind (hg _ _ _ (wpAny_bind (wpAny_storeSet_of ho1 rfl ?_ (fits_of_scanBound hb2))))
    have ho2 := storeB_at (es' := es2) (t' := t3) ho1 rfl
    refine wpAny_pure (hR _ (sb1.trans (Heap.SameBut.update _ a _)) ?_)
    refine ⟨_, es2, _, t3, ho2, hex, rfl, ?_, ?_, ?_, ?_, ?_, ?_, ?_, ?_⟩
    · exact fun e he => g1 e (pm.mem_iff.mp he)
    · exact (pm.map txt).nodup_iff.mpr nd1
    · exact fun k => (m1 k).trans (pm.map txt).mem_iff.symm
    · exact hb2
    · exact hf3
    · exact hsz
    · exact hr3
    · exact hl.imp id fun z => by rw [hl3]; exact z
  · rw [if_neg full]
    exact wpAny_pure (hR _ sb1 ⟨_, es1, _, t2, ho1, hex, rfl, g1, nd1, m1, hb1, hf2, rfl, hr, hl⟩)
theorem add_hashed {k : Str} {tk : Tok} {Q : Bool → Shared → Prop} (R : SetS w s.heap a S n) (room : n + 1 < scanBound)
    (hQ : ∀ h', Heap.SameBut a s.heap h' → SetS w h' a (fun j => S j || decide (j = k)) (if S k = true then n else n + 1) → Q (!S k) { s with heap := h' }) :
    wpAny (model P w) A (setAddHashed a (.str k tk) (hashStr w k)) Q E s := by
  obtain ⟨o, es, ep, t, r⟩ := R
  have hel : ElemsOf (strKind P w) es.toList := elems r.ent
  have hsc : (Value.str k tk).scannable = true := rfl
  have hkey : (strKind P w).is k (.str k tk) = true := str_is k tk
  unfold setAddHashed setAddHashedIn
  refine wpAny_holding (wpAny_bind (wpAny_setState_of r.get r.dat r.fit ?_))
  dsimp only
  rw [byScan_of hsc r.room hel]
  simp only [↓reduceIte]
  unfold setAddByScan
  refine wpAny_bind (wpAny_bind (wpAny_rule (wpAny_bind (wpAny_setScan_of hkey r.get r.dat r.fit hel ?_))))
  cases hfi : List.findIdx? (fun e => (strKind P w).is k e.2) es.toList with
  | some j =>
    dsimp only
    obtain ⟨hj, pj, _⟩ := List.findIdx?_eq_some_iff_getElem.mp hfi
    have hSk : S k = true := (r.mem k).2 ((ent_mem (P := P) r.ent k).2 ⟨es.toList[j], List.getElem_mem hj, pj⟩)
    refine wpAny_pure (wpAny_pure ?_)
    have hm : ∀ i, (S i || decide (i = k)) = true ↔ i ∈ es.toList.map txt := fun i => by
      rw [Bool.or_eq_true, decide_eq_true_eq, ← r.mem i]
      exact ⟨fun z => z.elim id (fun e => e ▸ hSk), .inl⟩
    have hn : es.size = if S k = true then n else n + 1 := by
      rw [if_pos hSk]
      exact r.num
    have q := hQ s.heap (Heap.SameBut.refl a s.heap) ⟨o, es, ep, t, r.get, r.ex, r.dat, r.ent, r.nd, hm, r.room, r.fit, hn, r.ris, r.led⟩
    rw [hSk] at q
    exact q
  | none =>
    dsimp only
    have hnk : k ∉ es.toList.map txt := fun z => by
      obtain ⟨e, he, q⟩ := (ent_mem (P := P) r.ent k).1 z
      have c := List.findIdx?_eq_none_iff.mp hfi e he
      rw [q] at c
      cases c
    have hSk : S k = false := by
      cases q : S k with
      | false => rfl
      | true => exact absurd ((r.mem k).1 q) hnk
    have hgw : ∀ (b : Bool) {s₁ : Shared} {Q' : Unit → Shared → Prop}, Q' () s₁ → wpAny (model P w) A (match b with | true => rule "set.scan.the-table-gave-way" | false => pure ()) Q' E s₁ :=
      fun b s₁ Q' q => by cases b <;> first | exact wpAny_pure q | exact wpAny_rule q
    have pm := layNew_perm t es (hashStr w k) (.str k tk)
    have hf1 := layNew_fits t es (hashStr w k) (.str k tk)
    have hr1 := layNew_ris t es (hashStr w k) (.str k tk) r.ris
    have hl1 := layNew_led t es (hashStr w k) (.str k tk)
    show wpAny _ _ _ _ _ _
    have eh : (strKind P w).hash k = hashStr w k := rfl
    generalize layNew t es (hashStr w k) (.str k tk) = Z at pm hf1 hr1 hl1 ⊢
    obtain ⟨es1, t1, wasDummy, gave⟩ := Z
    dsimp only at pm hf1 hr1 hl1 ⊢
    rw [Array.toList_push] at pm
    have pc : es1.toList.Perm ((hashStr w k, Value.str k tk) :: es.toList) := pm.trans (List.perm_append_singleton _ _)
    have pk : (es1.toList.map txt).Perm (k :: es.toList.map txt) := pc.map txt
    have hsz : es1.size = n + 1 := by
      have := pc.length_eq
      rw [List.length_cons, Array.length_toList, Array.length_toList, r.num] at this
      exact this
    have hb1 : es1.size < scanBound := hsz ▸ room
    have g1 : ∀ e ∈ es1.toList, Ent w e := fun e he => by
      rcases List.mem_cons.mp (pc.mem_iff.mp he) with z | z
      · rw [z]; exact ⟨k, tk, rfl, rfl⟩
      · exact r.ent e z
    have nd1 : (es1.toList.map txt).Nodup := pk.nodup_iff.mpr (List.nodup_cons.mpr ⟨hnk, r.nd⟩)
    have m1 : ∀ i, (S i || decide (i = k)) = true ↔ i ∈ es1.toList.map txt := fun i => by
      rw [Bool.or_eq_true, decide_eq_true_eq, r.mem i, pk.mem_iff, List.mem_cons]
      exact Or.comm
    have hled : w.params.followText "set-order" = true ∨ t1.led = true := r.led.imp id fun z => by rw [hl1]; exact z
    have fin : ∀ h', Heap.SameBut a s.heap h' → SetS w h' a (fun j => S j || decide (j = k)) es1.size → Q true { s with heap := h' } := fun h' sb r => by
      have q := hQ h' sb
      rw [hSk] at q
      rw [hsz] at r
      exact q r
    refine wpAny_bind (hgw _ ?_)
    split
    · refine wpAny_bind ?_
      rw [hashByValue_scannable 8 hsc]
      refine wpAny_pure (add_tail ?_ r.get r.ex r.dat g1 nd1 m1 hb1 ?_ ?_ ?_ ?_)
      · intro b s₁ Q' q; cases b <;> first | exact wpAny_pure q | exact wpAny_rule q
      · first | (split <;> first | exact hf1 | exact SetTable.fits_plain_off hf1) | exact hf1
      · first | (split <;> exact hr1) | exact hr1
      · first | (split <;> exact hled) | exact hled
      · intro h' sb r; dsimp only; exact wpAny_pure (fin h' sb r)
    · refine wpAny_bind (wpAny_pure ?_)
      simp only [↓reduceIte]
      refine add_tail ?_ r.get r.ex r.dat g1 nd1 m1 hb1 hf1 hr1 hled ?_
      · intro b s₁ Q' q; cases b <;> first | exact wpAny_pure q | exact wpAny_rule q
      · intro h' sb r; dsimp only; exact wpAny_pure (fin h' sb r)
theorem add_call {k : Str} {tk : Tok} {Q : Value → Shared → Prop} (R : SetS w s.heap a S n) (room : n + 1 < scanBound)
    (hQ : ∀ h', Heap.SameBut a s.heap h' → SetS w h' a (fun j => S j || decide (j = k)) (if S k = true then n else n + 1) → Q .none { s with heap := h', toks := s.toks + 1 }) :
    wpAny (model P w) A (call (.builtin "set.add") [.ref a, .str k tk]) Q E s := by
  have hS : s.heap.SetOf (strKind P w) a S n := R.of
  refine wpAny_call_entry F.slot_set_add hS.typeIs F.entry_set_add ?_ (F.args_set_add_2 _ _)
  unfold Builtin.«set.add» Builtin.Frozenset.oneOther
  simp only [List.isEmpty_nil, bind_assoc]
  unfold Builtin.Frozenset.addrOf setAdd
  refine wpAny_bind (wpAny_pure ?_)
  try dsimp only
  refine wpAny_bind (wpAny_pure ?_)
  try dsimp only
  refine wpAny_bind (wpAny_holding (wpAny_bind ((strKind P w).pyHash (str_is k tk) ?_)))
  refine add_hashed (s := { s with toks := s.toks + 1 }) R room fun h' sb r => ?_
  show wpAny _ _ (ret Value.none) _ _ _
  exact wpAny_pure ⟨_, rfl, hQ h' sb r⟩
theorem led0 (w : World) : w.params.followText "set-order" = true ∨ (SetTable.fresh 0 0 (!w.params.followText "set-order")).led = true := by
  show _ ∨ (!w.params.followText "set-order") = true
  cases w.params.followText "set-order"
  · exact .inr rfl
  · exact .inl rfl
theorem fresh {h : Heap} {a : Addr} (w : World) (ho : h.get? a = some { cls := .type "set", dict := none, data := .set #[] 0 (.fresh 0 0 (!w.params.followText "set-order")) }) : SetS w h a (fun _ => false) 0 :=
  ⟨_, #[], 0, _, ho, ⟨rfl, rfl, rfl⟩, rfl, (fun e he => by simp at he), (by simp), (fun k => by simp), (by decide), (by rfl), rfl, List.Pairwise.nil, led0 w⟩
/-! ### set(a list of texts) -/
theorem upd_loop {I : Addr} {fp wr : List Addr} {G : Array GenState → Array GenState → Prop} {m : Nat} {Pv : Nat → Value → Prop} {St : Nat → Shared → Prop} {R : Result → Shared → Prop}
    (W : WalksS P w A.in1 I fp wr G m Pv St) (D : Addr) (hDf : D ∉ fp) (ss : List Str) (hn : m = ss.length) (hb : ss.length + 1 < scanBound) (hval : ∀ i v, Pv i v → ∃ k t, ss[i]? = some k ∧ v = .str k t) :
    ∀ (k i : Nat) (s : Shared), m - i = k → i ≤ m → St i s → (∃ c, c ≤ i ∧ SetS w s.heap D (fun j => decide (j ∈ ss.take i)) c) →
      (∀ s' c, Moved (D :: wr) G s s' → c ≤ m → SetS w s'.heap D (fun j => decide (j ∈ ss)) c → R (.ok (.ret .none)) s') →
      codeAny (model P w) A (.builtin "set.update.loop" ⟨[.ref D, .ref I], []⟩) R s := by
  have hDw : D ∉ wr := fun h => hDf (W.sub _ h)
  have more : ∀ b ∈ wr, b ∈ D :: wr := fun b hb => List.mem_cons_of_mem _ hb
  intro k
  induction k with
  | zero =>
    rintro i s hk' hi hst ⟨c, hc, hS⟩ hR
    obtain rfl : i = m := by omega
    refine codeAny_builtin F.entry_set_update_loop ?_
    rw [Around.under_plainId F.plain_set_update_loop _]
    show wpAny _ A.in1 (pyNext (.ref I) >>= _) _ _ s
    refine wpAny_bind (W.done s _ _ hst fun s' hm => ?_)
    show wpAny _ A.in1 (ret Value.none) _ _ s'
    rw [List.take_of_length_le (show ss.length ≤ i by omega)] at hS
    exact wpAny_pure (hR s' c (hm.mono more) hc (hS.keep fun o e => hm.heap D o hDw e))
  | succ k ih =>
    rintro i s hk' hi hst ⟨c, hc, hS⟩ hR
    have hlt : i < m := by omega
    refine codeAny_builtin F.entry_set_update_loop ?_
    rw [Around.under_plainId F.plain_set_update_loop _]
    show wpAny _ A.in1 (pyNext (.ref I) >>= _) _ _ s
    refine wpAny_bind (W.item i s _ _ hlt hst fun v s' hP hst' hm => ?_)
    obtain ⟨z, t, hz, rfl⟩ := hval i v hP
    have hS' : SetS w s'.heap D (fun j => decide (j ∈ ss.take i)) c := hS.keep fun o e => hm.heap D o hDw e
    show wpAny _ A.in1 (holding [Value.str z t] (setAdd D (.str z t)) >>= _) _ _ s'
    refine wpAny_bind (wpAny_holding ?_)
    unfold setAdd
    refine wpAny_holding (wpAny_bind ((strKind P w).pyHash (k := z) (str_is _ _) ?_))
    refine add_hashed (s := { s' with toks := s'.toks + 1 }) hS' (by omega) fun h' hsb hS2 => ?_
    have hS3 : SetS w h' D (fun j => decide (j ∈ ss.take (i + 1))) (if decide (z ∈ ss.take i) = true then c else c + 1) := hS2.congr fun j => by
      rw [List.take_add_one, hz]
      simp [List.mem_append]
    have hc3 : (if decide (z ∈ ss.take i) = true then c else c + 1) ≤ i + 1 := by
      split <;> omega
    refine wpAny_pure ⟨plainId_quiet F.plain_set_update_loop _, ih (i + 1) _ (by omega) hlt (W.frame _ s' _ _ hst' (Nat.le_succ _) fun b hb o e => ?_) ⟨_, hc3, hS3⟩ fun s'' c2 hm'' hc'' hS'' => ?_⟩
    · rw [hsb.2 b (fun h : b = D => hDf (by rw [← h]; exact hb))]; exact e
    · refine hR s'' c2 (Moved.trans W.gtrans ((hm.mono more).then_heap (Nat.le_succ _) fun b o hb e => ?_) hm'') hc'' hS''
      rw [hsb.2 b (fun h : b = D => hb (by rw [h]; exact List.mem_cons_self))]; exact e
theorem strs_get : ∀ {us : List Value} {ss : List Str}, StrsAre us ss → ∀ {i : Nat} {v : Value}, us[i]? = some v → ∃ k t, ss[i]? = some k ∧ v = .str k t
  | _, _, .nil, i, v, h => by simp at h
  | _, _, .cons x t r, 0, v, h => by
    obtain rfl := Option.some.inj h
    exact ⟨x, t, rfl, rfl⟩
  | _, _, .cons x t r, i + 1, v, h => strs_get r (i := i) h
theorem slen : ∀ {vs : List Value} {ss : List Str}, StrsAre vs ss → vs.length = ss.length
  | _, _, .nil => rfl
  | _, _, .cons _ _ r => congrArg (· + 1) (slen r)
/-- a new empty set -/
abbrev newO (w : World) : Obj := { cls := .type "set", dict := none, data := .set #[] 0 (.fresh 0 0 (!w.params.followText "set-order")) }
set_option maxHeartbeats 6400000 in
theorem call_list {l : Addr} {items : Array Value} (ss : List Str) {Q : Value → Shared → Prop} (hh : A.handled = none) (hl : s.heap.IsList l items) (hit : StrsAre items.toList ss) (hb : ss.length + 1 < scanBound)
    (h : ∀ (h' : Heap) (tk c : Nat), SetS w h' s.heap.objs.size (fun j => decide (j ∈ ss)) c → c ≤ ss.length → (∀ b o, s.heap.get? b = some o → h'.get? b = some o) → Q (.ref s.heap.objs.size) { s with heap := h', toks := tk }) :
    wpAny (model P w) A (call (.type "set") [.ref l]) Q E s := by
  have hisz : items.size = ss.length := by rw [← slen hit, Array.length_toList]
  obtain ⟨c, tl, hmro⟩ := F.called_set.mro
  have hmade := F.called_set.made
  have hsub := F.called_set.sub
  have h1 := F.called_set.notType
  have h2 := F.called_set.canCreate
  have hct := F.typeCall_set_1 (.ref l)
  refine wpAny_call (codeAny_of_tree ?_)
  show wpAny _ _ (callAny (.type "set") _) _ _ _
  refine wpAny_pure ⟨Code.quiet_builtin _ (by decide +kernel), codeAny_builtin F.entry_type_call ?_⟩
  rw [Around.under_plain (weight_type_call_type "set" [.ref l] []) rfl]
  repeat (any_goals (first | assumption | wp_step))

  refine codeAny_mono (code_set_led1 (.ref l) (E := E) (Q₁ := fun obj s₁ => obj = .ref s.heap.objs.size ∧ s₁ = { s with heap := s.heap.push (newO w) }) ⟨rfl, rfl⟩) fun r s₁ hr => ?_
  cases r with
  | error e => exact hr
  | ok fl =>
    cases fl with
    | ret obj =>
      obtain ⟨rfl, rfl⟩ := hr
      have hS : (s.heap.push (newO w)).get? s.heap.objs.size = some (newO w) := Heap.get?_push_size _ rfl
      have hT : Shared.TypeIs { s with heap := s.heap.push (newO w) } (.ref s.heap.objs.size) "set" := ⟨_, hS, rfl⟩
      have hli := F.called_set.init.lookup
      have hbi := F.called_set.init.bind (.ref s.heap.objs.size)
      repeat (any_goals (first | assumption | wp_step))

      refine codeAny_mono (codeAny_call_builtin (R := wants (fun r s₂ => r = .none ∧ ∃ h' tk c, s₂ = { s with heap := h', toks := tk } ∧ SetS w h' s.heap.objs.size (fun j => decide (j ∈ ss)) c ∧ c ≤ ss.length ∧
          (∀ b o, s.heap.get? b = some o → h'.get? b = some o)) E) F.called_set.init.plain F.entry_set_init (check_set_init_1 hT ?_)) fun r₂ s₂ hr₂ => ?_
      · obtain ⟨ol, hol, hcl, nl, hdl⟩ := hl
        obtain ⟨ocls, odict, odata, oslots⟩ := ol
        simp only at hcl hdl
        subst hcl; subst hdl
        have hol' : (s.heap.push (newO w)).get? l = some { cls := .type "list", dict := odict, data := .seq items nl, slots := oslots } := Heap.get?_push_of_some _ hol
        have hsls := F.sub_list_set
        have hslf := F.sub_list_frozenset
        have hne : (Value.type "list" == Value.type "dict") = false := by decide
        have hl1 : (s.heap.push (newO w)).IsList l items := ⟨_, hol', rfl, nl, rfl⟩
        unfold Builtin.«set.__init__» noKeywords Builtin.Frozenset.updateFrom
        generalize hPI : pyIter = PI
        wp_walk
        subst hPI

        refine wpAny_pyIter_list hl1 ?_
        refine wpAny_bind (wpAny_runValue ?_)
        have hlS : l < s.heap.objs.size := Heap.lt_size hol
        have hh3 : A.in1.in1.in1.handled = none := by simp [hh]
        have hneI : l ≠ (s.heap.push (newO w)).objs.size := by
          rw [Heap.size_push]; exact Nat.ne_of_lt (Nat.lt_succ_of_lt hlS)
        have hSf : s.heap.objs.size ∉ [(s.heap.push (newO w)).objs.size, l] := by
          rw [Heap.size_push]; simp only [List.mem_cons, List.mem_singleton, List.not_mem_nil, or_false, not_or]
          exact ⟨Nat.ne_of_lt (Nat.lt_succ_self _), Nat.ne_of_gt hlS⟩
        have hval : ∀ (i : Nat) (v : Value), items[i]? = some v → ∃ k t, ss[i]? = some k ∧ v = .str k t := fun i v hv => strs_get hit (by rw [Array.getElem?_toList]; exact hv)
        refine upd_loop ((Walks.list hh3 _ l hneI items).toS) s.heap.objs.size
          hSf ss hisz hb hval (items.size - 0) 0 _ (by omega) (Nat.zero_le _)
          ⟨⟨_, Heap.get?_push_size _ rfl, rfl, rfl⟩, (hl1.push _)⟩ ?hS0 ?hR
        case hS0 =>
          have hget : ((s.heap.push (newO w)).push { cls := .type "list_iterator", data := .fields #[.ref l, .int 0 0] }).get? s.heap.objs.size = some (newO w) := Heap.get?_push_of_some _ hS
          exact ⟨0, Nat.le_refl 0, (fresh w hget).congr fun j => by simp⟩
        case hR =>
          intro s' c' hm hc' hS'
          obtain ⟨h', g2, d', tk', os'⟩ := s'
          obtain rfl : g2 = s.gens := hm.gens
          obtain rfl : d' = s.drawn := hm.drawn
          obtain rfl : os' = s.os := hm.os
          show wpAny _ _ _ _ _ _
          refine wpAny_pure ?_
          show wpAny _ _ (ret Value.none) _ _ _
          rw [hisz] at hc'
          refine wpAny_pure ⟨rfl, h', tk', c', rfl, hS', hc', fun b o e => ?_⟩
          have hb0 : b < s.heap.objs.size := Heap.lt_size e
          have hb1 : b ≠ s.heap.objs.size := Nat.ne_of_lt hb0
          have hb2 : b ≠ (s.heap.push (newO w)).objs.size := by
            rw [Heap.size_push]; exact Nat.ne_of_lt (Nat.lt_succ_of_lt hb0)
          exact hm.heap b o (by simp only [List.mem_cons, List.mem_singleton, List.not_mem_nil, or_false, not_or]; exact ⟨hb1, hb2⟩) (Heap.get?_push_of_some _ (Heap.get?_push_of_some _ e))

      · cases r₂ with
        | error e => exact hr₂
        | ok fl₂ =>
          cases fl₂ with
          | ret r =>
            obtain ⟨rfl, h', tk, c', rfl, hS', hc', hk'⟩ := hr₂
            repeat (any_goals (first | assumption | wp_step))
            exact h _ _ _ hS' hc' hk'
          | _ => exact hr₂.elim
    | _ => exact hr.elim
/-! ### sorted(a set of texts) -/
theorem sorted_set {Q : Value → Shared → Prop} (R : SetS w s.heap a S n) (hh : A.handled = none) (hn4 : n ≤ 100000)
    (hQ : ∀ s' p (out : Array Value) (c : Nat) (ss : List Str), (∀ b o, s.heap.get? b = some o → s'.heap.get? b = some o) → s'.gens = s.gens → s'.os = s.os → s.heap.objs.size ≤ p →
      s'.heap.get? p = some (seqObj "list" out c) → StrsAre out.toList ss → SrtC.Asc ss → ss.Nodup → (∀ k, k ∈ ss ↔ S k = true) → ss.length = n → Q (.ref p) s') :
    wpAny (model P w) A (call (.builtin "sorted") [.ref a]) Q E s := by
  obtain ⟨o, es, ep, t, r⟩ := R
  refine Calls.call_function_entry kind_sorted plain_sorted entry_sorted (args_sorted1 _) ?_
  unfold Builtin.«sorted»
  refine wpAny_bind (m := checkCount "sorted" 1 1 _) (wpAny_pure ?_)
  refine wpAny_bind (collect_set (A := A.in1) hh ⟨o, r.get, r.ex.1, r.dat⟩ r.fit r.room r.ris r.led fun s1 vs k1 hz g1 o1 pm => ?_)
  have hvl : vs.length = n := by rw [pm.length_eq, List.length_map, Array.length_toList]; exact r.num
  have hI : StrsAre vs (vs.map SrtC.tv) := SrtC.strs_tv fun v hv => by
    obtain ⟨e, he, q⟩ := List.mem_map.mp (pm.mem_iff.mp hv)
    obtain ⟨k, tk, h1, _⟩ := r.ent e he
    exact ⟨k, tk, by rw [← q]; exact h1⟩
  have pk : (vs.map SrtC.tv).Perm (es.toList.map txt) := by
    have q := pm.map SrtC.tv
    rw [List.map_map] at q
    exact q
  have hvz : vs.length ≤ sizeLine := by rw [hvl, sizeLine_eq]; omega
  refine wpAny_bind (wpAny_newList ?_ hvz)
  have hoL : (s1.heap.push (seqObj "list" vs.toArray 0)).get? s1.heap.objs.size = some (seqObj "list" vs.toArray 0) := Heap.get?_push_size _ rfl
  refine wpAny_bind (wpAny_holding (wpAny_call_entry slot_list_sort ⟨_, hoL, rfl⟩ entry_list_sort (SrtO.list_sort_ord SrtC.swo_tv hoL hvz (fun h2 => SrtC.strs_sortable hI h2) fun out h1 h2 => ⟨.none, rfl, ?_⟩) (args_list_sort _)))
  obtain ⟨a1, a2, a3⟩ := SrtC.strs_out hI h1 h2
  obtain ⟨c, hc⟩ := sortedHeap_at (vs := vs) (out := out.toArray) hoL
  have pn : (out.map SrtC.tv).Perm (es.toList.map txt) := a2.trans pk
  refine wpAny_pure ⟨_, rfl, hQ _ s1.heap.objs.size out.toArray c (out.map SrtC.tv) (fun b u e => ?_) g1 o1 hz hc a1 a3 (pn.nodup_iff.mpr r.nd) (fun k => by rw [pn.mem_iff, ← r.mem k]) ?_⟩
  · have q := k1 b u e
    have hlt := Heap.lt_size q
    show (sortedHeap (s1.heap.push (seqObj "list" vs.toArray 0)) s1.heap.objs.size vs out.toArray).get? b = some u
    rw [sortedHeap_old (Nat.ne_of_lt hlt) (by rw [size_push']; exact Nat.lt_succ_of_lt hlt)]
    exact Heap.get?_push_of_some _ q
  · rw [pn.length_eq, List.length_map, Array.length_toList]; exact r.num
end
end SetX
namespace L2
open PySem PySem.Spec PyProof.Rows SetX
/-- the set of texts at a -/
def SetSO (w : World) (a : Addr) (S : Str → Bool) (n : Nat) : HO := .ext fun h => SetS w h a S n
theorem setSO_new {w : World} {P : Program} {H : Hp} {h : Heap} {a : Addr} {S : Str → Bool} {n : Nat} (R : SetS w h a S n) : ObjOk P w H h a (SetSO w a S n) :=
  ⟨R, let ⟨o, _, _, _, r⟩ := R; ⟨o, r.get⟩, fun _ _ p k => SetS.keep p k⟩
section
variable {X : Cx}
theorem setSO_get {pins : List (Addr × Obj)} {σ : St} {H : Hp} {s : Shared} {a : Addr} {S : Str → Bool} {n : Nat} (I : Inv X pins σ H s) (ha : H a = some (SetSO X.w a S n)) : SetS X.w s.heap a S n := (I.hok a _ ha).1
/-- set(xs), xs a list of texts -/
def rSetTx (K : PySem.W.Frag) (w : World) : List V → Hp → VK → Prop := fun vs H Q => ∃ (l : Addr) (ss : List Str), vs = [V.ref l] ∧ SqL K H l (ss.map V.str) ∧ ss.length ≤ 4000 ∧
  ∀ (p : Addr) (c : Nat), H p = none → c ≤ ss.length → Q (.ref p) (upd H p (SetSO w p (fun j => decide (j ∈ ss)) c))
theorem cr_setTx (hc : X.calm = true) : CallR X (.type "set") (rSetTx X.K X.w) := by
  intro pins s σ H vs us Q I r h
  obtain ⟨l, ss, rfl, hs, hn, q⟩ := h
  obtain ⟨its, rv, hl, hz⟩ := I.list hs
  rw [Vals.ref1 r]
  have hI := strs_of_vals' rv
  refine call_list ss (I.ok.hd hc) hl.isList (by simpa using hI) (by unfold scanBound; omega) fun h' tk c R hc' k => ?_
  have hp := I.hok.fresh (Nat.le_refl s.heap.objs.size)
  exact ⟨.ref _, upd H s.heap.objs.size (SetSO X.w s.heap.objs.size (fun j => decide (j ∈ ss)) c), I.laid (t' := tk) k (Nat.le_refl _) (setSO_new R), rfl, q _ c hp hc'⟩
/-- sorted(a set of texts) -/
def rSortedSetS (w : World) : List V → Hp → VK → Prop := fun vs H Q => ∃ (a : Addr) (S : Str → Bool) (n : Nat), vs = [V.ref a] ∧ H a = some (SetSO w a S n) ∧ n ≤ 100000 ∧
  ∀ (ss : List Str) (p : Addr), SrtC.Asc ss → ss.Nodup → (∀ k : Str, k ∈ ss ↔ S k = true) → ss.length = n → H p = none → Q (.ref p) (upd H p (.lst (ss.map V.str)))
theorem cr_sortedSetS (hc : X.calm = true) : CallR X (.builtin "sorted") (rSortedSetS X.w) := by
  intro pins s σ H vs us Q I r h
  obtain ⟨a, S, n, rfl, ha, hn, q⟩ := h
  rw [Vals.ref1 r]
  refine SetX.sorted_set (setSO_get I ha) (I.ok.hd hc) hn fun s' p out c ss k g o hp hg hi hs hnd hm hl => ?_
  have hlen : (ss.map V.str).length ≤ sizeLine := by rw [List.length_map, hl, sizeLine_eq]; omega
  have hpn : H p = none := I.hok.fresh hp
  have J : Inv X pins σ (upd H p (.lst (ss.map V.str))) { s with heap := s'.heap, gens := s'.gens, drawn := s'.drawn, toks := s'.toks } :=
    I.call (ch := []) (Un.laid k hp hpn) (I.hok.laid k hp ⟨hlen, out.toList, c, vals_of_strs hi, hg⟩) (by rw [g]; exact I.bare) (fun _ z => nomatch z)
  have e : s' = { s with heap := s'.heap, gens := s'.gens, drawn := s'.drawn, toks := s'.toks } := by
    cases s'
    cases s
    cases o
    rfl
  rw [e]
  exact ⟨.ref p, _, J, rfl, q ss p hs hnd hm hl hpn⟩
/-- len(a set of texts) -/
def rLenSetS (w : World) : List V → Hp → VK → Prop := fun vs H Q => ∃ (a : Addr) (S : Str → Bool) (n : Nat), vs = [V.ref a] ∧ H a = some (SetSO w a S n) ∧ n ≤ 100000 ∧
  ∀ ss : List Str, ss.Nodup → (∀ k : Str, k ∈ ss ↔ S k = true) → ss.length = n → Q (.int n) H
theorem cr_lenSetS : CallR X (.builtin "len") (rLenSetS X.w) := by
  intro pins s σ H vs us Q I r h
  obtain ⟨a, S, n, rfl, ha, hn, q⟩ := h
  rw [Vals.ref1 r]
  obtain ⟨o, es, ep, t, R⟩ := setSO_get I ha
  refine call_len_set R.get R.ex R.dat R.fit (by rw [R.num] <;> omega) ⟨.int n, H, I.tok _, ⟨_, by rw [R.num]⟩, q (es.toList.map txt) R.nd (fun k => (R.mem k).symm) ?_⟩
  rw [List.length_map, Array.length_toList]
  exact R.num
/-- x in a set of texts -/
def rSInS (w : World) (neg : Bool) : V → V → Hp → VK → Prop := fun x y H Q => ∃ (k : Str) (a : Addr) (S : Str → Bool) (n : Nat), x = V.str k ∧ y = V.ref a ∧ H a = some (SetSO w a S n) ∧ Q (.bl (if neg then !S k else S k)) H
theorem or_sinS : OpR X (compareOp .In) (rSInS X.w false) := by
  intro pins s σ H x y v u Q I rx ry h
  obtain ⟨k, a, S, n, rfl, rfl, ha, q⟩ := h
  cases ry
  obtain ⟨t, rfl⟩ := rx
  exact wpAny_inSet_of (str_is (P := X.prog) (w := X.w) k t) rfl (setSO_get I ha).of ⟨.bl (S k), H, I.tok _, rfl, q⟩
end
end L2

set_option Elab.async false
set_option linter.all false
set_option maxRecDepth 100000
set_option maxHeartbeats 4000000
/-! sorted(set(texts)), len(set(texts)): the set itself is not told -/
namespace L2
open PySem PySem.Spec PyProof.Rows SetX
theorem same_new {H : Hp} {q : Addr} (o : HO) (h : H q = none) : Same H (upd H q o) := fun c u e => by
  rw [upd_ne (ne_of_none e h)]; exact e
/-- each of the texts once -/
def Once (ss ys : List Str) : Prop := ys.Nodup ∧ ∀ k, k ∈ ys ↔ k ∈ ss
def tSortedSet (K : PySem.W.Frag) (t : TA) : TE := fun σ H Q => t σ H fun vs H1 => ∃ (l : Addr) (ss : List Str), vs = [V.ref l] ∧ SqL K H1 l (ss.map V.str) ∧ ss.length ≤ 4000 ∧
  ∀ H2 L (ys : List Str), Same H1 H2 → H1 L = none → H2 L = some (.lst (ys.map V.str)) → SrtC.Asc ys → Once ss ys → ys.length ≤ ss.length → Q (.ref L) H2
def tLenSetT (K : PySem.W.Frag) (t : TA) : TE := fun σ H Q => t σ H fun vs H1 => ∃ (l : Addr) (ss : List Str), vs = [V.ref l] ∧ SqL K H1 l (ss.map V.str) ∧ ss.length ≤ 4000 ∧
  ∀ H2 (ys : List Str), Same H1 H2 → Once ss ys → ys.length ≤ ss.length → Q (.int ys.length) H2
section
variable {X : Cx} {e : Expr} {t : TA} {p p2 pos pos2 : Pos}
theorem pe_sortedSet (hc : X.calm = true) (hA : PA X [e] t) (hg : Gl X "sorted") (hm : X.mg "sorted" = none) (hg2 : Gl X "set") (hm2 : X.mg "set" = none)
    (he : starEach [e] X.env = (false, eval e X.env) :: starEach [] X.env := by rfl) :
    PE X (.Call (.Name "sorted" p) [.Call (.Name "set" p2) [e] [] pos2] [] pos) (tSortedSet X.K t) := by
  refine ⟨fun pins s σ H Q I h => ?_⟩
  refine Call_ (ld_blt I hg hm (show bootBuiltins "sorted" = some (.builtin "sorted") by decide +kernel) ?_)
  refine PyProof.Rows.callWith_builtin1 (PyProof.Rows.args_cons ?_ rfl) rfl rfl
  refine Call_ (ld_blt I hg2 hm2 PyProof.Rows.boot_set ?_)
  refine PyProof.Rows.callWith_type1 (thn (hA.run pos2 pins s σ H _ I h) fun us s1 ⟨vs, H1, I1, r1, l, ss, ev, hq, h1, q1⟩ => ?_) he rfl
  subst ev
  refine thn (cr_setTx hc pins s1 σ H1 _ _ (fun v H2 => ∃ Sa c, v = .ref Sa ∧ H1 Sa = none ∧ c ≤ ss.length ∧ H2 = upd H1 Sa (SetSO X.w Sa (fun j => decide (j ∈ ss)) c)) I1 r1 ⟨l, ss, rfl, hq, h1, fun Sa c hSa hcs => ⟨Sa, c, rfl, hSa, hcs, rfl⟩⟩) fun u s2 ⟨v, H2, I2, r2, Sa, c, ev, hSa, hcs, eH⟩ => ?_
  subst ev
  subst eH
  obtain rfl : u = Value.ref Sa := r2
  refine PyProof.Rows.args_nil ?_
  refine cr_sortedSetS hc pins s2 σ _ [V.ref Sa] [Value.ref Sa] Q I2 (.cons rfl .nil) ⟨Sa, _, c, rfl, upd_same, by omega, fun ys L hA hnd hm hl hL => q1 _ L ys ((same_new _ hSa).trans (same_new _ hL)) ?_ upd_same hA ⟨hnd, fun k => by rw [hm k, decide_eq_true_eq]⟩ (by omega)⟩
  exact (same_new _ hSa).free hL
theorem pe_lenSetT (hc : X.calm = true) (hA : PA X [e] t) (hg : Gl X "len") (hm : X.mg "len" = none) (hg2 : Gl X "set") (hm2 : X.mg "set" = none)
    (he : starEach [e] X.env = (false, eval e X.env) :: starEach [] X.env := by rfl) :
    PE X (.Call (.Name "len" p) [.Call (.Name "set" p2) [e] [] pos2] [] pos) (tLenSetT X.K t) := by
  refine ⟨fun pins s σ H Q I h => ?_⟩
  refine Call_ (ld_blt I hg hm PySem.boot_len ?_)
  refine PyProof.Rows.callWith_builtin1 (PyProof.Rows.args_cons ?_ rfl) rfl rfl
  refine Call_ (ld_blt I hg2 hm2 PyProof.Rows.boot_set ?_)
  refine PyProof.Rows.callWith_type1 (thn (hA.run pos2 pins s σ H _ I h) fun us s1 ⟨vs, H1, I1, r1, l, ss, ev, hq, h1, q1⟩ => ?_) he rfl
  subst ev
  refine thn (cr_setTx hc pins s1 σ H1 _ _ (fun v H2 => ∃ Sa c, v = .ref Sa ∧ H1 Sa = none ∧ c ≤ ss.length ∧ H2 = upd H1 Sa (SetSO X.w Sa (fun j => decide (j ∈ ss)) c)) I1 r1 ⟨l, ss, rfl, hq, h1, fun Sa c hSa hcs => ⟨Sa, c, rfl, hSa, hcs, rfl⟩⟩) fun u s2 ⟨v, H2, I2, r2, Sa, c, ev, hSa, hcs, eH⟩ => ?_
  subst ev
  subst eH
  obtain rfl : u = Value.ref Sa := r2
  refine PyProof.Rows.args_nil ?_
  exact cr_lenSetS pins s2 σ _ [V.ref Sa] [Value.ref Sa] Q I2 (.cons rfl .nil) ⟨Sa, _, c, rfl, upd_same, by omega, fun ys hnd hm hl => by
    rw [← hl]
    exact q1 _ ys (same_new _ hSa) ⟨hnd, fun k => by rw [hm k, decide_eq_true_eq]⟩ (by omega)⟩
end
end L2

set_option Elab.async false
set_option linter.all false
set_option maxRecDepth 100000
set_option maxHeartbeats 4000000
/-! texts as lists of signs: shorter first, then ascending; what can be written in words -/
namespace TxO
open PySem L2 SrtC
abbrev un (x : Str) : List Nat := x.cps.toList
theorem S_un (x : Str) : SX.S (un x) = x := by
  cases x
  simp [SX.S, un]
theorem un_S (u : List Nat) : un (SX.S u) = u := by simp [SX.S, un]
theorem map_un (ys : List Str) : (ys.map un).map SX.S = ys := by
  rw [List.map_map]
  conv => rhs; rw [← List.map_id ys]
  exact List.map_congr_left fun x _ => S_un x
theorem map_S (us : List (List Nat)) : (us.map SX.S).map un = us := by
  rw [List.map_map]
  conv => rhs; rw [← List.map_id us]
  exact List.map_congr_left fun x _ => un_S x
theorem S_inj' {u v : List Nat} (h : SX.S u = SX.S v) : u = v := by
  have := congrArg un h
  rwa [un_S, un_S] at this
theorem sLt_S (u v : List Nat) : sLt (SX.S u) (SX.S v) = decide (u < v) := by simp [sLt, SX.S]
theorem len_S (u : List Nat) : (SX.S u).length = u.length := SX.S_len u
/-! ### shorter first, then ascending -/
def bef (u v : List Nat) : Bool := decide (u.length < v.length) || (decide (u.length = v.length) && decide (u < v))
theorem bef_tri {u v : List Nat} (h1 : bef u v = false) (h2 : bef v u = false) : u = v := by
  unfold bef at h1 h2
  simp only [Bool.or_eq_false_iff, Bool.and_eq_false_iff, decide_eq_false_iff_not] at h1 h2
  have e : u.length = v.length := by omega
  have a : ¬ u < v := by rcases h1.2 with h | h; exact absurd e h; exact h
  have b : ¬ v < u := by rcases h2.2 with h | h; exact absurd e.symm h; exact h
  exact List.le_antisymm (List.not_lt.mp b) (List.not_lt.mp a)
abbrev SF (ys : List (List Nat)) : Prop := ys.Pairwise fun u v => bef v u = false
theorem sf_uniq {ys zs : List (List Nat)} (h1 : SF ys) (h2 : SF zs) (p : ys.Perm zs) : ys = zs :=
  List.Perm.eq_of_pairwise (fun a b _ _ h h' => bef_tri h' h) h1 h2 p
theorem sf_mem {ys zs : List (List Nat)} (h1 : SF ys) (h2 : SF zs) (n1 : ys.Nodup) (n2 : zs.Nodup) (m : ∀ u, u ∈ ys ↔ u ∈ zs) : ys = zs :=
  sf_uniq h1 h2 ((List.perm_ext_iff_of_nodup n1 n2).mpr m)
/-- ascending -/
abbrev As (ys : List (List Nat)) : Prop := ys.Pairwise fun u v => ¬ v < u
theorem as_of {ys : List Str} (h : Asc ys) : As (ys.map un) := by
  refine List.pairwise_map.mpr (h.imp fun {x y} q => ?_)
  have := of_decide_eq_false q
  exact this
theorem as_uniq {ys zs : List (List Nat)} (h1 : As ys) (h2 : As zs) (p : ys.Perm zs) : ys = zs :=
  List.Perm.eq_of_pairwise (fun a b _ _ h h' => List.le_antisymm (List.not_lt.mp h) (List.not_lt.mp h')) h1 h2 p
theorem sf_of {ys zs : List Str} (h1 : SrtO.Srtd ltL ys) (h2 : SrtO.Stb ltL ys zs) (h3 : Asc zs) : SF (ys.map un) := by
  rw [SF, List.pairwise_map, List.pairwise_iff_forall_sublist]
  intro x y hxy
  have a : ltL y x = false := (List.pairwise_iff_forall_sublist.mp h1) hxy
  have na : ¬ ((y.length : Int) < x.length) := of_decide_eq_false a
  show (decide ((un y).length < (un x).length) || (decide ((un y).length = (un x).length) && decide (un y < un x))) = false
  have ly : (un y).length = y.length := by simp [un, Str.length]
  have lx : (un x).length = x.length := by simp [un, Str.length]
  rw [ly, lx, decide_eq_false (show ¬ y.length < x.length by omega), Bool.false_or]
  by_cases e : y.length = x.length
  · have ex : SrtO.eqv ltL x x = true := by simp [SrtO.eqv, ltL]
    have ey : SrtO.eqv ltL x y = true := by simp [SrtO.eqv, ltL, e]
    have s : [x, y].Sublist (ys.filter (SrtO.eqv ltL x)) := by
      have := hxy.filter (SrtO.eqv ltL x)
      simpa [ex, ey] using this
    rw [h2.cls x] at s
    have q : sLt y x = false := (List.pairwise_iff_forall_sublist.mp h3) (s.trans List.filter_sublist)
    have := of_decide_eq_false q
    rw [decide_eq_false this, Bool.and_false]
  · rw [decide_eq_false e, Bool.false_and]
/-! ### written in words -/
def Wr (ws : List (List Nat)) (u : List Nat) : Prop := ∃ ps : List (List Nat), (∀ p ∈ ps, p ∈ ws) ∧ ps.flatten = u
theorem Wr.nil (ws : List (List Nat)) : Wr ws [] := ⟨[], by simp, rfl⟩
theorem Wr.snoc {ws : List (List Nat)} {u w : List Nat} (h : Wr ws u) (hw : w ∈ ws) : Wr ws (u ++ w) := by
  obtain ⟨ps, h1, h2⟩ := h
  refine ⟨ps ++ [w], fun p hp => ?_, by simp [h2]⟩
  rcases List.mem_append.mp hp with h | h
  · exact h1 p h
  · rw [List.mem_singleton.mp h]; exact hw
theorem Wr.last {ws : List (List Nat)} {u : List Nat} (h : Wr ws u) (hu : u ≠ []) (hne : ∀ w ∈ ws, w ≠ []) : ∃ v w, w ∈ ws ∧ w ≠ [] ∧ u = v ++ w ∧ Wr ws v := by
  obtain ⟨ps, h1, rfl⟩ := h
  cases hp : ps.reverse with
  | nil =>
    have : ps = [] := by simpa using hp
    subst this
    exact absurd rfl hu
  | cons w r =>
    have e : ps = r.reverse ++ [w] := by
      have := congrArg List.reverse hp
      simpa using this
    subst e
    have hw : w ∈ ws := h1 w (by simp)
    exact ⟨r.reverse.flatten, w, hw, hne w hw, by simp, r.reverse, fun p hp => h1 p (List.mem_append_left _ hp), rfl⟩
theorem Wr.mono {ws vs : List (List Nat)} {u : List Nat} (h : Wr ws u) (m : ∀ w ∈ ws, w ∈ vs) : Wr vs u := by
  obtain ⟨ps, h1, h2⟩ := h
  exact ⟨ps, fun p hp => m p (h1 p hp), h2⟩
theorem Wr.cons {ws : List (List Nat)} {u w : List Nat} (h : Wr ws u) (hw : w ∈ ws) : Wr ws (w ++ u) := by
  obtain ⟨ps, h1, h2⟩ := h
  refine ⟨w :: ps, fun p hp => ?_, by simp [h2]⟩
  rcases List.mem_cons.mp hp with h | h
  · rw [h]; exact hw
  · exact h1 p h
theorem Wr.first {ws : List (List Nat)} {u : List Nat} (h : Wr ws u) (hu : u ≠ []) (hne : ∀ w ∈ ws, w ≠ []) : ∃ v w, w ∈ ws ∧ w ≠ [] ∧ u = w ++ v ∧ Wr ws v := by
  obtain ⟨ps, h1, rfl⟩ := h
  cases ps with
  | nil => exact absurd rfl hu
  | cons w r => exact ⟨r.flatten, w, h1 w (by simp), hne w (h1 w (by simp)), by simp, r, fun p hp => h1 p (by simp [hp]), rfl⟩
/-- the shorter words -/
abbrev shorter (ws : List (List Nat)) (u : List Nat) : List (List Nat) := ws.filter fun p => decide (p.length < u.length)
/-- u is written in two or more words -/
abbrev Put (ws : List (List Nat)) (u : List Nat) : Prop := Wr (shorter ws u) u
theorem flat_part {ps : List (List Nat)} {p : List Nat} (hne : ∀ q ∈ ps, q ≠ []) (h : p ∈ ps) (hl : ps.flatten.length ≤ p.length) : ps = [p] := by
  obtain ⟨a, b, rfl⟩ := List.append_of_mem h
  rw [List.flatten_append, List.flatten_cons, List.length_append, List.length_append] at hl
  have z : ∀ l : List (List Nat), (∀ q ∈ l, q ≠ []) → l.flatten.length = 0 → l = [] := fun l hn h0 => by
    cases l with
    | nil => rfl
    | cons x r =>
      have : x ≠ [] := hn x (by simp)
      have : x.length ≠ 0 := fun e => this (List.eq_nil_of_length_eq_zero e)
      rw [List.flatten_cons, List.length_append] at h0
      omega
  have ea := z a (fun q hq => hne q (by simp [hq])) (by omega)
  have eb := z b (fun q hq => hne q (by simp [hq])) (by omega)
  rw [ea, eb]
  rfl
/-- to be written in other words, and in shorter ones, is the same -/
theorem wr_other {ws : List (List Nat)} (hne : ∀ w ∈ ws, w ≠ []) (u : List Nat) : Wr (ws.filter fun p => decide (p ≠ u)) u ↔ Put ws u := by
  constructor
  · rintro ⟨ps, h1, h2⟩
    refine ⟨ps, fun p hp => ?_, h2⟩
    obtain ⟨a, b⟩ := List.mem_filter.mp (h1 p hp)
    refine List.mem_filter.mpr ⟨a, decide_eq_true ?_⟩
    have hpn : ∀ q ∈ ps, q ≠ [] := fun q hq => hne q (List.mem_filter.mp (h1 q hq)).1
    by_cases c : p.length < u.length
    · exact c
    · exfalso
      have e := flat_part hpn hp (by rw [h2]; omega)
      rw [e] at h2
      have : p = u := by simpa using h2
      exact (of_decide_eq_true b) this
  · rintro ⟨ps, h1, h2⟩
    refine ⟨ps, fun p hp => ?_, h2⟩
    obtain ⟨a, b⟩ := List.mem_filter.mp (h1 p hp)
    refine List.mem_filter.mpr ⟨a, decide_eq_true fun e => ?_⟩
    have := of_decide_eq_true b
    rw [e] at this
    omega
theorem put_mono {ws vs : List (List Nat)} {u : List Nat} (m : ∀ w ∈ ws, w ∈ vs) (h : Put ws u) : Put vs u :=
  Wr.mono h fun w hw => List.mem_filter.mpr ⟨m w (List.mem_filter.mp hw).1, (List.mem_filter.mp hw).2⟩
/-- of the shortest words none is written in others -/
theorem base_some {ws : List (List Nat)} (hne : ∀ w ∈ ws, w ≠ []) (h0 : ws ≠ []) : ∃ u ∈ ws, ¬ Put ws u := by
  have key : ∀ (n : Nat), ∀ w ∈ ws, w.length ≤ n → ∃ u ∈ ws, ∀ p ∈ ws, u.length ≤ p.length := by
    intro n
    induction n with
    | zero =>
      intro w hw hl
      exact ⟨w, hw, fun p hp => by omega⟩
    | succ n ih =>
      intro w hw hl
      by_cases c : ∃ p ∈ ws, p.length < w.length
      · obtain ⟨p, hp, hpl⟩ := c
        exact ih p hp (by omega)
      · exact ⟨w, hw, fun p hp => Nat.le_of_not_lt fun q => c ⟨p, hp, q⟩⟩
  obtain ⟨w, hw⟩ := List.exists_mem_of_ne_nil ws h0
  obtain ⟨u, hu, hm⟩ := key w.length w hw (Nat.le_refl _)
  refine ⟨u, hu, fun h => ?_⟩
  obtain ⟨v, p, hp, hpn, e, _⟩ := Wr.first h (hne u hu) fun q hq => hne q (List.mem_filter.mp hq).1
  obtain ⟨a, b⟩ := List.mem_filter.mp hp
  have := of_decide_eq_true b
  have := hm p a
  omega
theorem nodup_un {ss : List Str} (h : ss.Nodup) : (ss.map un).Nodup :=
  List.pairwise_map.mpr (h.imp fun {x y} n e => n (by rw [← S_un x, ← S_un y, e]))
theorem mem_un {ss : List Str} {ws : List (List Nat)} (h : ∀ k, k ∈ ss ↔ k ∈ ws.map SX.S) (u : List Nat) : u ∈ ss.map un ↔ u ∈ ws := by
  constructor
  · intro q
    obtain ⟨x, hx, rfl⟩ := List.mem_map.mp q
    obtain ⟨v, hv, e⟩ := List.mem_map.mp ((h x).mp hx)
    rw [← e, un_S]
    exact hv
  · intro q
    exact List.mem_map.mpr ⟨SX.S u, (h _).mpr (List.mem_map.mpr ⟨u, q, rfl⟩), un_S u⟩
theorem once_un {ss : List Str} {ws : List (List Nat)} (h : Once (ws.map SX.S) ss) : (ss.map un).Nodup ∧ ∀ u, u ∈ ss.map un ↔ u ∈ ws := ⟨nodup_un h.1, mem_un h.2⟩
/-- what base tells -/
def IsBase (ws ys : List (List Nat)) : Prop := SF ys ∧ ys.Nodup ∧ ∀ u, u ∈ ys ↔ u ∈ ws ∧ ¬ Put ws u
/-! ### beginnings -/
theorem starts3 {x w : List Nat} {i : Nat} (hi : i ≤ x.length) : Txt.startswith3 (SX.S x) (SX.S w) (i : Int) = decide (w <+: x.drop i) := by
  have ef : fromIndex (SX.S x).length (i : Int) = i := by
    unfold fromIndex
    rw [if_neg (by omega)]
    omega
  unfold Txt.startswith3
  rw [ef, PySem.StrLaws.subAt_eq, SX.S_len, SX.S_len]
  show (decide (i + w.length ≤ x.length) && ((x.drop i).take w.length == w)) = _
  by_cases c : w <+: x.drop i
  · have l := c.length_le
    rw [List.length_drop] at l
    have e := (List.prefix_iff_eq_take.mp c).symm
    rw [decide_eq_true c, e]
    by_cases z : w.length = 0
    · simp; omega
    · simp; omega
  · rw [decide_eq_false c]
    have : ¬ ((x.drop i).take w.length = w) := fun e => c (List.prefix_iff_eq_take.mpr e.symm)
    simp [this]
theorem cut_mid (x : List Nat) {i k : Nat} (hi : i ≤ x.length) : cutS (SX.S x) (some (i : Int)) (some ((i + k : Nat) : Int)) = SX.S ((x.drop i).take k) := by
  unfold cutS
  rw [HT.sIx_nat, HT.sIx_nat, SX.S_len]
  show SX.S ((x.drop (min i x.length)).take (min (i + k) x.length - min i x.length)) = _
  congr 1
  rw [Nat.min_eq_left hi]
  by_cases c : i + k ≤ x.length
  · rw [Nat.min_eq_left c, show i + k - i = k by omega]
  · rw [Nat.min_eq_right (by omega), List.take_of_length_le (by rw [List.length_drop]; omega), List.take_of_length_le (by rw [List.length_drop]; omega)]
theorem cut_to (x : List Nat) (k : Nat) : cutS (SX.S x) none (some (k : Int)) = SX.S (x.take k) := by
  unfold cutS
  rw [HT.sIx_nat, HT.sIx_none, SX.S_len]
  show SX.S ((x.drop 0).take (min k x.length - 0)) = _
  rw [List.drop_zero, Nat.sub_zero, ← List.take_take, List.take_length]
theorem cut_from (x : List Nat) (k : Nat) : cutS (SX.S x) (some (k : Int)) none = SX.S (x.drop k) := by
  unfold cutS
  rw [HT.sIx_nat, HT.sIx_none, SX.S_len]
  show SX.S ((x.drop (min k x.length)).take (x.length - min k x.length)) = _
  by_cases c : k ≤ x.length
  · rw [Nat.min_eq_left c, List.take_of_length_le (by rw [List.length_drop]; omega)]
  · rw [Nat.min_eq_right (by omega), List.drop_eq_nil_of_le (by omega), List.drop_eq_nil_of_le (by omega), List.take_nil]
theorem pre_take {w x : List Nat} : x.take w.length = w ↔ w <+: x := by
  rw [List.prefix_iff_eq_take]
  exact eq_comm
end TxO

set_option Elab.async false
set_option linter.all false
set_option maxRecDepth 100000
set_option maxHeartbeats 4000000
/-! {k}: a set display of one int; sorted of a set of ints of any size -/
namespace L2
open PySem PySem.Spec PyProof.Rows PySem.W
theorem newSet_led {P : Program} {w : World} {A : Around} {E : Value → Shared → Prop} {s : Shared} {Q : Value → Shared → Prop}
    (h : Q (.ref s.heap.objs.size) { s with heap := s.heap.push { cls := .type "set", dict := none, data := .set #[] 0 (.fresh 0 0 (!w.params.followText "set-order")) } }) :
    wpAny (model P w) A (newSet (.type "set")) Q E s := by
  unfold newSet setsByText
  refine wpAny_bind (wpAny_bind (wpAny_askSetting (wpAny_pure ?_)))
  dsimp only
  simp only [newObj]
  exact wpAny_bind (wpAny_alloc (wpAny_pure h))
def tSet1 (w : World) (te : TE) : TE := fun σ H Q => ∀ p, H p = none → te σ (upd H p (SetO w p (fun _ => false) 0)) fun x H1 => ∃ k, x = .int k ∧ H1 p = some (SetO w p (fun _ => false) 0) ∧ Q (.ref p) (upd H1 p (SetO w p (fun j => decide (j = k)) 1))
theorem kdsCode_of {K : PySem.W.Frag} {cd : Value} {q : Str} (h : PySem.W.codeIn K cd q = true) : kdsCode K cd = true := by
  unfold PySem.W.codeIn at h
  unfold kdsCode
  split at h
  · split at h
    · rename_i ho
      simp only [ho]
    · cases h
  · cases h
theorem pe_set1 {X : Cx} {e : Expr} {te : TE} {pos : Pos} (hc : kdsCode X.K X.env.code = true) (he : PE X e te) (hs : starEach [e] X.env = [(false, eval e X.env)] := by rfl) : PE X (.Set [e] 0 pos) (tSet1 X.w te) := by
  refine ⟨fun pins s σ H Q I h => ?_⟩
  rw [arm_eval_Set]
  refine wpAny_bind (wpAny_standAt ?_)
  refine wpAny_bind (kds_main I.kIn hc fun b => ?_)
  rw [hs]
  show wpAny _ _ (setDisplay .oneByOne b [(false, do let v ← eval e X.env; standAt pos; pure v)]) _ _ _
  unfold setDisplay
  try dsimp only
  rw [if_neg (by decide)]
  refine wpAny_bind (newSet_led (w := X.w) ?_)
  dsimp only
  have hn : (if ([(false, (do let v ← eval e X.env; standAt pos; pure v : Sem Value))] : List (Bool × Sem Value)).length > 30 then 0 else (([(false, (do let v ← eval e X.env; standAt pos; pure v : Sem Value))] : List (Bool × Sem Value)).findIdx? (·.1)).getD 1) = 1 := by rfl
  have hp : H s.heap.objs.size = none := I.hok.fresh (Nat.le_refl _)
  have I1 : Inv X pins σ (upd H s.heap.objs.size (SetO X.w s.heap.objs.size (fun _ => false) 0)) { s with heap := s.heap.push { cls := .type "set", dict := none, data := .set #[] 0 (.fresh 0 0 (!X.w.params.followText "set-order")) } } :=
    I.laid (t' := s.toks) (fun b u e => Heap.get?_push_of_some _ e) (Nat.le_refl _) (setO_new (setR_fresh X.w))
  have h1 := h s.heap.objs.size hp
  generalize s.heap.objs.size = a at *
  refine wpAny_bind (wpAny_holding (wpAny_bind ?_))
  show wpAny _ _ (evalAll [do let v ← eval e X.env; standAt pos; pure v]) _ _ _
  refine wpAny_evalAll_cons (wpAny_bind (thn (he.run pins _ σ _ _ I1 h1) fun u s1 ⟨x, H1, I2, r1, k, ex, hset, q⟩ => wpAny_bind (wpAny_standAt (wpAny_pure ?_))))
  refine wpAny_evalAll_nil ?_
  subst ex
  obtain ⟨tk, rfl⟩ := r1
  refine wpAny_bind (wpAny_holding ?_)
  refine wpAny_bind ?_
  rw [List.forIn_cons]
  have R := setO_get I2 hset
  refine wpAny_bind (wpAny_bind ?_)
  unfold setAdd
  refine wpAny_holding (wpAny_bind ((intKind X.prog X.w).pyHash (intKind_is X.prog X.w k tk) ?_))
  refine setR_add_hashed (s := { s1 with toks := s1.toks + 1 }) R (by decide) fun h' sb r => ?_
  refine wpAny_pure ?_
  dsimp only
  rw [List.forIn_nil]
  refine wpAny_pure ?_
  rw [if_neg (by decide)]
  refine wpAny_pure ?_
  refine wpAny_bind ?_
  generalize hl : List.drop _ [(false, (do let v ← eval e X.env; standAt pos; pure v : Sem Value))] = l
  have hl0 : l = [] := by rw [← hl]; rfl
  subst hl0
  rw [List.forIn_nil]
  refine wpAny_pure (wpAny_pure ?_)
  have he' : ∃ u, h'.get? a = some u := by
    obtain ⟨o, _, _, _, ho, _⟩ := r
    exact ⟨o, ho⟩
  have r' : SetR X.w h' a (fun j => decide (j = k)) 1 := r.congr fun j => by simp
  exact wpAny_pure ⟨.ref a, upd H1 a (SetO X.w a (fun j => decide (j = k)) 1), I2.write (e := a) (t' := s1.toks + 1) (by rw [hset]; trivial) (.inl rfl) (fun b u hb hu => (sb.2 b hb).trans hu) he' (setO_new r'), rfl, q⟩
section
variable {P : Program} {w : World} {A : Around} {E : Value → Shared → Prop} {s : Shared} {a : Addr}
theorem sorted_setN {S : Int → Bool} {n : Nat} {Q : Value → Shared → Prop} (R : SetR w s.heap a S n) (hh : A.handled = none) (hn4 : n ≤ 4096)
    (hQ : ∀ s' p (out : Array Value) (c : Nat) (ns : List Int), (∀ b o, s.heap.get? b = some o → s'.heap.get? b = some o) → s'.gens = s.gens → s'.os = s.os → s.heap.objs.size ≤ p →
      s'.heap.get? p = some (seqObj "list" out c) → IntsAre out.toList ns → ns.Pairwise (· < ·) → (∀ k, k ∈ ns ↔ S k = true) → ns.length = n → Q (.ref p) s') :
    wpAny (model P w) A (call (.builtin "sorted") [.ref a]) Q E s := by
  obtain ⟨o, es, ep, t, ho, hex, hd, g, nd, hm, hb, hf, hn, hr, hl⟩ := R
  refine Calls.call_function_entry kind_sorted plain_sorted entry_sorted (args_sorted1 _) ?_
  unfold Builtin.«sorted»
  refine wpAny_bind (m := checkCount "sorted" 1 1 _) (wpAny_pure ?_)
  refine wpAny_bind (collect_set (A := A.in1) hh ⟨o, ho, hex.1, hd⟩ hf hb hr hl fun s1 vs k1 hz g1 o1 pm => ?_)
  have hvl : vs.length = n := by rw [pm.length_eq, List.length_map, Array.length_toList]; exact hn
  have hI : IntsAre vs (vs.map Builtin.Re.reRawOf) := ints_of vs fun v hv => by
    obtain ⟨e, he, q⟩ := List.mem_map.mp (pm.mem_iff.mp hv)
    obtain ⟨k, tk, h1, _⟩ := g e he
    exact ⟨k, tk, by rw [← q]; exact h1⟩
  have pk : (vs.map Builtin.Re.reRawOf).Perm (es.toList.map keyOf) := by
    have q := pm.map Builtin.Re.reRawOf
    rw [List.map_map] at q
    exact q
  have hvz : vs.length ≤ sizeLine := by rw [hvl, sizeLine_eq]; omega
  refine wpAny_bind (wpAny_newList ?_ hvz)
  have hoL : (s1.heap.push (seqObj "list" vs.toArray 0)).get? s1.heap.objs.size = some (seqObj "list" vs.toArray 0) := Heap.get?_push_size _ rfl
  refine wpAny_bind (wpAny_holding (wpAny_call_entry slot_list_sort ⟨_, hoL, rfl⟩ entry_list_sort (SrtO.list_sort_ord SrtO.swo_int hoL hvz (fun h2 => SrtO.ints_sortable hI h2) fun out h1 h2 => ⟨.none, rfl, ?_⟩) (args_list_sort _)))
  obtain ⟨a1, a2, a3⟩ := SrtO.ints_out hI h1 h2
  obtain ⟨c, hc⟩ := sortedHeap_at (vs := vs) (out := out.toArray) hoL
  have pn : (out.map SrtO.iv).Perm (es.toList.map keyOf) := a2.trans pk
  refine wpAny_pure ⟨_, rfl, hQ _ s1.heap.objs.size out.toArray c (out.map SrtO.iv) (fun b u e => ?_) g1 o1 hz hc a1 (lt_of_le_nodup _ a3 (pn.nodup_iff.mpr nd)) (fun k => by rw [pn.mem_iff, ← hm k]) ?_⟩
  · have q := k1 b u e
    have hlt := Heap.lt_size q
    show (sortedHeap (s1.heap.push (seqObj "list" vs.toArray 0)) s1.heap.objs.size vs out.toArray).get? b = some u
    rw [sortedHeap_old (Nat.ne_of_lt hlt) (by rw [size_push']; exact Nat.lt_succ_of_lt hlt)]
    exact Heap.get?_push_of_some _ q
  · rw [pn.length_eq, List.length_map, Array.length_toList]; exact hn
end
section
variable {X : Cx}
def rSortedSetN (w : World) : List V → Hp → VK → Prop := fun vs H Q => ∃ (a : Addr) (S : Int → Bool) (n : Nat), vs = [V.ref a] ∧ H a = some (SetO w a S n) ∧ n ≤ 4096 ∧
  ∀ (ns : List Int) (p : Addr), ns.Pairwise (· < ·) → (∀ k : Int, k ∈ ns ↔ S k = true) → ns.length = n → H p = none → Q (.ref p) (upd H p (.lst (ns.map V.int)))
theorem cr_sortedSetN (hc : X.calm = true) : CallR X (.builtin "sorted") (rSortedSetN X.w) := by
  intro pins s σ H vs us Q I r h
  obtain ⟨a, S, n, rfl, ha, h64, q⟩ := h
  have R := setO_get I ha
  rw [Vals.ref1 r]
  refine sorted_setN R (I.ok.hd hc) h64 fun s' p out c ns k g o hp hg hi hs hm hl => ?_
  have hlen : (ns.map V.int).length ≤ sizeLine := by rw [List.length_map, hl, sizeLine_eq]; omega
  have hn : H p = none := I.hok.fresh hp
  have J : Inv X pins σ (upd H p (.lst (ns.map V.int))) { s with heap := s'.heap, gens := s'.gens, drawn := s'.drawn, toks := s'.toks } :=
    I.call (ch := []) (Un.laid k hp hn) (I.hok.laid k hp ⟨hlen, out.toList, c, vals_of_ints hi, hg⟩) (by rw [g]; exact I.bare) (fun _ z => nomatch z)
  have e : s' = { s with heap := s'.heap, gens := s'.gens, drawn := s'.drawn, toks := s'.toks } := by
    cases s'
    cases s
    cases o
    rfl
  rw [e]
  exact ⟨.ref p, _, J, rfl, q ns p hs hm hl hn⟩
end
/-- a def's rule that hands on what its code object is (a set's display asks it) -/
theorem Fun.okC {P : Program} {w : World} {K : PySem.W.Frag} {mg : Str → Option Value} {base : Heap} {x qual : Str} {st : Stmt} {f : Addr} {fd : FuncData} {N ps : List Str} {k : Nat} {sp : Sp} (F : Fun K x qual st f fd) (S : FnScope N ps (defScope st)) (len : ∀ vs H Q E, sp vs H Q E → vs.length = ps.length)
    (hbody : ∀ (cdv : Value) (A : Around) (outer : List Env) (s : Shared) (H : Hp) (vs : List V) (Q : VK) (E : XK), PySem.W.codeIn K cdv qual = true → Room k (A.deeper (envOfC qual (defScope st) s.heap.objs.size f cdv)) → sp vs H Q E →
      ∃ t, PSs (cxOf CX0 P w K mg base N qual (defScope st) f cdv A outer s H E).nox (defBody st) t ∧ t { nx := fun _ H' => Q .non H', rt := Q } (start N vs) H) : FnOk P w K mg base CX0 (k + 1) f fd ps sp := by
  obtain ⟨oc, od, kV, doc, pm, an, cdv, ct, osl, rfl, lk, hcd⟩ := F.ex
  refine fn_of lk hcd S len fun A outer s H vs Q E hr hsp => ?_
  obtain ⟨t, h, q⟩ := hbody cdv A outer s H vs Q E hcd hr hsp
  exact ⟨t, h.nox, q⟩
end L2

set_option Elab.async false
set_option linter.all false
set_option maxRecDepth 100000
set_option maxHeartbeats 4000000
/-! d.setdefault(y, z) where the keys are tuples -/
namespace L2
open PySem PySem.Spec PyProof.Rows
section
variable {X : Cx} {pins : List (Addr × Obj)} {σ : St} {H : Hp} {s : Shared} {a b : Addr} {r : Value} {d : V} {k : List Key} {A : Around} {E : Value → Shared → Prop}
theorem d_setdT {kvs : List (List Key × V)} {Q : Value → Shared → Prop} (hu : A.units + 1 < cLine) (I : Inv X pins σ H s) (e : H a = some (.dT kvs)) (eb : H b = some (.tup (k.map kV))) (rd : RelV d r) (hl : kvs.length < sizeLine)
    (h1 : ∀ v, valV kvs k = some v → ∀ (w' : Value) (s' : Shared), Inv X pins σ H s' → RelV v w' → Q w' s') (h2 : valV kvs k = none → ∀ (w' : Value) (s' : Shared), Inv X pins σ (upd H a (.dT (putK kvs k d))) s' → RelV d w' → Q w' s') :
    wpAny (model X.prog X.w) A (call (.builtin "dict.setdefault") [.ref a, .ref b, r]) Q E s := by
  obtain ⟨z, hd, xs, rel, dd⟩ := dt_of I.hok e
  have hz : xs.length ≤ sizeLine := by rw [← Paired.length rel]; exact z
  have q := rel.val k
  refine call_setdefault_heap (hsz := hz) (tupleKind_room_in1 hu) (key_of I.hok eb) hd dd (fun p hp => ?_) fun hn h' dd' hs => ?_
  · rw [hp] at q
    cases q0 : valV kvs k with
    | none =>
      rw [q0] at q
      exact (show False from q).elim
    | some v =>
      rw [q0] at q
      exact h1 v q0 _ _ (I.tok _) q
  · rw [hn] at q
    cases q0 : valV kvs k with
    | some v =>
      rw [q0] at q
      exact (show False from q).elim
    | none =>
      have hl2 : (putK kvs k d).length ≤ sizeLine := by
        have := length_putK kvs k d
        omega
      obtain ⟨o, es, ep, hq, g2, g3, g4, _, g5⟩ := dd'
      refine h2 q0 _ _ (d_write (t' := s.toks + _) I (by rw [e]; exact True.intro) hs ⟨o, hq⟩ ⟨hl2, hd, _, (rel.put k eb rd).keeps fun c ys ec => ?_, o, es, ep, hq, g2, g3, g4, g5⟩) rd
      rw [upd_ne (ne_of ec e (fun z => nomatch z))]
      exact ec
end
/-- d.setdefault(y, z), the keys tuples -/
def tDSetdT (td ty tx : TE) : TE := fun σ H Q => td σ H fun x H1 => ∃ a, x = .ref a ∧ IsD H1 a ∧ ty σ H1 fun y H2 => tx σ H2 fun z H3 => ∃ (kvs : List (List Key × V)) (k : List Key) (b : Addr), H3 a = some (.dT kvs) ∧ y = .ref b ∧ H3 b = some (.tup (k.map kV)) ∧ kvs.length < sizeLine ∧
  (∀ v, valV kvs k = some v → Q v H3) ∧ (valV kvs k = none → Q z (upd H3 a (.dT (putK kvs k z))))
section
variable {X : Cx} {o e f : Expr} {td ty tx : TE} {apos cpos : Pos}
theorem pe_dsetdT (hu : X.A.units + 1 < cLine) (ho : PE X o td) (he : PE X e ty) (hf : PE X f tx) (m : M2 X o "setdefault" apos e f cpos) : PE X (.Call (.Attribute o "setdefault" apos) [e, f] [] cpos) (tDSetdT td ty tx) := by
  refine ⟨fun pins s σ H Q I h => ?_⟩
  refine wpAny_Call_method m.base m.few m.line PySem.F.plainAttrs_dict PySem.F.slot_dict_setdefault PySem.F.type_dict_setdefault (thn (ho.run pins s σ H _ I h) fun u s1 ⟨x, H1, I1, rx, a, ex, d, q1⟩ => ?_)
  subst ex
  obtain rfl : u = Value.ref a := rx
  obtain ⟨t1, t2, _⟩ := isD_at I1 d
  refine ⟨t1, t2, ?_⟩
  rw [m.trees]
  refine Calls.callWith_builtin rfl (Calls.evalArgs_plain (Calls.spliced_cons (thn (he.run pins s1 σ H1 _ I1 q1) fun iv s2 ⟨y, H2, I2, ry, q2⟩ =>
    Calls.spliced_cons (thn (hf.run pins s2 σ H2 _ I2 q2) fun fv s3 ⟨z, H3, I3, rz, kvs, k, b, ea, ey, eb, hl, q3, q4⟩ => Calls.spliced_nil ?_))))
  subst ey
  cases ry
  exact d_setdT hu I3 ea eb rz hl (fun v hv w' s4 I4 rw' => ⟨v, _, I4, rw', q3 v hv⟩) fun hn w' s4 I4 rw' => ⟨z, _, I4, rw', q4 hn⟩
end
end L2

set_option Elab.async false
set_option linter.all false
set_option maxRecDepth 100000
set_option maxHeartbeats 4000000
namespace L2
open PySem PySem.Spec PyProof.Rows
namespace DelS
/-- what is kept of numbered items -/
theorem keep {α : Type} (c : Nat) (f : Nat → Bool) : ∀ (xs : List α) (j : Nat), (∀ k, j ≤ k → k < j + xs.length → f k = decide (c ≤ k)) →
    ((xs.zipIdx j).filterMap fun (x, k) => if f k = true then none else some x) = xs.take (c - j)
  | [], _, _ => by simp
  | x :: xs, j, h => by
    have ih := keep c f xs (j + 1) fun k h1 h2 => h k (by omega) (by rw [List.length_cons]; omega)
    have h0 := h j (Nat.le_refl _) (by rw [List.length_cons]; omega)
    rw [List.zipIdx_cons, List.filterMap_cons]
    by_cases hc : c ≤ j
    · have e : f j = true := by rw [h0]; exact decide_eq_true hc
      simp only [e, if_true]
      rw [ih, show c - (j + 1) = 0 by omega, show c - j = 0 by omega]
      rfl
    · have e : f j = false := by rw [h0]; exact decide_eq_false hc
      simp only [e, Bool.false_eq_true, if_false]
      rw [ih, show c - j = (c - (j + 1)) + 1 by omega, List.take_succ_cons]
end DelS
section
variable {prog : Program} {w : World} {A : Around} {E : Value → Shared → Prop} {s : Shared}
theorem bounds_from {a n : Nat} (ha : a ≤ n) : sliceBounds (some (a : Int)) none none n = ((a : Int), (n : Int), 1) := by
  simp only [sliceBounds, Option.getD_none]
  have h1 : ¬ ((a : Int) < 0) := by omega
  simp only [h1, if_false, show (1 : Int) > 0 by decide, if_true]
  congr 1
  omega
def selB (a n : Int) (k : Nat) : Bool := decide (a ≤ (k : Int)) && decide ((k : Int) < n) && ((((k : Int) - a) % 1) == 0)
theorem selB_is {a n k : Nat} (h : k < n) : selB (a : Int) (n : Int) k = decide (a ≤ k) := by
  unfold selB
  rw [Int.emod_one]
  have : decide ((k : Int) < (n : Int)) = true := decide_eq_true (by omega)
  rw [this]
  simp
/-- list.__delitem__ with a slice from a place on -/
theorem delItem_slice {l sl : Addr} {items : List Value} {n : Nat} {vl : Value} {a : Nat} {Q : Unit → Shared → Prop}
    (e : s.heap.get? l = some { cls := .type "list", data := .seq items.toArray n })
    (hs : s.heap.IsSliceOf sl vl .none .none) (pl : IsPart vl (some (a : Int))) (ha : a ≤ items.length)
    (hsz : items.length ≤ sizeLine) (h : ∀ f : Array Value → Array Value, f items.toArray = (items.take a).toArray → Q () { s with heap := s.heap.update l (Obj.mapSeq f) }) :
    wpAny (model prog w) A (delItem (.ref l) (.ref sl)) Q E s := by
  have hl : s.heap.IsList l items.toArray := PySem.IsL.isList e
  obtain ⟨os, hos, hcs, hds⟩ := id hs
  have hTs : s.TypeIs (.ref sl) "slice" := ⟨os, hos, hcs⟩
  have hstep : ¬ ((rawPart none == rawInt 0) = true) := Bool.false_ne_true
  have hk : (fun xs : Array Value => (xs.toList.zipIdx.filterMap fun (x, k) => if selB (a : Int) (items.toArray.size : Int) k = true then none else some x).toArray) items.toArray = (items.take a).toArray := by
    show ((items.toArray.toList.zipIdx.filterMap fun (x, k) => if selB (a : Int) (items.toArray.size : Int) k = true then none else some x).toArray) = _
    rw [DelS.keep a _ _ 0 (fun k _ h2 => selB_is (by rw [List.size_toArray]; simpa using h2))]
    simp
  have hz' : ((fun xs : Array Value => (xs.toList.zipIdx.filterMap fun (x, k) => if selB (a : Int) (items.toArray.size : Int) k = true then none else some x).toArray) items.toArray).size ≤ sizeLine + 1 := by
    rw [hk, List.size_toArray, List.length_take]
    omega
  unfold delItem
  try with_reducible refine wpAny_holding ?_
  first | refine wpAny_bind (wpAny_pure ?_) | skip
  refine wpAny_bind (wpAny_sequenceKey hl.typeIs (by decide) ?_)
  refine wpAny_bind (wpAny_callSpecial?_slot (name := Str.ofString "__delitem__") hl.typeIs F.slot_list_delitem
    (wpAny_call_entry F.slot_list_delitem hl.typeIs F.entry_list_delitem ?_ (F.args_list_delitem_2 _ _)))
  show wpAny _ _ (Builtin.List.listSubscript? (.ref sl) >>= _) _ _ s
  refine wpAny_bind ?_
  unfold Builtin.List.listSubscript?
  refine wpAny_bind (wpAny_specialOf hTs slice_no_index ?_)
  simp only [Option.isNone_none, if_true]
  refine wpAny_pure ?_
  show wpAny _ _ (typeOf (.ref sl) >>= _) _ _ s
  refine wpAny_bind (wpAny_typeOf hTs ?_)
  first
    | rw [if_neg (by decide)]
    | refine PySem.W.KFB.if_not (by decide) ?_
  rw [listSliceParts_eq]
  refine wpAny_bind (wpAny_bind (wpAny_field hos hds (x := .none) rfl (wpAny_bind (wpAny_listPart .none ?_))))
  rw [if_neg hstep]
  refine wpAny_bind (wpAny_field hos hds (x := vl) rfl (wpAny_bind (wpAny_listPart pl ?_)))
  refine wpAny_bind (wpAny_field hos hds (x := .none) rfl (wpAny_bind (wpAny_listPart .none (wpAny_pure ?_))))
  refine wpAny_bind (m := Builtin.List.listItems (.ref l)) ?_
  unfold Builtin.List.listItems
  refine wpAny_bind (wpAny_seqItems e rfl (wpAny_pure ?_))
  refine wpAny_bind (wpAny_of_eq ((sliceIndices_raw (some (a : Int)) none none items.toArray.size (by simp)).trans (congrArg (pure : Int × Int × Int → Sem (Int × Int × Int)) (bounds_from (by rw [List.size_toArray]; exact ha)))) ?_)
  refine wpAny_bind (wpAny_rule ?_)
  show wpAny _ _ (updateSeq l (fun xs => (xs.toList.zipIdx.filterMap fun (x, k) => if selB (a : Int) (items.toArray.size : Int) k = true then none else some x).toArray) >>= _) _ _ s
  refine wpAny_bind (wpAny_updateSeq (hz := by rw [List.size_toArray]; exact hsz) (_hz' := hz') e rfl ?_)
  refine wpAny_bind (wpAny_letGo ?_)
  first
    | exact wpAny_bind (wpAny_pure (wpAny_pure ⟨.none, rfl, wpAny_pure (h _ hk)⟩))
    | exact wpAny_pure ⟨.none, rfl, wpAny_pure (h _ hk)⟩
end
section
variable {X : Cx}
theorem del_slice {pins : List (Addr × Obj)} {s : Shared} {σ : St} {H : Hp} {l sl : Addr} {xs : List V} {a : Nat} {vl : Value} {Q : Unit → Shared → Prop} (I : Inv X pins σ H s)
    (hH : H l = some (.lst xs)) (hs : s.heap.IsSliceOf sl vl .none .none) (pl : IsPart vl (some (a : Int))) (ha : a ≤ xs.length)
    (h : ∀ s', Inv X pins σ (upd H l (.lst (xs.take a))) s' → Q () s') :
    wpAny (model X.prog X.w) X.A (delItem (.ref l) (.ref sl)) Q X.xe s := by
  obtain ⟨z, its, n, r, hl, e⟩ := I.lstM hH
  refine delItem_slice (a := a) e hs pl (by omega) (by omega) fun f hf => h _ ?_
  exact I.lset (its' := its.take a) (t' := s.toks) hH e hf (r.take a) (by rw [List.length_take]; omega)
/-- del xs[e:] -/
def tDelS (to : TE) (tl : TO) : TS := fun D σ H => to σ H fun x H1 => tl σ H1 fun y H2 => ∃ (l : Addr) (xs : List V) (k : Nat), x = .ref l ∧ y = some (k : Int) ∧ H2 l = some (.lst xs) ∧ k ≤ xs.length ∧ D.nx σ (upd H2 l (.lst (xs.take k)))
theorem ps_delS {o : Expr} {lo : Option Expr} {to : TE} {tl : TO} {p2 tpos pos : Pos} (ho : PE X o to) (hl : PO X lo tl) : PS X (.Delete [.Subscript o (.Slice lo none none p2) tpos] pos) (tDelS to tl) := by
  refine ⟨fun pins s σ H D I h => ?_⟩
  refine wpAny_Delete (wpAny_deleteEach_cons (wpAny_delete_Subscript (thn (ho.run pins s σ H _ I h) fun u s1 ⟨x, H1, I1, rx, q1⟩ => ?_)))
  refine wpAny_Slice (thn (hl.run pins s1 σ H1 _ I1 q1) fun vl s2 ⟨l, H2, I2, pl, q2⟩ => thn (po_none.run pins s2 σ H2 (fun o H3 => o = none ∧ H3 = H2) I2 ⟨rfl, rfl⟩) fun vu s3 ⟨u2, H3, I3, pu, e2, e3⟩ => ?_)
  subst e2
  subst e3
  cases pu
  rw [evalPart_none]
  refine wpAny_pure ?_
  obtain ⟨a, xs, k, ex, ey, hH, hk, q⟩ := q2
  subst ex
  subst ey
  cases (show u = Value.ref a from rx)
  have I4 : Inv X pins σ H3 { s3 with heap := s3.heap.push { cls := .type "slice", data := .fields #[vl, .none, .none] } } := I3.kept (t' := s3.toks) fun b ob q => Heap.get?_push_of_some _ q
  exact del_slice I4 hH (Heap.IsSliceOf.new ..) pl hk fun s5 I5 => wpAny_deleteEach_nil ⟨σ, _, I5, q⟩
end
end L2

set_option Elab.async false
set_option linter.all false
set_option maxRecDepth 100000
set_option maxHeartbeats 4000000
namespace L2
open PySem PySem.Spec PyProof.Rows PySem.W
theorem revS_pick (x : Str) : (Builtin.Str.strSliceIndices none none (-1) x.length).filterMap (x.cps[·]?) = x.cps.toList.reverse := by
  show (sliceRange ((x.cps.size : Int) - 1) (-1) (-1)).filterMap (x.cps[·]?) = _
  rw [krv_sliceRange, krv_range, List.filterMap_reverse, krv_all]
section
variable {X : Cx}
/-- z[::-1] of a text -/
def tRevS (te : TE) : TE := fun σ H Q => te σ H fun x H1 => ∃ z : Str, x = .str z ∧ z.length ≤ sizeLine ∧ Q (.str ⟨z.cps.toList.reverse.toArray⟩) H1
theorem pe_revS {e : Expr} {te : TE} {k : Nat} {p1 p2 p3 pos : Pos} (he : PE X e te) : PE X (.Subscript e (.Slice none none (some (.UnaryOp .USub (.Constant (.int 1) k p1) p2)) p3) pos) (tRevS te) := by
  refine ⟨fun pins s σ H Q I h => ?_⟩
  refine Subscript_ (thn (he.run pins s σ H _ I h) fun v s1 ⟨x, H1, I1, r1, q1⟩ => ?_)
  obtain ⟨z, ex, hz, q⟩ := q1
  subst ex
  obtain ⟨t, rfl⟩ := r1
  have hst : PO X (some (.UnaryOp .USub (.Constant (.int 1) k p1) p2)) (tPart (tUn (rU fun i => .int (-i)) (tC (.int 1)))) := po_some (pe_un un_neg pe_int)
  refine wpAny_Slice (thn (po_none.run pins s1 σ H1 (fun o H2 => o = none ∧ H2 = H1) I1 ⟨rfl, rfl⟩) fun vl s2 ⟨l, H2, I2, pl, el, e2⟩ => ?_)
  subst el e2
  refine thn (po_none.run pins s2 σ H2 (fun o H3 => o = none ∧ H3 = H2) I2 ⟨rfl, rfl⟩) fun vu s3 ⟨u, H3, I3, pu, eu, e3⟩ => ?_
  subst eu e3
  refine thn (hst.run pins s3 σ H3 (fun o H4 => o = some (-1) ∧ H4 = H3) I3 ⟨1, rfl, -1, rfl, rfl, rfl⟩) fun vs s4 ⟨o, H4, I4, ps, eo, e4⟩ => ?_
  subst eo e4
  have I5 : Inv X pins σ H4 { s4 with heap := s4.heap.push { cls := .type "slice", data := .fields #[vl, vu, vs] } } := I4.kept (t' := s4.toks) fun b ob q => Heap.get?_push_of_some _ q
  obtain ⟨l, rfl, hl0⟩ := L2.IsPart.raw pl
  obtain ⟨u, rfl, hu0⟩ := L2.IsPart.raw pu
  obtain ⟨st, rfl, hst0⟩ := L2.IsPart.raw ps
  have e1 : l = none := by cases l <;> simp_all
  have e2 : u = none := by cases u <;> simp_all
  subst e1 e2
  have e3 : ∃ tk, st = some (-1, tk) := by
    cases st with
    | none => simp at hst0
    | some p =>
      obtain ⟨a, b⟩ := p
      simp at hst0
      first | exact ⟨b, by rw [hst0]⟩ | exact ⟨b, by rw [← hst0]⟩
  obtain ⟨tk, rfl⟩ := e3
  show wpAny (model X.prog X.w) X.A (subscriptTail e (.Slice none none (some (.UnaryOp .USub (.Constant (.int 1) k p1) p2)) p3) (.str z t) (.ref s4.heap.objs.size)) (EP X pins σ Q) X.xe { s4 with heap := s4.heap.push { cls := .type "slice", data := .fields #[partValue none, partValue none, partValue (some (-1, tk))] } }
  refine tail_any (ops := [.str z t, .ref s4.heap.objs.size]) (typeIs_str _ _ _) F.slot_str_getitem.lookup ?_ (by with_unfolding_all rfl)
  refine wpAny_getItem_str_slice (l := none) (u := none) (st := some (-1, tk)) ⟨_, Heap.get?_push_size _ rfl, rfl, rfl⟩ rfl ?_
  show Made.post (if ((-1 : Int) == 1 && (Builtin.Str.strSliceIndices none none (-1) z.length).length == z.length) = true then Made.val (.str z t)
    else Made.str ⟨((Builtin.Str.strSliceIndices none none (-1) z.length).filterMap (z.cps[·]?)).toArray⟩) (EP X pins σ Q) _
  rw [if_neg (by simp), revS_pick]
  refine ⟨?_, .str _, H4, I5.tok _, ⟨_, rfl⟩, q⟩
  show (z.cps.toList.reverse.toArray).size ≤ sizeLine
  rw [List.size_toArray, List.length_reverse]
  exact hz
end
end L2

set_option Elab.async false
set_option linter.all false
set_option maxRecDepth 100000
set_option maxHeartbeats 4000000
/-! list(d.values()) -/
namespace L2
open PySem PySem.Spec PyProof.Rows
def tListVals (te : TE) : TE := fun σ H Q => te σ H fun x H1 => ∃ d kvs, x = V.ref d ∧ H1 d = some (.dK kvs) ∧ ∀ p, H1 p = none → Q (.ref p) (upd H1 p (.lst (kvs.map (·.2))))
theorem kv_vals {κ : Type} : ∀ {kvs : List (κ × V)} {vs : List (κ × Value)}, KV kvs vs → Vals (kvs.map (·.2)) (vs.map (·.2))
  | [], [], _ => .nil
  | _ :: _, _ :: _, .cons h t => .cons h.2 (kv_vals t)
section
variable {X : Cx} {e : Expr} {te : TE} {p apos cpos pos : Pos}
theorem pe_listVals (hc : X.calm = true) (he : PE X e te) (hg : Gl X "list") (hm : X.mg "list" = none) (hv : bootBuiltins "list" = some (.type "list")) (hbase : attributeBase e "values" X.env (eval e X.env) = eval e X.env := by rfl) (hline : (apos.endLine == cpos.line) = true := by rfl)
    (hs : starEach [.Call (.Attribute e "values" apos) [] [] cpos] X.env = (false, eval (.Call (.Attribute e "values" apos) [] [] cpos) X.env) :: starEach [] X.env := by rfl) :
    PE X (.Call (.Name "list" p) [.Call (.Attribute e "values" apos) [] [] cpos] [] pos) (tListVals te) := by
  refine ⟨fun pins s σ H Q I hq => ?_⟩
  refine wpAny_Call_Name_kw (ld_blt I hg hm hv ?_)
  refine PyProof.Rows.callWith_type1 ?_ hs rfl
  rw [hs]
  show wpAny _ _ (spliced ((false, eval (.Call (.Attribute e "values" apos) [] [] cpos) X.env) :: backTo pos (starEach [] X.env))) _ _ s
  refine Calls.spliced_cons ?_
  refine wpAny_Call_method (T := "dict") (id := "dict.values") hbase rfl hline F.plainAttrs_dict F.slot_dict_values F.type_dict_values (thn (he.run pins s σ H _ I hq) fun u s1 ⟨x, H1, I1, rx, d, kvs, ex, hd, q⟩ => ?_)
  subst ex
  obtain rfl : u = Value.ref d := rx
  obtain ⟨hz, hs0, vs, kv, hdo⟩ := I1.hok d _ hd
  obtain ⟨ep, hat⟩ := hdo.dictAt
  have lk : kvs.length = vs.length := Paired.length kv
  have I2 : Inv X pins σ H1 { s1 with heap := s1.heap.push { cls := .type "dict_values", data := .fields #[.ref d] } } := I1.kept (t' := s1.toks) fun b ob q => Heap.get?_push_of_some _ q
  refine ⟨hdo.typeIs, hdo.mapOf.noDict, ?_⟩
  show wpAny _ _ (callWith cpos (.builtin "dict.values") [.ref d] [] []) _ X.xe s1
  refine method_meetsIn F.slot_dict_values F.entry_dict_values rfl (PySem.evalArgs_none ⟨rfl, hdo.typeIs, F.args_dict_values_1 _, _, meets_dict_values (mixKind X.prog X.w) d hs0, ⟨vs, hdo⟩, ?_⟩)
  refine Calls.spliced_nil ?_
  refine PySem.W.kdl_call (PySem.W.kdl_values (knd := mixKind X.prog X.w) (kvs := vs) (ep := ep) (r := s1.heap.objs.size) (d := d)) (I1.ok.hd hc) ⟨⟨_, Heap.get?_push_size _ rfl, rfl, rfl⟩, hat.push _⟩ (by rw [← lk]; exact hz) fun h' tk acc c' hk hD hacc => ?_
  have ev : acc.toList = vs.map (·.2) := PySem.W.kdl_vals_eq _ (by rw [Array.length_toList]; exact hacc.1) fun j v e => hacc.2 j v (by rw [← Array.getElem?_toList]; exact e)
  refine ⟨.ref _, upd H1 _ (.lst (kvs.map (·.2))), I2.laid (t' := tk) hk (Nat.le_refl _)
    (show ObjOk X.prog X.w _ _ _ (.lst (kvs.map (·.2))) from ⟨by rw [List.length_map]; exact hz, acc.toList, c', by rw [ev]; exact kv_vals kv, by rw [Array.toArray_toList]; exact hD⟩), rfl, q _ (I2.hok.fresh (Nat.le_refl _))⟩
end
end L2

set_option Elab.async false
set_option linter.all false
set_option maxRecDepth 100000
set_option maxHeartbeats 4000000
/-! bases of two lists of words, held against each other -/
namespace TxO
open PySem L2 SrtC
theorem wr_flat {ws vs : List (List Nat)} {u : List Nat} (h : Wr ws u) (m : ∀ w ∈ ws, Wr vs w) : Wr vs u := by
  obtain ⟨ps, h1, rfl⟩ := h
  induction ps with
  | nil => exact Wr.nil vs
  | cons p r ih =>
    obtain ⟨qs, q1, q2⟩ := m p (h1 p (by simp))
    obtain ⟨rs, r1, r2⟩ := ih fun x hx => h1 x (by simp [hx])
    refine ⟨qs ++ rs, fun x hx => ?_, by rw [List.flatten_append, q2, r2, List.flatten_cons]⟩
    rcases List.mem_append.mp hx with h | h
    · exact q1 x h
    · exact r1 x h
theorem Wr.one {ws : List (List Nat)} {u : List Nat} (h : u ∈ ws) : Wr ws u := ⟨[u], fun p hp => by rw [List.mem_singleton.mp hp]; exact h, by simp⟩
theorem base_wr {ws ys : List (List Nat)} (B : IsBase ws ys) : ∀ (n : Nat), ∀ w ∈ ws, w.length ≤ n → Wr ys w := by
  intro n
  induction n with
  | zero =>
    intro w hw hl
    have e : w = [] := List.eq_nil_of_length_eq_zero (by omega)
    rw [e]
    exact Wr.nil ys
  | succ n ih =>
    intro w hw hl
    by_cases c : Put ws w
    · exact wr_flat c fun v hv => ih v (List.mem_filter.mp hv).1 (by have := of_decide_eq_true (List.mem_filter.mp hv).2; omega)
    · exact Wr.one ((B.2.2 w).mpr ⟨hw, c⟩)
theorem part_le {ps : List (List Nat)} {p : List Nat} (h : p ∈ ps) : p.length ≤ ps.flatten.length := (List.sublist_flatten_of_mem h).length_le
theorem base_in {ws vs bs cs : List (List Nat)} (hne : ∀ w ∈ vs, w ≠ []) (B : IsBase ws bs) (C : IsBase vs cs) (h : ∀ u ∈ bs, Wr vs u) (h2 : ∀ u ∈ cs, Wr ws u) : ∀ u ∈ bs, u ∈ cs := by
  intro u hu
  by_cases c : u ∈ cs
  · exact c
  exfalso
  have hW : Wr cs u := wr_flat (h u hu) fun w hw => base_wr C w.length w hw (Nat.le_refl _)
  obtain ⟨ps, p1, p2⟩ := hW
  apply ((B.2.2 u).mp hu).2
  have hcn : ∀ q ∈ ps, q ≠ [] := fun q hq => hne q ((C.2.2 q).mp (p1 q hq)).1
  have sh : ∀ p ∈ ps, p.length < u.length := fun p hp => by
    have := part_le hp
    rw [p2] at this
    by_cases e : p.length < u.length
    · exact e
    · exfalso
      have e2 := flat_part hcn hp (by rw [p2]; omega)
      rw [e2] at p2
      have : p = u := by simpa using p2
      rw [this] at hp
      exact c (p1 u hp)
  refine wr_flat (ws := ps) ⟨ps, fun p hp => hp, p2⟩ fun p hp => ?_
  obtain ⟨qs, q1, q2⟩ := h2 p (p1 p hp)
  refine ⟨qs, fun q hq => List.mem_filter.mpr ⟨q1 q hq, decide_eq_true ?_⟩, q2⟩
  have := part_le hq
  rw [q2] at this
  have := sh p hp
  omega
/-- told in the base of one, and not written in the other -/
def Tl (bs vs : List (List Nat)) (z : List Nat) : Prop := z ∈ bs ∧ ¬ Wr vs z
theorem same_none {ws vs bs cs : List (List Nat)} (hw : ∀ w ∈ ws, w ≠ []) (hv : ∀ w ∈ vs, w ≠ []) (B : IsBase ws bs) (C : IsBase vs cs) : ((∀ z, ¬ Tl bs vs z) ∧ ∀ z, ¬ Tl cs ws z) ↔ bs = cs := by
  constructor
  · rintro ⟨h1, h2⟩
    have a : ∀ u ∈ bs, Wr vs u := fun u hu => by
      by_cases q : Wr vs u
      · exact q
      · exact absurd ⟨hu, q⟩ (h1 u)
    have b : ∀ u ∈ cs, Wr ws u := fun u hu => by
      by_cases q : Wr ws u
      · exact q
      · exact absurd ⟨hu, q⟩ (h2 u)
    exact sf_mem B.1 C.1 B.2.1 C.2.1 fun u => ⟨base_in hv B C a b u, base_in hw C B b a u⟩
  · intro e
    subst e
    exact ⟨fun z h => h.2 (Wr.one ((C.2.2 z).mp h.1).1), fun z h => h.2 (Wr.one ((B.2.2 z).mp h.1).1)⟩
/-- what same_texts tells -/
def SameR (ws vs : List (List Nat)) (v : V) : Prop := ∃ bs cs, IsBase ws bs ∧ IsBase vs cs ∧ ((v = .non ∧ bs = cs) ∨ ∃ z, v = .str (SX.S z) ∧ bs ≠ cs ∧ (Tl bs vs z ∨ Tl cs ws z) ∧ ∀ y, (Tl bs vs y ∨ Tl cs ws y) → bef y z = false)
/-- a word more that is written in the others changes nothing -/
theorem base_more {ws bs : List (List Nat)} {m : List Nat} (hw : ∀ w ∈ ws, w ≠ []) (hm : m ≠ []) (h : Wr ws m) (B : IsBase ws bs) : IsBase (ws ++ [m]) bs := by
  refine ⟨B.1, B.2.1, fun u => ?_⟩
  rw [B.2.2 u]
  have key : ∀ u, Put (ws ++ [m]) u → Put ws u := fun u hp => by
    refine wr_flat hp fun p hp => ?_
    obtain ⟨a, b⟩ := List.mem_filter.mp hp
    have hpl := of_decide_eq_true b
    rcases List.mem_append.mp a with q | q
    · exact Wr.one (List.mem_filter.mpr ⟨q, b⟩)
    · rw [List.mem_singleton.mp q] at hpl ⊢
      obtain ⟨qs, q1, q2⟩ := h
      refine ⟨qs, fun x hx => List.mem_filter.mpr ⟨q1 x hx, decide_eq_true ?_⟩, q2⟩
      have := part_le hx
      rw [q2] at this
      omega
  constructor
  · rintro ⟨a, b⟩
    exact ⟨List.mem_append_left _ a, fun q => b (key u q)⟩
  · rintro ⟨a, b⟩
    refine ⟨?_, fun q => b (put_mono (fun w hw => List.mem_append_left _ hw) q)⟩
    rcases List.mem_append.mp a with q | q
    · exact q
    · rw [List.mem_singleton.mp q] at b ⊢
      by_cases c : m ∈ ws
      · exact c
      · exfalso
        apply b
        refine put_mono (ws := ws) (fun w hw => List.mem_append_left _ hw) ((wr_other hw m).mp ?_)
        have : (ws.filter fun p => decide (p ≠ m)) = ws := List.filter_eq_self.mpr fun p hp => decide_eq_true fun e => c (e ▸ hp)
        rw [this]
        exact h
end TxO

set_option Elab.async false
set_option linter.all false
set_option maxRecDepth 100000
set_option maxHeartbeats 4000000
/-! all texts over some signs, shorter first; the first one that just one of two lists of words writes -/
namespace TxO
open PySem L2 SrtC
def lay (sg : List Nat) : Nat → List (List Nat)
  | 0 => [[]]
  | k + 1 => (lay sg k).flatMap fun t => sg.map fun c => t ++ [c]
def fnd (sg : List Nat) : Nat → List (List Nat)
  | 0 => [[]]
  | k + 1 => fnd sg k ++ lay sg (k + 1)
theorem lay_mem (sg : List Nat) : ∀ (k : Nat) (y : List Nat), y ∈ lay sg k ↔ y.length = k ∧ ∀ c ∈ y, c ∈ sg
  | 0, y => by
    show y ∈ [[]] ↔ _
    rw [List.mem_singleton]
    constructor
    · rintro rfl
      exact ⟨rfl, by simp⟩
    · rintro ⟨h, _⟩
      exact List.eq_nil_of_length_eq_zero h
  | k + 1, y => by
    show y ∈ (lay sg k).flatMap _ ↔ _
    rw [List.mem_flatMap]
    constructor
    · rintro ⟨t, ht, h⟩
      obtain ⟨c, hc, rfl⟩ := List.mem_map.mp h
      obtain ⟨l, m⟩ := (lay_mem sg k t).mp ht
      refine ⟨by simp [l], fun d hd => ?_⟩
      rcases List.mem_append.mp hd with h | h
      · exact m d h
      · rw [List.mem_singleton.mp h]; exact hc
    · rintro ⟨l, m⟩
      have hne : y ≠ [] := fun z => by rw [z] at l; cases l
      have e := List.dropLast_concat_getLast hne
      refine ⟨y.dropLast, (lay_mem sg k _).mpr ⟨by rw [List.length_dropLast, l]; rfl, fun c hc => m c (List.dropLast_subset y hc)⟩, List.mem_map.mpr ⟨y.getLast hne, m _ (List.getLast_mem hne), e⟩⟩
theorem app_lt : ∀ {t t' : List Nat} (a b : List Nat), t.length = t'.length → t < t' → t ++ a < t' ++ b
  | [], [], _, _, _, h => absurd h (List.lt_irrefl _)
  | [], _ :: _, _, _, l, _ => by simp at l
  | _ :: _, [], _, _, l, _ => by simp at l
  | x :: t, y :: t', a, b, l, h => by
    rw [List.cons_append, List.cons_append, List.cons_lt_cons_iff]
    rcases List.cons_lt_cons_iff.mp h with h | ⟨e, h⟩
    · exact .inl h
    · exact .inr ⟨e, app_lt a b (by simpa using l) h⟩
theorem snoc_lt : ∀ (t : List Nat) {c d : Nat}, c < d → t ++ [c] < t ++ [d]
  | [], c, d, h => by
    show [c] < [d]
    rw [List.cons_lt_cons_iff]
    exact .inl h
  | x :: t, c, d, h => by
    rw [List.cons_append, List.cons_append, List.cons_lt_cons_iff]
    exact .inr ⟨rfl, snoc_lt t h⟩
theorem lay_lt {sg : List Nat} (hs : sg.Pairwise (· < ·)) : ∀ k, (lay sg k).Pairwise (· < ·)
  | 0 => List.pairwise_singleton _ _
  | k + 1 => by
    show ((lay sg k).flatMap _).Pairwise _
    rw [List.pairwise_flatMap]
    refine ⟨fun t _ => List.pairwise_map.mpr (hs.imp fun {c d} h => snoc_lt t h), (lay_lt hs k).imp_of_mem fun {t t'} h1 h2 h x hx y hy => ?_⟩
    obtain ⟨c, _, rfl⟩ := List.mem_map.mp hx
    obtain ⟨d, _, rfl⟩ := List.mem_map.mp hy
    exact app_lt _ _ (by rw [((lay_mem sg k t).mp h1).1, ((lay_mem sg k t').mp h2).1]) h
theorem fnd_mem (sg : List Nat) : ∀ (k : Nat) (y : List Nat), y ∈ fnd sg k ↔ y.length ≤ k ∧ ∀ c ∈ y, c ∈ sg
  | 0, y => by
    rw [show fnd sg 0 = lay sg 0 from rfl, lay_mem]
    exact ⟨fun h => ⟨by omega, h.2⟩, fun h => ⟨by omega, h.2⟩⟩
  | k + 1, y => by
    rw [fnd, List.mem_append, fnd_mem sg k, lay_mem]
    constructor
    · rintro (h | h)
      · exact ⟨by omega, h.2⟩
      · exact ⟨by omega, h.2⟩
    · rintro ⟨h, m⟩
      by_cases c : y.length ≤ k
      · exact .inl ⟨c, m⟩
      · exact .inr ⟨by omega, m⟩
theorem fnd_sf {sg : List Nat} (hs : sg.Pairwise (· < ·)) : ∀ k, SF (fnd sg k)
  | 0 => List.pairwise_singleton _ _
  | k + 1 => by
    rw [fnd, SF, List.pairwise_append]
    refine ⟨fnd_sf hs k, (lay_lt hs (k + 1)).imp_of_mem fun {u v} h1 h2 h => ?_, fun u hu v hv => ?_⟩
    · have e1 := ((lay_mem sg _ u).mp h1).1
      have e2 := ((lay_mem sg _ v).mp h2).1
      unfold bef
      rw [decide_eq_false (by omega : ¬ v.length < u.length), decide_eq_false (List.lt_asymm h), Bool.and_false, Bool.or_false]
    · have e1 := ((fnd_mem sg _ u).mp hu).1
      have e2 := ((lay_mem sg _ v).mp hv).1
      unfold bef
      rw [decide_eq_false (by omega : ¬ v.length < u.length), decide_eq_false (by omega : ¬ v.length = u.length), Bool.false_and, Bool.or_false]
theorem grow_len (sg : List Nat) (l : List (List Nat)) : (l.flatMap fun t => sg.map fun c => t ++ [c]).length = l.length * sg.length := by
  induction l with
  | nil => simp
  | cons a r ih => rw [List.flatMap_cons, List.length_append, ih, List.length_map, List.length_cons, Nat.succ_mul]; omega
theorem lay_le {sg : List Nat} (h : sg.length ≤ 4) : ∀ k, (lay sg k).length ≤ 4 ^ k
  | 0 => Nat.le_refl 1
  | k + 1 => by
    rw [lay, grow_len, Nat.pow_succ]
    exact Nat.mul_le_mul (lay_le h k) h
theorem fnd_le {sg : List Nat} (h : sg.length ≤ 4) : ∀ k, (fnd sg k).length ≤ 4 ^ (k + 1)
  | 0 => by show 1 ≤ 4 ^ 1; decide
  | k + 1 => by
    have a := lay_le h (k + 1)
    have b := fnd_le h k
    rw [fnd, List.length_append, Nat.pow_succ 4 (k + 1)]
    omega
/-! ### told apart -/
def Df (ws vs : List (List Nat)) (y : List Nat) : Prop := ¬ (Wr ws y ↔ Wr vs y)
theorem Df.symm {ws vs : List (List Nat)} {y : List Nat} (h : Df ws vs y) : Df vs ws y := fun e => h e.symm
theorem df_nil (ws vs : List (List Nat)) : ¬ Df ws vs [] := fun h => h ⟨fun _ => Wr.nil _, fun _ => Wr.nil _⟩
theorem wr_base {ws bs : List (List Nat)} (B : IsBase ws bs) {u : List Nat} : Wr bs u ↔ Wr ws u :=
  ⟨fun h => wr_flat h fun w hw => Wr.one ((B.2.2 w).mp hw).1, fun h => wr_flat h fun w hw => base_wr B w.length w hw (Nat.le_refl _)⟩
theorem Tl.df {ws vs bs : List (List Nat)} (B : IsBase ws bs) {z : List Nat} (h : Tl bs vs z) : Df ws vs z := fun e => h.2 (e.mp (Wr.one ((B.2.2 z).mp h.1).1))
theorem wr_tl {ws vs bs : List (List Nat)} (hw : ∀ w ∈ ws, w ≠ []) (B : IsBase ws bs) {y : List Nat} (h : Wr ws y) (n : ¬ Wr vs y) : ∃ p, Tl bs vs p ∧ p.length ≤ y.length ∧ (p.length = y.length → p = y) := by
  obtain ⟨ps, p1, p2⟩ := (wr_base B).mpr h
  have ex : ∃ p ∈ ps, ¬ Wr vs p := by
    by_cases c : ∃ p ∈ ps, ¬ Wr vs p
    · exact c
    · exfalso
      refine n (wr_flat (ws := ps) ⟨ps, fun p hp => hp, p2⟩ fun p hp => ?_)
      by_cases q : Wr vs p
      · exact q
      · exact absurd ⟨p, hp, q⟩ c
  obtain ⟨p, hp, np⟩ := ex
  have pl := part_le hp
  rw [p2] at pl
  refine ⟨p, ⟨p1 p hp, np⟩, pl, fun e => ?_⟩
  have e2 := flat_part (fun q hq => hw q ((B.2.2 q).mp (p1 q hq)).1) hp (by rw [p2]; omega)
  rw [e2] at p2
  simpa using p2
theorem df_tl {ws vs bs cs : List (List Nat)} (hw : ∀ w ∈ ws, w ≠ []) (hv : ∀ w ∈ vs, w ≠ []) (B : IsBase ws bs) (C : IsBase vs cs) {y : List Nat} (h : Df ws vs y) : ∃ p, (Tl bs vs p ∨ Tl cs ws p) ∧ p.length ≤ y.length ∧ (p.length = y.length → p = y) := by
  by_cases a : Wr ws y
  · have b : ¬ Wr vs y := fun b => h ⟨fun _ => b, fun _ => a⟩
    obtain ⟨p, h1, h2⟩ := wr_tl hw B a b
    exact ⟨p, .inl h1, h2⟩
  · have b : Wr vs y := by
      by_cases b : Wr vs y
      · exact b
      · exact absurd ⟨fun q => absurd q a, fun q => absurd q b⟩ h
    obtain ⟨p, h1, h2⟩ := wr_tl hv C b a
    exact ⟨p, .inr h1, h2⟩
/-- the first one told apart -/
def Fst (ws vs ts : List (List Nat)) (o : Option (List Nat)) : Prop := (o = none ∧ ∀ y ∈ ts, ¬ Df ws vs y) ∨ ∃ z, o = some z ∧ z ∈ ts ∧ Df ws vs z ∧ ∀ y ∈ ts, Df ws vs y → bef y z = false
theorem Fst.symm {ws vs ts : List (List Nat)} {o : Option (List Nat)} (h : Fst ws vs ts o) : Fst vs ws ts o := by
  rcases h with ⟨e, h⟩ | ⟨z, e, h1, h2, h3⟩
  · exact .inl ⟨e, fun y hy q => h y hy q.symm⟩
  · exact .inr ⟨z, e, h1, h2.symm, fun y hy q => h3 y hy q.symm⟩
theorem Fst.nil (ws vs : List (List Nat)) : Fst ws vs [] none := .inl ⟨rfl, fun _ h => (nomatch h)⟩
theorem bef_irr (u : List Nat) : bef u u = false := by
  unfold bef
  simp
theorem Fst.new {ws vs ts : List (List Nat)} {i : Nat} {u : List Nat} (h : Fst ws vs (ts.take i) none) (hu : ts[i]? = some u) (d : Df ws vs u) : Fst ws vs (ts.take (i + 1)) (some u) := by
  have e : ts.take (i + 1) = ts.take i ++ [u] := by rw [List.take_add_one, hu]; rfl
  rcases h with ⟨_, h⟩ | ⟨z, e, _⟩
  · refine .inr ⟨u, rfl, by rw [e]; simp, d, fun y hy q => ?_⟩
    rw [e] at hy
    rcases List.mem_append.mp hy with hy | hy
    · exact absurd q (h y hy)
    · rw [List.mem_singleton.mp hy]; exact bef_irr u
  · cases e
theorem Fst.keep {ws vs ts : List (List Nat)} {i : Nat} {u : List Nat} {o : Option (List Nat)} (S : SF ts) (h : Fst ws vs (ts.take i) o) (hu : ts[i]? = some u) (c : o ≠ none ∨ ¬ Df ws vs u) : Fst ws vs (ts.take (i + 1)) o := by
  have e : ts.take (i + 1) = ts.take i ++ [u] := by rw [List.take_add_one, hu]; rfl
  rcases h with ⟨e0, h⟩ | ⟨z, e0, h1, h2, h3⟩
  · refine .inl ⟨e0, fun y hy => ?_⟩
    rw [e] at hy
    rcases List.mem_append.mp hy with hy | hy
    · exact h y hy
    · rw [List.mem_singleton.mp hy]
      exact c.resolve_left fun n => n e0
  · refine .inr ⟨z, e0, by rw [e]; exact List.mem_append_left _ h1, h2, fun y hy q => ?_⟩
    rw [e] at hy
    rcases List.mem_append.mp hy with hy | hy
    · exact h3 y hy q
    · rw [List.mem_singleton.mp hy]
      have S2 : SF (ts.take i ++ [u]) := by rw [← e]; exact S.sublist (List.take_sublist _ _)
      exact (List.pairwise_append.mp S2).2.2 z h1 u (by simp)
def vOf : Option (List Nat) → V
  | none => .non
  | some z => .str (SX.S z)
theorem same_first {ws vs ts : List (List Nat)} {v : V} {o : Option (List Nat)} (hw : ∀ w ∈ ws, w ≠ []) (hv : ∀ w ∈ vs, w ≠ []) (R : SameR ws vs v) (hts : ∀ y, y ∈ ws ∨ y ∈ vs → y ∈ ts) (F : Fst ws vs ts o) : v = vOf o ∧ (o = none → ∀ y, Wr ws y → Wr vs y) := by
  obtain ⟨bs, cs, B, C, h⟩ := R
  rcases h with ⟨rfl, e⟩ | ⟨z, rfl, ne, hz, hm⟩
  · have hno : ∀ y, Wr ws y ↔ Wr vs y := fun y => by rw [← wr_base B, ← wr_base C, e]
    rcases F with ⟨rfl, _⟩ | ⟨d, _, _, h2, _⟩
    · exact ⟨rfl, fun _ y q => (hno y).mp q⟩
    · exact absurd (hno d) h2
  · have zD : Df ws vs z := hz.elim (fun q => q.df B) fun q => (q.df C).symm
    have zt : z ∈ ts := hts z (hz.imp (fun q => ((B.2.2 z).mp q.1).1) fun q => ((C.2.2 z).mp q.1).1)
    rcases F with ⟨_, h⟩ | ⟨d, rfl, h1, h2, h3⟩
    · exact absurd zD (h z zt)
    · have a := h3 z zt zD
      have b : bef d z = false := by
        by_cases c : bef d z = true
        · exfalso
          obtain ⟨p, p1, p2, p3⟩ := df_tl hw hv B C h2
          have q := hm p p1
          unfold bef at c q
          rw [Bool.or_eq_true, Bool.and_eq_true, decide_eq_true_eq, decide_eq_true_eq, decide_eq_true_eq] at c
          rw [Bool.or_eq_false_iff, Bool.and_eq_false_iff, decide_eq_false_iff_not, decide_eq_false_iff_not, decide_eq_false_iff_not] at q
          by_cases e : p.length = d.length
          · obtain rfl := p3 e
            rcases c with c | ⟨c1, c2⟩
            · exact q.1 c
            · rcases q.2 with q2 | q2
              · exact q2 c1
              · exact q2 c2
          · apply q.1
            rcases c with c | c
            · omega
            · omega
        · exact Bool.eq_false_iff.mpr c
      exact ⟨congrArg (fun x => V.str (SX.S x)) (bef_tri a b), fun e => nomatch e⟩
end TxO

set_option Elab.async false
set_option linter.all false
set_option maxRecDepth 100000
set_option maxHeartbeats 4000000
/-! plain lists of words: the sum of their shares is at most 1, and 1 just if they cover all long texts -/
namespace TxK
open TxO
/-- no word begins with another one -/
abbrev Pl (ws : List (List Nat)) : Prop := ws.Pairwise fun u v => ¬ u <+: v ∧ ¬ v <+: u
abbrev pre (w y : List Nat) : Bool := decide (w <+: y)
theorem pre_one {ws : List (List Nat)} (h : Pl ws) (y : List Nat) : ws.countP (fun w => pre w y) ≤ 1 := by
  induction ws with
  | nil => simp
  | cons u r ih =>
    obtain ⟨h1, h2⟩ := List.pairwise_cons.mp h
    rw [List.countP_cons]
    by_cases c : u <+: y
    · have z : r.countP (fun w => pre w y) = 0 := by
        rw [List.countP_eq_zero]
        intro v hv q
        have q := of_decide_eq_true q
        rcases Nat.le_total u.length v.length with l | l
        · exact (h1 v hv).1 (List.prefix_of_prefix_length_le c q l)
        · exact (h1 v hv).2 (List.prefix_of_prefix_length_le q c l)
      rw [z]
      split <;> omega
    · have e : pre u y = false := decide_eq_false c
      rw [e]
      simpa using ih h2
theorem sum_add (ws : List (List Nat)) (f g : List Nat → Nat) : (ws.map fun w => f w + g w).sum = (ws.map f).sum + (ws.map g).sum := by
  induction ws with
  | nil => rfl
  | cons a r ih => simp only [List.map_cons, List.sum_cons, ih]; omega
theorem sum_ite (ws : List (List Nat)) (p : List Nat → Bool) : (ws.map fun w => if p w = true then 1 else 0).sum = ws.countP p := by
  induction ws with
  | nil => rfl
  | cons a r ih => rw [List.map_cons, List.sum_cons, ih, List.countP_cons]; omega
theorem swap (ws l : List (List Nat)) : (ws.map fun w => l.countP fun y => pre w y).sum = (l.map fun y => ws.countP fun w => pre w y).sum := by
  induction l with
  | nil =>
    simp only [List.countP_nil, List.map_nil, List.sum_nil]
    induction ws with
    | nil => rfl
    | cons a r ih => rw [List.map_cons, List.sum_cons, ih, Nat.add_zero]
  | cons y r ih =>
    have e : (ws.map fun w => (y :: r).countP fun y => pre w y) = ws.map fun w => (r.countP fun y => pre w y) + if pre w y = true then 1 else 0 := List.map_congr_left fun w _ => List.countP_cons
    rw [e, sum_add, ih, sum_ite, List.map_cons, List.sum_cons]
    omega
theorem ones_le : ∀ (l : List (List Nat)) (f : List Nat → Nat), (∀ y ∈ l, f y ≤ 1) → (l.map f).sum ≤ l.length ∧ (l.length ≤ (l.map f).sum → ∀ y ∈ l, f y = 1)
  | [], _, _ => ⟨Nat.le_refl _, fun _ y h => (nomatch h)⟩
  | a :: r, f, h => by
    obtain ⟨i1, i2⟩ := ones_le r f fun y hy => h y (List.mem_cons_of_mem _ hy)
    have ha := h a List.mem_cons_self
    rw [List.map_cons, List.sum_cons, List.length_cons]
    refine ⟨by omega, fun q y hy => ?_⟩
    rcases List.mem_cons.mp hy with e | hy
    · rw [e]; omega
    · exact i2 (by omega) y hy
theorem all_ones : ∀ (l : List (List Nat)) (f : List Nat → Nat), (∀ y ∈ l, 1 ≤ f y) → l.length ≤ (l.map f).sum
  | [], _, _ => Nat.le_refl _
  | a :: r, f, h => by
    have i := all_ones r f fun y hy => h y (List.mem_cons_of_mem _ hy)
    have ha := h a List.mem_cons_self
    rw [List.map_cons, List.sum_cons, List.length_cons]
    omega
/-! ### how many texts begin with a word -/
theorem lay_len (sg : List Nat) : ∀ k, (lay sg k).length = sg.length ^ k
  | 0 => rfl
  | k + 1 => by rw [lay, grow_len, lay_len sg k, Nat.pow_succ]
theorem lay_nd {sg : List Nat} (hs : sg.Pairwise (· < ·)) (k : Nat) : (lay sg k).Nodup := (lay_lt hs k).imp fun {u v} (h : u < v) (e : u = v) => by
  rw [e] at h
  exact List.lt_irrefl v h
theorem count_grow (sg w : List Nat) : ∀ l : List (List Nat), (∀ t ∈ l, w.length ≤ t.length) → (l.flatMap fun t => sg.map fun c => t ++ [c]).countP (fun y => pre w y) = sg.length * l.countP fun y => pre w y
  | [], _ => by simp
  | t :: r, h => by
    rw [List.flatMap_cons, List.countP_append, count_grow sg w r fun u hu => h u (List.mem_cons_of_mem _ hu), List.countP_cons, List.countP_map]
    have ht := h t List.mem_cons_self
    have e : ∀ c, pre w (t ++ [c]) = pre w t := fun c => by
      refine decide_eq_decide.mpr ⟨fun p => ?_, fun p => p.trans (List.prefix_append _ _)⟩
      exact List.prefix_of_prefix_length_le p (List.prefix_append _ _) ht
    have e2 : ((fun y => pre w y) ∘ fun c => t ++ [c]) = fun _ => pre w t := funext fun c => e c
    rw [e2, Nat.mul_add]
    cases pre w t with
    | true => simp; omega
    | false => simp
theorem count_pre {sg w : List Nat} (hs : sg.Pairwise (· < ·)) (hw : ∀ c ∈ w, c ∈ sg) : ∀ d, (lay sg (w.length + d)).countP (fun y => pre w y) = sg.length ^ d
  | 0 => by
    have hm : w ∈ lay sg w.length := (lay_mem sg _ w).mpr ⟨rfl, hw⟩
    have e : (lay sg w.length).countP (fun y => pre w y) = (lay sg w.length).count w := by
      rw [List.count]
      refine List.countP_congr fun y hy => ?_
      have hl := ((lay_mem sg _ y).mp hy).1
      rw [decide_eq_true_eq, beq_iff_eq]
      exact ⟨fun p => (p.eq_of_length hl.symm).symm, fun p => by rw [p]; exact List.prefix_refl _⟩
    rw [Nat.add_zero, e, Nat.pow_zero]
    rw [List.Nodup.count (lay_nd hs _), if_pos hm]
  | d + 1 => by
    show ((lay sg (w.length + d)).flatMap _).countP _ = _
    rw [count_grow sg w _ fun t ht => by rw [((lay_mem sg _ t).mp ht).1]; omega, count_pre hs hw d, Nat.pow_succ, Nat.mul_comm]
/-- the sum of shares by so many signs -/
def shares (n L : Nat) (ws : List (List Nat)) : Nat := (ws.map fun w => n ^ (L - w.length)).sum
theorem shares_eq {sg : List Nat} (hs : sg.Pairwise (· < ·)) {ws : List (List Nat)} {L : Nat} (hw : ∀ w ∈ ws, w.length ≤ L ∧ ∀ c ∈ w, c ∈ sg) : shares sg.length L ws = ((lay sg L).map fun y => ws.countP fun w => pre w y).sum := by
  rw [← swap]
  unfold shares
  congr 1
  refine List.map_congr_left fun w hm => ?_
  obtain ⟨a, b⟩ := hw w hm
  have := count_pre hs b (L - w.length)
  rw [Nat.add_sub_cancel' a] at this
  exact this.symm
/-- at most 1 -/
theorem kraft {sg : List Nat} (hs : sg.Pairwise (· < ·)) {ws : List (List Nat)} (hp : Pl ws) {L : Nat} (hw : ∀ w ∈ ws, w.length ≤ L ∧ ∀ c ∈ w, c ∈ sg) : shares sg.length L ws ≤ sg.length ^ L := by
  rw [shares_eq hs hw, ← lay_len]
  exact (ones_le _ _ fun y _ => pre_one hp y).1
/-- 1 just if each long text begins with a word -/
def Cov (sg : List Nat) (L : Nat) (ws : List (List Nat)) : Prop := ∀ y, y.length = L → (∀ c ∈ y, c ∈ sg) → ∃ w ∈ ws, w <+: y
theorem cov_of {sg : List Nat} (hs : sg.Pairwise (· < ·)) {ws : List (List Nat)} (hp : Pl ws) {L : Nat} (hw : ∀ w ∈ ws, w.length ≤ L ∧ ∀ c ∈ w, c ∈ sg) (h : shares sg.length L ws = sg.length ^ L) : Cov sg L ws := by
  intro y hl hy
  rw [shares_eq hs hw, ← lay_len] at h
  have q := (ones_le _ _ fun y _ => pre_one hp y).2 (Nat.le_of_eq h.symm) y ((lay_mem sg L y).mpr ⟨hl, hy⟩)
  have : 0 < ws.countP fun w => pre w y := by omega
  obtain ⟨w, hw, p⟩ := List.countP_pos_iff.mp this
  exact ⟨w, hw, of_decide_eq_true p⟩
theorem of_cov {sg : List Nat} (hs : sg.Pairwise (· < ·)) {ws : List (List Nat)} (hp : Pl ws) {L : Nat} (hw : ∀ w ∈ ws, w.length ≤ L ∧ ∀ c ∈ w, c ∈ sg) (h : Cov sg L ws) : shares sg.length L ws = sg.length ^ L := by
  refine Nat.le_antisymm (kraft hs hp hw) ?_
  rw [shares_eq hs hw, ← lay_len]
  refine all_ones _ _ fun y hy => ?_
  obtain ⟨a, b⟩ := (lay_mem sg L y).mp hy
  obtain ⟨w, hw, p⟩ := h y a b
  exact List.countP_pos_iff.mpr ⟨w, hw, decide_eq_true p⟩
/-- the number of signs that are counted does not matter -/
theorem shares_more (n : Nat) {ws : List (List Nat)} {L : Nat} (hw : ∀ w ∈ ws, w.length ≤ L) (d : Nat) : shares n (L + d) ws = n ^ d * shares n L ws := by
  induction ws with
  | nil => simp [shares]
  | cons a r ih =>
    have ha := hw a List.mem_cons_self
    have i := ih fun w h => hw w (List.mem_cons_of_mem _ h)
    unfold shares at i ⊢
    rw [List.map_cons, List.sum_cons, List.map_cons, List.sum_cons, i, Nat.mul_add, ← Nat.pow_add]
    congr 2
    omega
theorem Cov.more {sg : List Nat} {ws : List (List Nat)} {L : Nat} (h : Cov sg L ws) (d : Nat) : Cov sg (L + d) ws := by
  intro y hl hy
  obtain ⟨w, hw, p⟩ := h (y.take L) (by rw [List.length_take]; omega) fun c hc => hy c (List.mem_of_mem_take hc)
  exact ⟨w, hw, p.trans (List.take_prefix _ _)⟩
theorem Cov.less {sg : List Nat} (hs : sg.Pairwise (· < ·)) (h1 : 1 ≤ sg.length) {ws : List (List Nat)} (hp : Pl ws) {L d : Nat} (hw : ∀ w ∈ ws, w.length ≤ L ∧ ∀ c ∈ w, c ∈ sg) (h : Cov sg (L + d) ws) : Cov sg L ws := by
  refine cov_of hs hp hw ?_
  have e := of_cov hs hp (L := L + d) (fun w hm => ⟨by have := (hw w hm).1; omega, (hw w hm).2⟩) h
  rw [shares_more _ fun w hm => (hw w hm).1, Nat.pow_add, Nat.mul_comm] at e
  exact Nat.eq_of_mul_eq_mul_right (Nat.pow_pos h1) e
/-! ### a word parted by its next sign -/
theorem cov_part {sg : List Nat} {ws : List (List Nat)} {u : List Nat} {L : Nat} (h : Cov sg L ws) (hu : u.length < L) {vs : List (List Nat)} (hv : ∀ w ∈ ws, w ≠ u → w ∈ vs) (hn : ∀ c ∈ sg, u ++ [c] ∈ vs) : Cov sg L vs := by
  intro y hl hy
  obtain ⟨w, hw, p⟩ := h y hl hy
  by_cases e : w = u
  · subst e
    obtain ⟨t, rfl⟩ := p
    cases t with
    | nil => simp at hl; omega
    | cons c r =>
      refine ⟨w ++ [c], hn c (hy c (by simp)), ⟨r, by simp⟩⟩
  · exact ⟨w, hv w hw e, p⟩
/-! ### words of words -/
/-- a text of letters, written in words -/
def wrt (bs : List (List Nat)) (ks : List Nat) : List Nat := (ks.map fun k => bs.getD k []).flatten
theorem wrt_pre {bs : List (List Nat)} {ks ls : List Nat} (h : ks <+: ls) : wrt bs ks <+: wrt bs ls := by
  obtain ⟨r, rfl⟩ := h
  exact ⟨wrt bs r, by unfold wrt; rw [List.map_append, List.flatten_append]⟩
/-- long texts begin with many words -/
theorem cov_many {sg : List Nat} {bs : List (List Nat)} {M : Nat} (h : Cov sg M bs) (hb : ∀ b ∈ bs, b.length ≤ M) : ∀ (j : Nat) (y : List Nat), M * j ≤ y.length → (∀ c ∈ y, c ∈ sg) → ∃ ks : List Nat, ks.length = j ∧ (∀ k ∈ ks, k < bs.length) ∧ wrt bs ks <+: y
  | 0, y, _, _ => ⟨[], rfl, fun _ h => (nomatch h), List.nil_prefix⟩
  | j + 1, y, hl, hy => by
    rw [Nat.mul_succ] at hl
    obtain ⟨b, hm, p⟩ := h (y.take M) (by rw [List.length_take]; omega) fun c hc => hy c (List.mem_of_mem_take hc)
    obtain ⟨r, e⟩ := p.trans (List.take_prefix _ _)
    have lb := hb b hm
    subst e
    rw [List.length_append] at hl
    obtain ⟨ks, k1, k2, k3⟩ := cov_many h hb j r (by omega) fun c hc => hy c (List.mem_append_right _ hc)
    obtain ⟨k, hk, ek⟩ := List.mem_iff_getElem.mp hm
    refine ⟨k :: ks, by rw [List.length_cons, k1], fun q hq => ?_, ?_⟩
    · rcases List.mem_cons.mp hq with rfl | hq
      · exact hk
      · exact k2 q hq
    · have g : bs.getD k [] = b := by simp [hk, ek]
      show (bs.getD k [] :: ks.map fun k => bs.getD k []).flatten <+: _
      rw [g, List.flatten_cons]
      exact (List.prefix_append_right_inj b).mpr k3
/-- words that cover, put together of words that cover, cover -/
theorem cov_wrt {sg : List Nat} {bs : List (List Nat)} {os : List (List Nat)} {M N : Nat} (h : Cov sg M bs) (hb : ∀ b ∈ bs, b.length ≤ M) (ho : Cov (List.range bs.length) N os) : Cov sg (M * N) (os.map (wrt bs)) := by
  intro y hl hy
  obtain ⟨ks, k1, k2, k3⟩ := cov_many h hb N y (Nat.le_of_eq hl.symm) hy
  obtain ⟨w, hw, p⟩ := ho ks k1 fun k hk => List.mem_range.mpr (k2 k hk)
  exact ⟨wrt bs w, List.mem_map.mpr ⟨w, hw, rfl⟩, (wrt_pre p).trans k3⟩
/-- in plain words, one writing ahead of another one is one text ahead of another one -/
theorem pre_wrt {bs : List (List Nat)} (hp : Pl bs) (hne : ∀ b ∈ bs, b ≠ []) : ∀ {ks ls : List Nat}, (∀ k ∈ ks, k < bs.length) → (∀ k ∈ ls, k < bs.length) → wrt bs ks <+: wrt bs ls → ks <+: ls
  | [], _, _, _, _ => List.nil_prefix
  | k :: ks, [], hk, _, p => by
    exfalso
    have hkb := hk k List.mem_cons_self
    have e : bs.getD k [] = bs[k] := by simp [hkb]
    have q := List.prefix_nil.mp p
    have : bs[k] ++ wrt bs ks = [] := by rw [← e]; exact q
    exact hne bs[k] (List.getElem_mem hkb) (List.append_eq_nil_iff.mp this).1
  | k :: ks, l :: ls, hk, hl, p => by
    have hkb := hk k List.mem_cons_self
    have hlb := hl l List.mem_cons_self
    have e1 : bs.getD k [] = bs[k] := by simp [hkb]
    have e2 : bs.getD l [] = bs[l] := by simp [hlb]
    have p' : bs[k] ++ wrt bs ks <+: bs[l] ++ wrt bs ls := by rw [← e1, ← e2]; exact p
    have a1 : bs[k] <+: bs[l] ++ wrt bs ls := (List.prefix_append _ _).trans p'
    have a2 : bs[l] <+: bs[l] ++ wrt bs ls := List.prefix_append _ _
    have ek : k = l := by
      by_cases c : k = l
      · exact c
      · exfalso
        have both : ¬ bs[k] <+: bs[l] ∧ ¬ bs[l] <+: bs[k] := by
          rcases Nat.lt_or_gt_of_ne c with c | c
          · exact List.pairwise_iff_getElem.mp hp k l hkb hlb c
          · exact (List.pairwise_iff_getElem.mp hp l k hlb hkb c).symm
        rcases Nat.le_total bs[k].length bs[l].length with q | q
        · exact both.1 (List.prefix_of_prefix_length_le a1 a2 q)
        · exact both.2 (List.prefix_of_prefix_length_le a2 a1 q)
    subst ek
    have p2 := (List.prefix_append_right_inj _).mp p'
    have := pre_wrt hp hne (fun q hq => hk q (List.mem_cons_of_mem _ hq)) (fun q hq => hl q (List.mem_cons_of_mem _ hq)) p2
    exact (List.prefix_cons_inj k).mpr this
theorem plain_wrt {bs os : List (List Nat)} (hp : Pl bs) (hne : ∀ b ∈ bs, b ≠ []) (ho : Pl os) (hk : ∀ w ∈ os, ∀ k ∈ w, k < bs.length) : Pl (os.map (wrt bs)) := by
  refine List.pairwise_map.mpr (ho.imp_of_mem fun {u v} hu hv h => ⟨fun p => h.1 (pre_wrt hp hne (hk u hu) (hk v hv) p), fun p => h.2 (pre_wrt hp hne (hk v hv) (hk u hu) p)⟩)
end TxK

set_option Elab.async false
/-! comparisons of data within a block: K is named -/
namespace L2
open PySem
theorem hu65 {k : Nat} {A : Around} (r : Room k A) : A.units + 65 < cLine := by have := r.un; omega
section
variable {X : Cx} {K : PySem.W.Frag}
theorem op_inDK (hK : X.K = K) (hu : X.A.units + 65 < cLine) : OpR X (compareOp .In) (rInD K) := by
  subst hK
  exact op_inD hu
theorem op_notInDK (hK : X.K = K) (hu : X.A.units + 65 < cLine) : OpR X (compareOp .NotIn) (rNotInD K) := by
  subst hK
  exact op_notInD hu
theorem op_eqDK (hK : X.K = K) (hu : X.A.units + 64 < cLine) : OpR X (compareOp .Eq) (rEqD K) := by
  subst hK
  exact op_eqD hu
theorem op_neDK (hK : X.K = K) (hu : X.A.units + 64 < cLine) : OpR X (compareOp .NotEq) (rNeD K) := by
  subst hK
  exact op_neD hu
end
end L2

set_option Elab.async false
set_option linter.all false
set_option maxRecDepth 100000
set_option maxHeartbeats 4000000
namespace J
open PySem L2
def topS (i : Nat) : Stmt := PySem.Challenge.pw_onewayread_k35_books_taken_apart.main.body.getD i (.Pass ⟨0, 0, 0, 0⟩)
abbrev s_InvalidLoom_init : Stmt := inClass (topS 2) 0
abbrev N_InvalidLoom_init : List Str := ["self", "part", "at"]
abbrev P_InvalidLoom_init : List Str := ["self", "part", "at"]
theorem sc_InvalidLoom_init : FnScope N_InvalidLoom_init P_InvalidLoom_init (defScope s_InvalidLoom_init) := ⟨rfl, rfl, rfl, by decide +kernel, rfl, by decide +kernel, by decide +kernel⟩
abbrev s_LimitExceeded_init : Stmt := inClass (topS 8) 0
abbrev N_LimitExceeded_init : List Str := ["self", "limit"]
abbrev P_LimitExceeded_init : List Str := ["self", "limit"]
theorem sc_LimitExceeded_init : FnScope N_LimitExceeded_init P_LimitExceeded_init (defScope s_LimitExceeded_init) := ⟨rfl, rfl, rfl, by decide +kernel, rfl, by decide +kernel, by decide +kernel⟩
abbrev s_is_number : Stmt := topS 14
abbrev N_is_number : List Str := ["thing", "low", "high"]
abbrev P_is_number : List Str := ["thing", "low", "high"]
theorem sc_is_number : FnScope N_is_number P_is_number (defScope s_is_number) := ⟨rfl, rfl, rfl, by decide +kernel, rfl, by decide +kernel, by decide +kernel⟩
abbrev s_is_sequence : Stmt := topS 15
abbrev N_is_sequence : List Str := ["thing", "fewest", "most"]
abbrev P_is_sequence : List Str := ["thing", "fewest", "most"]
theorem sc_is_sequence : FnScope N_is_sequence P_is_sequence (defScope s_is_sequence) := ⟨rfl, rfl, rfl, by decide +kernel, rfl, by decide +kernel, by decide +kernel⟩
abbrev s_is_signs : Stmt := topS 16
abbrev N_is_signs : List Str := ["thing", "letters", "sign", "one", "other"]
abbrev P_is_signs : List Str := ["thing"]
theorem sc_is_signs : FnScope N_is_signs P_is_signs (defScope s_is_signs) := ⟨rfl, rfl, rfl, by decide +kernel, rfl, by decide +kernel, by decide +kernel⟩
abbrev s_is_string_over : Stmt := topS 17
abbrev N_is_string_over : List Str := ["signs", "thing", "fewest", "most", "sign"]
abbrev P_is_string_over : List Str := ["signs", "thing", "fewest", "most"]
theorem sc_is_string_over : FnScope N_is_string_over P_is_string_over (defScope s_is_string_over) := ⟨rfl, rfl, rfl, by decide +kernel, rfl, by decide +kernel, by decide +kernel⟩
abbrev s_is_word : Stmt := topS 18
abbrev N_is_word : List Str := ["signs", "thing"]
abbrev P_is_word : List Str := ["signs", "thing"]
theorem sc_is_word : FnScope N_is_word P_is_word (defScope s_is_word) := ⟨rfl, rfl, rfl, by decide +kernel, rfl, by decide +kernel, by decide +kernel⟩
abbrev s_check_signs : Stmt := topS 19
abbrev N_check_signs : List Str := ["signs"]
abbrev P_check_signs : List Str := ["signs"]
theorem sc_check_signs : FnScope N_check_signs P_check_signs (defScope s_check_signs) := ⟨rfl, rfl, rfl, by decide +kernel, rfl, by decide +kernel, by decide +kernel⟩
abbrev s_check_state : Stmt := topS 20
abbrev N_check_state : List Str := ["state"]
abbrev P_check_state : List Str := ["state"]
theorem sc_check_state : FnScope N_check_state P_check_state (defScope s_check_state) := ⟨rfl, rfl, rfl, by decide +kernel, rfl, by decide +kernel, by decide +kernel⟩
abbrev s_check_text : Stmt := topS 21
abbrev N_check_text : List Str := ["signs", "text"]
abbrev P_check_text : List Str := ["signs", "text"]
theorem sc_check_text : FnScope N_check_text P_check_text (defScope s_check_text) := ⟨rfl, rfl, rfl, by decide +kernel, rfl, by decide +kernel, by decide +kernel⟩
abbrev s_is_arc : Stmt := topS 24
abbrev N_is_arc : List Str := ["signs", "thing", "state", "word", "goal"]
abbrev P_is_arc : List Str := ["signs", "thing"]
theorem sc_is_arc : FnScope N_is_arc P_is_arc (defScope s_is_arc) := ⟨rfl, rfl, rfl, by decide +kernel, rfl, by decide +kernel, by decide +kernel⟩
abbrev s_Loom_init : Stmt := inClass (topS 25) 0
abbrev N_Loom_init : List Str := ["self", "signs", "arcs", "at", "arc"]
abbrev P_Loom_init : List Str := ["self", "signs", "arcs"]
theorem sc_Loom_init : FnScope N_Loom_init P_Loom_init (defScope s_Loom_init) := ⟨rfl, rfl, rfl, by decide +kernel, rfl, by decide +kernel, by decide +kernel⟩
abbrev s_Loom_eq : Stmt := inClass (topS 25) 1
abbrev N_Loom_eq : List Str := ["self", "other"]
abbrev P_Loom_eq : List Str := ["self", "other"]
theorem sc_Loom_eq : FnScope N_Loom_eq P_Loom_eq (defScope s_Loom_eq) := ⟨rfl, rfl, rfl, by decide +kernel, rfl, by decide +kernel, by decide +kernel⟩
abbrev s_met : Stmt := topS 26
abbrev N_met : List Str := ["loom", "seen", "waiting", "place", "state", "_", "goal"]
abbrev P_met : List Str := ["loom"]
theorem sc_met : FnScope N_met P_met (defScope s_met) := ⟨rfl, rfl, rfl, by decide +kernel, rfl, by decide +kernel, by decide +kernel⟩
abbrev s_book : Stmt := topS 28
abbrev N_book : List Str := ["signs", "words", "word"]
abbrev P_book : List Str := ["signs", "words"]
theorem sc_book : FnScope N_book P_book (defScope s_book) := ⟨rfl, rfl, rfl, by decide +kernel, rfl, by decide +kernel, by decide +kernel⟩
abbrev s_is_book : Stmt := topS 29
abbrev N_is_book : List Str := ["thing", "arc"]
abbrev P_is_book : List Str := ["thing"]
theorem sc_is_book : FnScope N_is_book P_is_book (defScope s_is_book) := ⟨rfl, rfl, rfl, by decide +kernel, rfl, by decide +kernel, by decide +kernel⟩
abbrev s_check_book : Stmt := topS 30
abbrev N_check_book : List Str := ["a_book"]
abbrev P_check_book : List Str := ["a_book"]
theorem sc_check_book : FnScope N_check_book P_check_book (defScope s_check_book) := ⟨rfl, rfl, rfl, by decide +kernel, rfl, by decide +kernel, by decide +kernel⟩
abbrev s_words : Stmt := topS 31
abbrev N_words : List Str := ["a_book", "arc"]
abbrev P_words : List Str := ["a_book"]
theorem sc_words : FnScope N_words P_words (defScope s_words) := ⟨rfl, rfl, rfl, by decide +kernel, rfl, by decide +kernel, by decide +kernel⟩
abbrev s_goes_on : Stmt := topS 34
abbrev N_goes_on : List Str := ["text", "at", "arc", "live", "beyond", "_", "word", "goal", "end"]
abbrev P_goes_on : List Str := ["text", "at", "arc", "live", "beyond"]
theorem sc_goes_on : FnScope N_goes_on P_goes_on (defScope s_goes_on) := ⟨rfl, rfl, rfl, by decide +kernel, rfl, by decide +kernel, by decide +kernel⟩
abbrev s_live_arcs : Stmt := topS 35
abbrev N_live_arcs : List Str := ["loom", "text", "beyond", "live", "at", "number", "arc", "_"]
abbrev P_live_arcs : List Str := ["loom", "text", "beyond"]
theorem sc_live_arcs : FnScope N_live_arcs P_live_arcs (defScope s_live_arcs) := ⟨rfl, rfl, rfl, by decide +kernel, rfl, by decide +kernel, by decide +kernel⟩
abbrev s_readings : Stmt := topS 36
abbrev N_readings : List Str := ["loom", "state", "text", "live", "found", "row", "waiting", "kept", "at", "number", "_", "word", "goal", "end", "other"]
abbrev P_readings : List Str := ["loom", "state", "text"]
theorem sc_readings : FnScope N_readings P_readings (defScope s_readings) := ⟨rfl, rfl, rfl, by decide +kernel, rfl, by decide +kernel, by decide +kernel⟩
abbrev s_arcs_by_state : Stmt := topS 38
abbrev N_arcs_by_state : List Str := ["loom", "table", "number", "state", "word", "goal"]
abbrev P_arcs_by_state : List Str := ["loom"]
theorem sc_arcs_by_state : FnScope N_arcs_by_state P_arcs_by_state (defScope s_arcs_by_state) := ⟨rfl, rfl, rfl, by decide +kernel, rfl, by decide +kernel, by decide +kernel⟩
abbrev s_starts : Stmt := topS 39
abbrev N_starts : List Str := ["loom", "table", "found", "state", "arcs", "number", "word", "goal", "other", "longer", "end"]
abbrev P_starts : List Str := ["loom"]
theorem sc_starts : FnScope N_starts P_starts (defScope s_starts) := ⟨rfl, rfl, rfl, by decide +kernel, rfl, by decide +kernel, by decide +kernel⟩
abbrev s_steps : Stmt := topS 40
abbrev N_steps : List Str := ["table", "rest", "behind", "ahead", "left", "found", "number", "word", "goal"]
abbrev P_steps : List Str := ["table", "rest"]
theorem sc_steps : FnScope N_steps P_steps (defScope s_steps) := ⟨rfl, rfl, rfl, by decide +kernel, rfl, by decide +kernel, by decide +kernel⟩
abbrev s_explored : Stmt := topS 41
abbrev N_explored : List Str := ["loom", "table", "origins", "start", "order", "ways", "rest", "step"]
abbrev P_explored : List Str := ["loom"]
theorem sc_explored : FnScope N_explored P_explored (defScope s_explored) := ⟨rfl, rfl, rfl, by decide +kernel, rfl, by decide +kernel, by decide +kernel⟩
abbrev s_is_even : Stmt := topS 42
abbrev N_is_even : List Str := ["rest"]
abbrev P_is_even : List Str := ["rest"]
theorem sc_is_even : FnScope N_is_even P_is_even (defScope s_is_even) := ⟨rfl, rfl, rfl, by decide +kernel, rfl, by decide +kernel, by decide +kernel⟩
abbrev s_one_way : Stmt := topS 44
abbrev N_one_way : List Str := ["loom", "ways", "_", "rest"]
abbrev P_one_way : List Str := ["loom"]
theorem sc_one_way : FnScope N_one_way P_one_way (defScope s_one_way) := ⟨rfl, rfl, rfl, by decide +kernel, rfl, by decide +kernel, by decide +kernel⟩
abbrev s_check_alike : Stmt := topS 47
abbrev N_check_alike : List Str := ["one", "other"]
abbrev P_check_alike : List Str := ["one", "other"]
theorem sc_check_alike : FnScope N_check_alike P_check_alike (defScope s_check_alike) := ⟨rfl, rfl, rfl, by decide +kernel, rfl, by decide +kernel, by decide +kernel⟩
abbrev s_joined : Stmt := topS 48
abbrev N_joined : List Str := ["a_book", "outer", "told", "made", "word", "sign"]
abbrev P_joined : List Str := ["a_book", "outer"]
theorem sc_joined : FnScope N_joined P_joined (defScope s_joined) := ⟨rfl, rfl, rfl, by decide +kernel, rfl, by decide +kernel, by decide +kernel⟩
abbrev s_apart : Stmt := topS 49
abbrev N_apart : List Str := ["a_book", "inner", "signs", "made", "word", "rows", "number"]
abbrev P_apart : List Str := ["a_book", "inner"]
theorem sc_apart : FnScope N_apart P_apart (defScope s_apart) := ⟨rfl, rfl, rfl, by decide +kernel, rfl, by decide +kernel, by decide +kernel⟩
abbrev s_l_take : Stmt := topS 51
abbrev N_l_take : List Str := ["_law_script", "_law_pool", "_law_many", "_law_cell", "_law_digit", "_law_seed"]
abbrev P_l_take : List Str := ["_law_script", "_law_pool", "_law_many"]
theorem sc_l_take : FnScope N_l_take P_l_take (defScope s_l_take) := ⟨rfl, rfl, rfl, by decide +kernel, rfl, by decide +kernel, by decide +kernel⟩
abbrev s_l_word : Stmt := topS 52
abbrev N_l_word : List Str := ["_law_script", "_law_pool", "_law_signs", "_law_most", "_law_k"]
abbrev P_l_word : List Str := ["_law_script", "_law_pool", "_law_signs", "_law_most"]
theorem sc_l_word : FnScope N_l_word P_l_word (defScope s_l_word) := ⟨rfl, rfl, rfl, by decide +kernel, rfl, by decide +kernel, by decide +kernel⟩
abbrev s_l_words : Stmt := topS 53
abbrev N_l_words : List Str := ["_law_script", "_law_pool", "_law_signs", "_law_many", "_law_most", "_law_k"]
abbrev P_l_words : List Str := ["_law_script", "_law_pool", "_law_signs", "_law_many", "_law_most"]
theorem sc_l_words : FnScope N_l_words P_l_words (defScope s_l_words) := ⟨rfl, rfl, rfl, by decide +kernel, rfl, by decide +kernel, by decide +kernel⟩
abbrev s_l_tree : Stmt := topS 54
abbrev N_l_tree : List Str := ["_law_script", "_law_pool", "_law_signs", "_law_times", "_law_longest", "_law_found", "_law_k", "_law_at", "_law_word_here", "_law_sign"]
abbrev P_l_tree : List Str := ["_law_script", "_law_pool", "_law_signs", "_law_times", "_law_longest"]
theorem sc_l_tree : FnScope N_l_tree P_l_tree (defScope s_l_tree) := ⟨rfl, rfl, rfl, by decide +kernel, rfl, by decide +kernel, by decide +kernel⟩
abbrev s_l_shuffled : Stmt := topS 55
abbrev N_l_shuffled : List Str := ["_law_script", "_law_pool", "_law_items", "_law_rest", "_law_found", "_law_k"]
abbrev P_l_shuffled : List Str := ["_law_script", "_law_pool", "_law_items"]
theorem sc_l_shuffled : FnScope N_l_shuffled P_l_shuffled (defScope s_l_shuffled) := ⟨rfl, rfl, rfl, by decide +kernel, rfl, by decide +kernel, by decide +kernel⟩
abbrev s_l_single : Stmt := topS 56
abbrev N_l_single : List Str := ["_law_words_here", "_law_known", "_law_todo", "_law_one", "_law_other", "_law_left", "_law_word_here"]
abbrev P_l_single : List Str := ["_law_words_here"]
theorem sc_l_single : FnScope N_l_single P_l_single (defScope s_l_single) := ⟨rfl, rfl, rfl, by decide +kernel, rfl, by decide +kernel, by decide +kernel⟩
abbrev s_l_error : Stmt := topS 57
abbrev N_l_error : List Str := ["_law_call", "_law_told", "e"]
abbrev P_l_error : List Str := ["_law_call"]
theorem sc_l_error : FnScope N_l_error P_l_error (defScope s_l_error) := ⟨rfl, rfl, rfl, by decide +kernel, rfl, by decide +kernel, by decide +kernel⟩
abbrev s_l_inner : Stmt := topS 58
abbrev N_l_inner : List Str := ["_law_script", "_law_pool", "_law_signs", "_law_words_here", "_law_word_here"]
abbrev P_l_inner : List Str := ["_law_script", "_law_pool", "_law_signs"]
theorem sc_l_inner : FnScope N_l_inner P_l_inner (defScope s_l_inner) := ⟨rfl, rfl, rfl, by decide +kernel, rfl, by decide +kernel, by decide +kernel⟩
abbrev s_l_spelled : Stmt := topS 59
abbrev N_l_spelled : List Str := ["_law_words_here", "_law_text", "_law_ways", "_law_at", "_law_k", "_law_end"]
abbrev P_l_spelled : List Str := ["_law_words_here", "_law_text"]
theorem sc_l_spelled : FnScope N_l_spelled P_l_spelled (defScope s_l_spelled) := ⟨rfl, rfl, rfl, by decide +kernel, rfl, by decide +kernel, by decide +kernel⟩
abbrev s_law : Stmt := topS 60
abbrev N_law : List Str := ["_law_script", "_law_pool", "_law_turn", "_law_signs", "_law_words_here", "_law_letters", "_law_inner_here", "_law_outer", "_law_made", "_law_due", "_law_told", "_law_five", "_law_word_here", "_law_text", "_law_sign"]
abbrev P_law : List Str := ["_law_script"]
theorem sc_law : FnScope N_law P_law (defScope s_law) := ⟨rfl, rfl, rfl, by decide +kernel, rfl, by decide +kernel, by decide +kernel⟩
/-- what the top has written -/
structure Tx (K : PySem.W.Frag) (mg : Str → Option Value) : Type where
  f_InvalidLoom_init : Addr
  fd_InvalidLoom_init : FuncData
  F_InvalidLoom_init : Fun K "__init__" "InvalidLoom.__init__" s_InvalidLoom_init f_InvalidLoom_init fd_InvalidLoom_init
  b_InvalidLoom_init : Binds K fd_InvalidLoom_init P_InvalidLoom_init []
  f_LimitExceeded_init : Addr
  fd_LimitExceeded_init : FuncData
  F_LimitExceeded_init : Fun K "__init__" "LimitExceeded.__init__" s_LimitExceeded_init f_LimitExceeded_init fd_LimitExceeded_init
  b_LimitExceeded_init : Binds K fd_LimitExceeded_init P_LimitExceeded_init []
  f_is_number : Addr
  fd_is_number : FuncData
  F_is_number : Fun K "is_number" "is_number" s_is_number f_is_number fd_is_number
  b_is_number : Binds K fd_is_number P_is_number []
  m_is_number : mg "is_number" = some (.ref f_is_number)
  f_is_sequence : Addr
  fd_is_sequence : FuncData
  F_is_sequence : Fun K "is_sequence" "is_sequence" s_is_sequence f_is_sequence fd_is_sequence
  b_is_sequence : Binds K fd_is_sequence P_is_sequence []
  m_is_sequence : mg "is_sequence" = some (.ref f_is_sequence)
  f_is_signs : Addr
  fd_is_signs : FuncData
  F_is_signs : Fun K "is_signs" "is_signs" s_is_signs f_is_signs fd_is_signs
  b_is_signs : Binds K fd_is_signs P_is_signs []
  m_is_signs : mg "is_signs" = some (.ref f_is_signs)
  f_is_string_over : Addr
  fd_is_string_over : FuncData
  F_is_string_over : Fun K "is_string_over" "is_string_over" s_is_string_over f_is_string_over fd_is_string_over
  b_is_string_over : Binds K fd_is_string_over P_is_string_over []
  m_is_string_over : mg "is_string_over" = some (.ref f_is_string_over)
  f_is_word : Addr
  fd_is_word : FuncData
  F_is_word : Fun K "is_word" "is_word" s_is_word f_is_word fd_is_word
  b_is_word : Binds K fd_is_word P_is_word []
  m_is_word : mg "is_word" = some (.ref f_is_word)
  f_check_signs : Addr
  fd_check_signs : FuncData
  F_check_signs : Fun K "check_signs" "check_signs" s_check_signs f_check_signs fd_check_signs
  b_check_signs : Binds K fd_check_signs P_check_signs []
  m_check_signs : mg "check_signs" = some (.ref f_check_signs)
  f_check_state : Addr
  fd_check_state : FuncData
  F_check_state : Fun K "check_state" "check_state" s_check_state f_check_state fd_check_state
  b_check_state : Binds K fd_check_state P_check_state []
  m_check_state : mg "check_state" = some (.ref f_check_state)
  f_check_text : Addr
  fd_check_text : FuncData
  F_check_text : Fun K "check_text" "check_text" s_check_text f_check_text fd_check_text
  b_check_text : Binds K fd_check_text P_check_text []
  m_check_text : mg "check_text" = some (.ref f_check_text)
  f_is_arc : Addr
  fd_is_arc : FuncData
  F_is_arc : Fun K "is_arc" "is_arc" s_is_arc f_is_arc fd_is_arc
  b_is_arc : Binds K fd_is_arc P_is_arc []
  m_is_arc : mg "is_arc" = some (.ref f_is_arc)
  f_Loom_init : Addr
  fd_Loom_init : FuncData
  F_Loom_init : Fun K "__init__" "Loom.__init__" s_Loom_init f_Loom_init fd_Loom_init
  b_Loom_init : Binds K fd_Loom_init P_Loom_init []
  f_Loom_eq : Addr
  fd_Loom_eq : FuncData
  F_Loom_eq : Fun K "__eq__" "Loom.__eq__" s_Loom_eq f_Loom_eq fd_Loom_eq
  b_Loom_eq : Binds K fd_Loom_eq P_Loom_eq []
  f_met : Addr
  fd_met : FuncData
  F_met : Fun K "met" "met" s_met f_met fd_met
  b_met : Binds K fd_met P_met []
  m_met : mg "met" = some (.ref f_met)
  f_book : Addr
  fd_book : FuncData
  F_book : Fun K "book" "book" s_book f_book fd_book
  b_book : Binds K fd_book P_book []
  m_book : mg "book" = some (.ref f_book)
  f_is_book : Addr
  fd_is_book : FuncData
  F_is_book : Fun K "is_book" "is_book" s_is_book f_is_book fd_is_book
  b_is_book : Binds K fd_is_book P_is_book []
  m_is_book : mg "is_book" = some (.ref f_is_book)
  f_check_book : Addr
  fd_check_book : FuncData
  F_check_book : Fun K "check_book" "check_book" s_check_book f_check_book fd_check_book
  b_check_book : Binds K fd_check_book P_check_book []
  m_check_book : mg "check_book" = some (.ref f_check_book)
  f_words : Addr
  fd_words : FuncData
  F_words : Fun K "words" "words" s_words f_words fd_words
  b_words : Binds K fd_words P_words []
  m_words : mg "words" = some (.ref f_words)
  f_goes_on : Addr
  fd_goes_on : FuncData
  F_goes_on : Fun K "goes_on" "goes_on" s_goes_on f_goes_on fd_goes_on
  b_goes_on : Binds K fd_goes_on P_goes_on []
  m_goes_on : mg "goes_on" = some (.ref f_goes_on)
  f_live_arcs : Addr
  fd_live_arcs : FuncData
  F_live_arcs : Fun K "live_arcs" "live_arcs" s_live_arcs f_live_arcs fd_live_arcs
  b_live_arcs : Binds K fd_live_arcs P_live_arcs []
  m_live_arcs : mg "live_arcs" = some (.ref f_live_arcs)
  f_readings : Addr
  fd_readings : FuncData
  F_readings : Fun K "readings" "readings" s_readings f_readings fd_readings
  b_readings : Binds K fd_readings P_readings []
  m_readings : mg "readings" = some (.ref f_readings)
  f_arcs_by_state : Addr
  fd_arcs_by_state : FuncData
  F_arcs_by_state : Fun K "arcs_by_state" "arcs_by_state" s_arcs_by_state f_arcs_by_state fd_arcs_by_state
  b_arcs_by_state : Binds K fd_arcs_by_state P_arcs_by_state []
  m_arcs_by_state : mg "arcs_by_state" = some (.ref f_arcs_by_state)
  f_starts : Addr
  fd_starts : FuncData
  F_starts : Fun K "starts" "starts" s_starts f_starts fd_starts
  b_starts : Binds K fd_starts P_starts []
  m_starts : mg "starts" = some (.ref f_starts)
  f_steps : Addr
  fd_steps : FuncData
  F_steps : Fun K "steps" "steps" s_steps f_steps fd_steps
  b_steps : Binds K fd_steps P_steps []
  m_steps : mg "steps" = some (.ref f_steps)
  f_explored : Addr
  fd_explored : FuncData
  F_explored : Fun K "explored" "explored" s_explored f_explored fd_explored
  b_explored : Binds K fd_explored P_explored []
  m_explored : mg "explored" = some (.ref f_explored)
  f_is_even : Addr
  fd_is_even : FuncData
  F_is_even : Fun K "is_even" "is_even" s_is_even f_is_even fd_is_even
  b_is_even : Binds K fd_is_even P_is_even []
  m_is_even : mg "is_even" = some (.ref f_is_even)
  f_one_way : Addr
  fd_one_way : FuncData
  F_one_way : Fun K "one_way" "one_way" s_one_way f_one_way fd_one_way
  b_one_way : Binds K fd_one_way P_one_way []
  m_one_way : mg "one_way" = some (.ref f_one_way)
  f_check_alike : Addr
  fd_check_alike : FuncData
  F_check_alike : Fun K "check_alike" "check_alike" s_check_alike f_check_alike fd_check_alike
  b_check_alike : Binds K fd_check_alike P_check_alike []
  m_check_alike : mg "check_alike" = some (.ref f_check_alike)
  f_joined : Addr
  fd_joined : FuncData
  F_joined : Fun K "joined" "joined" s_joined f_joined fd_joined
  b_joined : Binds K fd_joined P_joined []
  m_joined : mg "joined" = some (.ref f_joined)
  f_apart : Addr
  fd_apart : FuncData
  F_apart : Fun K "apart" "apart" s_apart f_apart fd_apart
  b_apart : Binds K fd_apart P_apart []
  m_apart : mg "apart" = some (.ref f_apart)
  f_l_take : Addr
  fd_l_take : FuncData
  F_l_take : Fun K "_law_take" "_law_take" s_l_take f_l_take fd_l_take
  b_l_take : Binds K fd_l_take P_l_take []
  m_l_take : mg "_law_take" = some (.ref f_l_take)
  f_l_word : Addr
  fd_l_word : FuncData
  F_l_word : Fun K "_law_word" "_law_word" s_l_word f_l_word fd_l_word
  b_l_word : Binds K fd_l_word P_l_word []
  m_l_word : mg "_law_word" = some (.ref f_l_word)
  f_l_words : Addr
  fd_l_words : FuncData
  F_l_words : Fun K "_law_words" "_law_words" s_l_words f_l_words fd_l_words
  b_l_words : Binds K fd_l_words P_l_words []
  m_l_words : mg "_law_words" = some (.ref f_l_words)
  f_l_tree : Addr
  fd_l_tree : FuncData
  F_l_tree : Fun K "_law_tree" "_law_tree" s_l_tree f_l_tree fd_l_tree
  b_l_tree : Binds K fd_l_tree P_l_tree []
  m_l_tree : mg "_law_tree" = some (.ref f_l_tree)
  f_l_shuffled : Addr
  fd_l_shuffled : FuncData
  F_l_shuffled : Fun K "_law_shuffled" "_law_shuffled" s_l_shuffled f_l_shuffled fd_l_shuffled
  b_l_shuffled : Binds K fd_l_shuffled P_l_shuffled []
  m_l_shuffled : mg "_law_shuffled" = some (.ref f_l_shuffled)
  f_l_single : Addr
  fd_l_single : FuncData
  F_l_single : Fun K "_law_single" "_law_single" s_l_single f_l_single fd_l_single
  b_l_single : Binds K fd_l_single P_l_single []
  m_l_single : mg "_law_single" = some (.ref f_l_single)
  f_l_error : Addr
  fd_l_error : FuncData
  F_l_error : Fun K "_law_error" "_law_error" s_l_error f_l_error fd_l_error
  b_l_error : Binds K fd_l_error P_l_error []
  m_l_error : mg "_law_error" = some (.ref f_l_error)
  f_l_inner : Addr
  fd_l_inner : FuncData
  F_l_inner : Fun K "_law_inner" "_law_inner" s_l_inner f_l_inner fd_l_inner
  b_l_inner : Binds K fd_l_inner P_l_inner []
  m_l_inner : mg "_law_inner" = some (.ref f_l_inner)
  f_l_spelled : Addr
  fd_l_spelled : FuncData
  F_l_spelled : Fun K "_law_spelled" "_law_spelled" s_l_spelled f_l_spelled fd_l_spelled
  b_l_spelled : Binds K fd_l_spelled P_l_spelled []
  m_l_spelled : mg "_law_spelled" = some (.ref f_l_spelled)
  f_law : Addr
  fd_law : FuncData
  F_law : Fun K "law" "law" s_law f_law fd_law
  b_law : Binds K fd_law P_law []
  m_law : mg "law" = some (.ref f_law)
  n_all : mg "all" = none
  n_any : mg "any" = none
  n_bool : mg "bool" = none
  n_enumerate : mg "enumerate" = none
  n_int : mg "int" = none
  n_isinstance : mg "isinstance" = none
  n_len : mg "len" = none
  n_list : mg "list" = none
  n_max : mg "max" = none
  n_range : mg "range" = none
  n_reversed : mg "reversed" = none
  n_set : mg "set" = none
  n_sorted : mg "sorted" = none
  n_str : mg "str" = none
  n_tuple : mg "tuple" = none
  n_zip : mg "zip" = none
  t_MOST_SIGNS : Tok
  g_MOST_SIGNS : mg "MOST_SIGNS" = some (.int 4 t_MOST_SIGNS)
  t_LONGEST_WORD : Tok
  g_LONGEST_WORD : mg "LONGEST_WORD" = some (.int 12 t_LONGEST_WORD)
  t_LONGEST_TEXT : Tok
  g_LONGEST_TEXT : mg "LONGEST_TEXT" = some (.int 2000 t_LONGEST_TEXT)
  t_LAST_STATE : Tok
  g_LAST_STATE : mg "LAST_STATE" = some (.int 63 t_LAST_STATE)
  t_MOST_ARCS : Tok
  g_MOST_ARCS : mg "MOST_ARCS" = some (.int 200 t_MOST_ARCS)
  t_MOST_READINGS : Tok
  g_MOST_READINGS : mg "MOST_READINGS" = some (.int 200 t_MOST_READINGS)
  t_LETTERS : Tok
  g_LETTERS : mg "LETTERS" = some (.str "abcd" t_LETTERS)
  C_Loom : Addr
  M_Loom : Mk K C_Loom f_Loom_init
  cl_Loom : Cls K C_Loom
  g_Loom : mg "Loom" = some (.ref C_Loom)
  na_Loom_signs : NoAttr K C_Loom "signs"
  na_Loom_arcs : NoAttr K C_Loom "arcs"
  C_InvalidLoom : Addr
  C_LimitExceeded : Addr
  C_Unlike : Addr
  C_NotABook : Addr
  C_UnknownState : Addr
  C_InvalidText : Addr
  C_NotOneWay : Addr
  g_InvalidLoom : mg "InvalidLoom" = some (.ref C_InvalidLoom)
  kc_InvalidLoom : PySem.W.keepIn K (.ref C_InvalidLoom) = true
  E_InvalidLoom : ExcC K C_InvalidLoom
  ty_InvalidLoom : PySem.W.typeIn K (.ref C_InvalidLoom) = some (.type "type")
  X_InvalidLoom : PySem.ExX.ExcT K mg C_InvalidLoom f_InvalidLoom_init "InvalidLoom" ["part", "at"] "InvalidLoom.__init__" s_InvalidLoom_init
  g_LimitExceeded : mg "LimitExceeded" = some (.ref C_LimitExceeded)
  kc_LimitExceeded : PySem.W.keepIn K (.ref C_LimitExceeded) = true
  E_LimitExceeded : ExcC K C_LimitExceeded
  ty_LimitExceeded : PySem.W.typeIn K (.ref C_LimitExceeded) = some (.type "type")
  X_LimitExceeded : PySem.ExX.ExcT K mg C_LimitExceeded f_LimitExceeded_init "LimitExceeded" ["limit"] "LimitExceeded.__init__" s_LimitExceeded_init
  g_Unlike : mg "Unlike" = some (.ref C_Unlike)
  kc_Unlike : PySem.W.keepIn K (.ref C_Unlike) = true
  E_Unlike : ExcC K C_Unlike
  ty_Unlike : PySem.W.typeIn K (.ref C_Unlike) = some (.type "type")
  in_Unlike : PySem.W.excIn K C_Unlike [.type "Exception", .type "BaseException", .type "object"] "Exception.__new__" = true
  g_NotABook : mg "NotABook" = some (.ref C_NotABook)
  kc_NotABook : PySem.W.keepIn K (.ref C_NotABook) = true
  E_NotABook : ExcC K C_NotABook
  ty_NotABook : PySem.W.typeIn K (.ref C_NotABook) = some (.type "type")
  in_NotABook : PySem.W.excIn K C_NotABook [.type "Exception", .type "BaseException", .type "object"] "Exception.__new__" = true
  g_UnknownState : mg "UnknownState" = some (.ref C_UnknownState)
  kc_UnknownState : PySem.W.keepIn K (.ref C_UnknownState) = true
  E_UnknownState : ExcC K C_UnknownState
  ty_UnknownState : PySem.W.typeIn K (.ref C_UnknownState) = some (.type "type")
  in_UnknownState : PySem.W.excIn K C_UnknownState [.type "Exception", .type "BaseException", .type "object"] "Exception.__new__" = true
  g_InvalidText : mg "InvalidText" = some (.ref C_InvalidText)
  kc_InvalidText : PySem.W.keepIn K (.ref C_InvalidText) = true
  E_InvalidText : ExcC K C_InvalidText
  ty_InvalidText : PySem.W.typeIn K (.ref C_InvalidText) = some (.type "type")
  in_InvalidText : PySem.W.excIn K C_InvalidText [.type "Exception", .type "BaseException", .type "object"] "Exception.__new__" = true
  g_NotOneWay : mg "NotOneWay" = some (.ref C_NotOneWay)
  kc_NotOneWay : PySem.W.keepIn K (.ref C_NotOneWay) = true
  E_NotOneWay : ExcC K C_NotOneWay
  ty_NotOneWay : PySem.W.typeIn K (.ref C_NotOneWay) = some (.type "type")
  in_NotOneWay : PySem.W.excIn K C_NotOneWay [.type "Exception", .type "BaseException", .type "object"] "Exception.__new__" = true
  cLaw : Addr
  pLaw : Addr
  co_law : fd_law.code = .ref cLaw
  ic_Loom : PySem.W.findIn K (.ref C_Loom) "__class__" = some (some (.builtin "object.__class__"))
  ig : PySem.W.specialIn K (.builtin "object.__class__") "__get__" = some (some (.builtin "getset_descriptor.__get__"))
  it : PySem.W.takesIn K (.builtin "object.__class__") = some true
  im_Loom : PySem.W.mroIn K C_Loom (.type "object") = some true
  eq_Loom : PySem.W.findIn K (.ref C_Loom) "__eq__" = some (some (.ref f_Loom_eq))
  fn_Loom_eq : PySem.W.isFn K (.ref f_Loom_eq) = true
  ne_Loom : PySem.W.findIn K (.ref C_Loom) "__ne__" = some (some (.builtin "object.__ne__"))
  cc_Loom : PySem.W.isClsIn K C_Loom = true
  ty_Loom : PySem.W.typeIn K (.ref C_Loom) = some (.type "type")
  sb_NoneType : PySem.W.subIn K (.type "NoneType") (.ref C_Loom) = some false
  sb_int : PySem.W.subIn K (.type "int") (.ref C_Loom) = some false
  sb_bool : PySem.W.subIn K (.type "bool") (.ref C_Loom) = some false
  sb_str : PySem.W.subIn K (.type "str") (.ref C_Loom) = some false
  sb_list : PySem.W.subIn K (.type "list") (.ref C_Loom) = some false
  sb_tuple : PySem.W.subIn K (.type "tuple") (.ref C_Loom) = some false
  sb_dict : PySem.W.subIn K (.type "dict") (.ref C_Loom) = some false
  cl_InvalidLoom : PySem.W.isClsIn K C_InvalidLoom = true
  cl_LimitExceeded : PySem.W.isClsIn K C_LimitExceeded = true
  cl_Unlike : PySem.W.isClsIn K C_Unlike = true
  cl_NotABook : PySem.W.isClsIn K C_NotABook = true
  cl_NotOneWay : PySem.W.isClsIn K C_NotOneWay = true
  su_Unlike_InvalidLoom : PySem.W.subIn K (.ref C_Unlike) (.ref C_InvalidLoom) = some false
  su_Unlike_NotABook : PySem.W.subIn K (.ref C_Unlike) (.ref C_NotABook) = some false
  su_Unlike_Unlike : PySem.W.subIn K (.ref C_Unlike) (.ref C_Unlike) = some true
  su_NotOneWay_InvalidLoom : PySem.W.subIn K (.ref C_NotOneWay) (.ref C_InvalidLoom) = some false
  su_NotOneWay_NotABook : PySem.W.subIn K (.ref C_NotOneWay) (.ref C_NotABook) = some false
  su_NotOneWay_Unlike : PySem.W.subIn K (.ref C_NotOneWay) (.ref C_Unlike) = some false
  su_NotOneWay_NotOneWay : PySem.W.subIn K (.ref C_NotOneWay) (.ref C_NotOneWay) = some true
  su_LimitExceeded_InvalidLoom : PySem.W.subIn K (.ref C_LimitExceeded) (.ref C_InvalidLoom) = some false
  su_LimitExceeded_NotABook : PySem.W.subIn K (.ref C_LimitExceeded) (.ref C_NotABook) = some false
  su_LimitExceeded_Unlike : PySem.W.subIn K (.ref C_LimitExceeded) (.ref C_Unlike) = some false
  su_LimitExceeded_NotOneWay : PySem.W.subIn K (.ref C_LimitExceeded) (.ref C_NotOneWay) = some false
  su_LimitExceeded_LimitExceeded : PySem.W.subIn K (.ref C_LimitExceeded) (.ref C_LimitExceeded) = some true
  nx_InvalidLoom_part : PySem.W.findIn K (.ref C_InvalidLoom) "part" = some none
  nx_InvalidLoom_at : PySem.W.findIn K (.ref C_InvalidLoom) "at" = some none
  nx_LimitExceeded_limit : PySem.W.findIn K (.ref C_LimitExceeded) "limit" = some none
end J

set_option Elab.async false
set_option linter.all false
set_option maxRecDepth 100000
set_option maxHeartbeats 4000000
namespace J
open PySem L2
/-! ### frames -/
def Ex (p : Addr) (H H' : Hp) : Prop := ∀ b o, b ≠ p → H b = some o → H' b = some o
theorem Ex.refl (p : Addr) (H : Hp) : Ex p H H := fun _ _ _ h => h
theorem Ex.trans {p : Addr} {H H1 H2 : Hp} (a : Ex p H H1) (b : Ex p H1 H2) : Ex p H H2 := fun c o n h => b c o n (a c o n h)
theorem Ex.upd {p : Addr} {H : Hp} (o : HO) : Ex p H (upd H p o) := fun c u n h => by rw [upd_ne n]; exact h
theorem Ex.new {p q : Addr} {H : Hp} (o : HO) (h : H q = none) : Ex p H (L2.upd H q o) := fun c u n e => by
  rw [upd_ne (ne_of_none e h)]; exact e
theorem Same.ex {p : Addr} {H H' : Hp} (s : Same H H') : Ex p H H' := fun c o _ h => s c o h
theorem Same.new {q : Addr} {H : Hp} (o : HO) (h : H q = none) : Same H (L2.upd H q o) := fun c u e => by
  rw [upd_ne (ne_of_none e h)]; exact e
theorem hp_ne {H : Hp} {p q : Addr} {o : HO} (h : H p = some o) (hq : H q = none) : q ≠ p := by
  intro z
  rw [z, h] at hq
  cases hq
theorem Ex.free {p q : Addr} {H H' : Hp} (x : Ex p H H') (hq : H' q = none) (n : q ≠ p) : H q = none := by
  cases e : H q with
  | none => rfl
  | some o => rw [x _ _ n e] at hq; cases hq
theorem Ex.updNew {p q : Addr} {H H' : Hp} {o : HO} (x : Ex p H H') (hq : H q = none) : Ex p H (L2.upd H' q o) := fun b u n e => by
  rw [upd_ne (ne_of_none e hq)]; exact x b u n e
theorem _root_.L2.Same.updNew {q : Addr} {H H' : Hp} {o : HO} (x : Same H H') (hq : H q = none) : Same H (L2.upd H' q o) := fun b u e => by
  rw [upd_ne (ne_of_none e hq)]; exact x b u e
/-! ### the pool of draws, and the script -/
def PoolAt (H : Hp) (p : Addr) : Prop := ∃ a b c d : Int, H p = some (.lst [.int a, .int b, .int c, .int d]) ∧ 0 ≤ a
/-- the script, as long as all but p stays -/
def Scr (K : PySem.W.Frag) (ns : List Int) (a : Addr) (H : Hp) (p : Addr) : Prop := ∀ H', Ex p H H' → SqL K H' a (ns.map V.int)
def St (K : PySem.W.Frag) (ns : List Int) (a : Addr) (H : Hp) (p : Addr) : Prop := PoolAt H p ∧ Scr K ns a H p
theorem Scr.ex {K : PySem.W.Frag} {ns : List Int} {a p : Addr} {H H' : Hp} (h : Scr K ns a H p) (x : Ex p H H') : Scr K ns a H' p := fun H2 y => h H2 (x.trans y)
theorem Scr.mk {K : PySem.W.Frag} {ns : List Int} {a p : Addr} {H : Hp} (h : SqL K H a (ns.map V.int)) (hp : H p = none) : Scr K ns a H p := fun H' x => by
  rcases h with h | h
  · refine .inl ?_
    rcases h with h | ⟨o, h⟩
    · exact .inl (x _ _ (fun z => hp_ne h hp z.symm) h)
    · exact .inr ⟨o, x _ _ (fun z => hp_ne h hp z.symm) h⟩
  · exact .inr h
theorem St.ex {K : PySem.W.Frag} {ns : List Int} {a p : Addr} {H H' : Hp} (h : St K ns a H p) (x : Ex p H H') (g : PoolAt H' p) : St K ns a H' p := ⟨g, h.2.ex x⟩
theorem PoolAt.same {H H' : Hp} {p : Addr} (h : PoolAt H p) (s : Same H H') : PoolAt H' p := by
  obtain ⟨a, b, c, d, h1, h2⟩ := h
  exact ⟨a, b, c, d, s _ _ h1, h2⟩
theorem St.same {K : PySem.W.Frag} {ns : List Int} {a p : Addr} {H H' : Hp} (h : St K ns a H p) (s : Same H H') : St K ns a H' p := ⟨h.1.same s, h.2.ex (Same.ex s)⟩
theorem St.ne {K : PySem.W.Frag} {ns : List Int} {a p q : Addr} {H : Hp} (h : St K ns a H p) (hq : H q = none) : q ≠ p := by
  obtain ⟨⟨a, b, c, d, h1, h2⟩, _⟩ := h
  exact hp_ne h1 hq
theorem St.upd {K : PySem.W.Frag} {ns : List Int} {a p q : Addr} {H0 H : Hp} {o : HO} (h0 : St K ns a H0 p) (h : St K ns a H p) (x : Ex p H0 (L2.upd H q o)) (n : q ≠ p) : St K ns a (L2.upd H q o) p := by
  obtain ⟨⟨a, b, c, d, h1, h2⟩, _⟩ := h
  exact ⟨⟨a, b, c, d, by rw [upd_ne n.symm]; exact h1, h2⟩, h0.2.ex x⟩
theorem fm_nonneg (a : Int) {b : Int} (h : 0 < b) : 0 ≤ a.fmod b := Int.fmod_nonneg_of_pos a h
theorem fm_lt (a : Int) {b : Int} (h : 0 < b) : a.fmod b < b := Int.fmod_lt_of_pos a h
theorem atI_ints {ns : List Int} {a : Int} (h0 : 0 ≤ a) (h1 : a < ns.length) : ∃ n, atI (ns.map V.int) a = some (V.int n) := by
  obtain ⟨j, rfl⟩ := Int.eq_ofNat_of_zero_le h0
  have hj : j < ns.length := by exact_mod_cast h1
  exact ⟨ns[j], atI_nat (by rw [List.getElem?_map, List.getElem?_eq_getElem hj]; rfl)⟩
def spTake (K : PySem.W.Frag) (ns : List Int) : Sp := fun vs H Q _ => ∃ (a p : Addr) (m : Int), vs = [.ref a, .ref p, .int m] ∧ St K ns a H p ∧ 0 < m ∧ m < 1073741824 ∧
  ∀ H' (r : Int), Ex p H H' → St K ns a H' p → 0 ≤ r → r < m → Q (.int r) H'
section
variable {P : Program} {w : World} {K : PySem.W.Frag} {mg : Str → Option Value} {base : Heap}
theorem ok_l_take (T : Tx K mg) (ns : List Int) : FnOk P w K mg base CX0 1 T.f_l_take T.fd_l_take P_l_take (spTake K ns) := by
  refine T.F_l_take.ok sc_l_take (fun vs H Q E h => ?_) (fun cdv A outer s H vs Q E hr h => ?_)
  · obtain ⟨a, p, m, rfl, _⟩ := h
    rfl
  · obtain ⟨a, p, m, rfl, hst, hm, hm2, k0⟩ := h
    have k : ∀ H' (r : Int), Ex p H H' → PoolAt H' p → 0 ≤ r → r < m → Q (.int r) H' := fun H' r x g => k0 H' r x (hst.ex x g)
    refine ⟨_, (pss_cons (ps_asg (pe_op op_add (pe_ix (ix_listK (K := K) rfl) (pv 1) pe_int (fun _ _ => rfl)) pe_int) (pg_sub (pv 1) pe_int set_list))
        (C8.pss_cut (ps_if (PW.pt (pw_and (pt_cmpR op_eq (pe_ix (ix_listK (K := K) rfl) (pv 1) pe_int (fun _ _ => rfl)) pe_int (nomark _)) (pw_and1 (pt_cmpR op_lt (pe_ix (ix_listK (K := K) rfl) (pv 1) pe_int (fun _ _ => rfl)) (pe_callB (call_len_seqK (K := K) rfl) rfl T.n_len (by decide +kernel) (pa_cons (pv 0) pa_nil)) (nomark _))))) (pss_cons (ps_set (i := 3) sc_l_take.nd rfl (Or.inl rfl) (pe_ix (ix_listK (K := K) rfl) (pv 0) (pe_ix (ix_listK (K := K) rfl) (pv 1) pe_int (fun _ _ => rfl)) (fun _ _ => rfl)))
        (pss_cons (ps_asg (pe_op op_add (pe_ix (ix_listK (K := K) rfl) (pv 1) pe_int (fun _ _ => rfl)) pe_int) (pg_sub (pv 1) pe_int set_list))
        (C8.pss_cut (ps_if (pt_cmpR op_lt (pv 3) pe_int (nomark _)) (pss_one (ps_set (i := 3) sc_l_take.nd rfl (Or.inl rfl) (pe_un un_neg (pv 3)))) pss_nil)
        (pss_one (ps_if (pt_cmpR op_ge (pv 3) (pe_op op_pow pe_int pe_int) (nomark _)) (pss_one (ps_asg (pv 3) (pg_sub (pv 1) pe_int set_list))) (pss_one (ps_asg (pe_op op_modN (pe_callTy call_int1 rfl T.n_int (by decide +kernel) (pa_cons (pe_op op_add (pe_op op_add (pe_op op_mul (pe_ix (ix_listK (K := K) rfl) (pv 1) pe_int (fun _ _ => rfl)) pe_int) (pv 3)) pe_int) pa_nil)) pe_int) (pg_sub (pv 1) pe_int set_list)))))))) pss_nil)
        (pss_cons (ps_if (pt_cmpR op_gt (pe_ix (ix_listK (K := K) rfl) (pv 1) pe_int (fun _ _ => rfl)) pe_int (nomark _)) (pss_cons (ps_set (i := 4) sc_l_take.nd rfl (Or.inl rfl) (pe_op op_modN (pe_callTy call_int1 rfl T.n_int (by decide +kernel) (pa_cons (pe_ix (ix_listK (K := K) rfl) (pv 1) pe_int (fun _ _ => rfl)) pa_nil)) (pv 2)))
        (pss_cons (ps_asg (pe_op op_fdivN (pe_ix (ix_listK (K := K) rfl) (pv 1) pe_int (fun _ _ => rfl)) (pv 2)) (pg_sub (pv 1) pe_int set_list))
        (pss_one (ps_ret (pv 4))))) pss_nil)
        (pss_cons (ps_set (i := 5) sc_l_take.nd rfl (Or.inl rfl) (pe_op op_modN (pe_op op_mul (pe_callTy call_int1 rfl T.n_int (by decide +kernel) (pa_cons (pe_op op_add (pe_op op_add (pe_ix (ix_listK (K := K) rfl) (pv 1) pe_int (fun _ _ => rfl)) (pe_op op_mul pe_int (pe_ix (ix_listK (K := K) rfl) (pv 1) pe_int (fun _ _ => rfl)))) pe_int) pa_nil)) pe_int) pe_int))
        (pss_cons (ps_set (i := 5) sc_l_take.nd rfl (Or.inl rfl) (pe_op op_modN (pe_callTy call_int1 rfl T.n_int (by decide +kernel) (pa_cons (pe_op op_mul (pv 5) (pe_op op_add (pe_op op_fdivN (pv 5) pe_int) pe_int)) pa_nil)) pe_int))
        (pss_cons (ps_set (i := 5) sc_l_take.nd rfl (Or.inl rfl) (pe_op op_modN (pe_callTy call_int1 rfl T.n_int (by decide +kernel) (pa_cons (pe_op op_mul (pv 5) (pe_op op_add (pe_op op_fdivN (pv 5) pe_int) pe_int)) pa_nil)) pe_int))
        (pss_one (ps_ret (pe_op op_modN (pe_callTy call_int1 rfl T.n_int (by decide +kernel) (pa_cons (pe_op op_fdivN (pv 5) pe_int) pa_nil)) (pv 2)))))))))), ?_⟩
    obtain ⟨⟨b0, b1, b2, b3, hp, h0⟩, hS⟩ := hst
    refine ⟨_, rfl, _, _, _, _, rfl, rfl, SqL.of hp, rfl, _, _, rfl, rfl, _, rfl, p, _, _, _, rfl, rfl, hp, rfl, ?_⟩
    refine ⟨fun σ' H' => (∃ v, σ' = [some (.ref a), some (.ref p), some (.int m), v, none, none]) ∧ Ex p H H' ∧ PoolAt H' p, ?_, ?_⟩
    · refine ⟨_, rfl, _, _, _, _, rfl, rfl, SqL.of upd_same, rfl, rfl, _, rfl, ?_⟩
      refine ite2 (fun c1 => ?_) (fun c1 => ?_)
      · refine ⟨_, rfl, _, _, _, _, rfl, rfl, SqL.of upd_same, rfl, _, rfl, a, _, rfl, .inl (hS _ (Ex.upd _)), _, _, rfl, rfl, _, rfl, ?_⟩
        refine ite2 (fun c2 => ?_) (fun c2 => ?_)
        · rw [List.length_map] at c2
          obtain ⟨n, hn⟩ := atI_ints (ns := ns) h0 (by simpa using c2)
          refine ⟨_, rfl, _, rfl, _, _, _, _, rfl, rfl, SqL.of upd_same, rfl, a, _, _, _, rfl, rfl, hS _ (Ex.upd _), hn, ?_⟩
          refine ⟨_, rfl, _, _, _, _, rfl, rfl, SqL.of upd_same, rfl, _, _, rfl, rfl, _, rfl, p, _, _, _, rfl, rfl, upd_same, rfl, ?_⟩
          refine ⟨fun σ' H' => (∃ z : Int, σ' = [some (.ref a), some (.ref p), some (.int m), some (.int z), none, none]) ∧ Ex p H H' ∧ PoolAt H' p, ?_, ?_⟩
          · refine ⟨_, rfl, _, _, rfl, rfl, _, rfl, ?_⟩
            refine ite2 (fun c3 => ?_) (fun c3 => ?_)
            · exact ⟨_, rfl, _, rfl, ⟨_, rfl⟩, (Ex.upd _).trans (Ex.upd _), _, _, _, _, upd_same, by omega⟩
            · exact ⟨⟨_, rfl⟩, (Ex.upd _).trans (Ex.upd _), _, _, _, _, upd_same, by omega⟩
          · rintro σ' H' ⟨⟨z, rfl⟩, x1, c0, c1, c2, c3, hp1, h1⟩
            refine ⟨_, rfl, _, _, rfl, rfl, ⟨by decide, by decide, by decide⟩, _, _, rfl, rfl, _, rfl, ?_⟩
            refine ite2 (fun c3 => ?_) (fun c3 => ?_)
            · exact ⟨_, rfl, _, rfl, p, _, _, _, rfl, rfl, hp1, rfl, ⟨_, rfl⟩, x1.trans (Ex.upd _), _, _, _, _, upd_same, h1⟩
            · refine ⟨_, rfl, _, _, _, _, rfl, rfl, SqL.of hp1, rfl, _, _, rfl, rfl, .inr (by decide), _, rfl, _, _, rfl, rfl, _, _, rfl, rfl, .inl ⟨_, rfl, _, _, rfl, rfl, (by decide : (1000000007 : Int) ≠ 0), ?_⟩⟩
              exact ⟨_, rfl, p, _, _, _, rfl, rfl, hp1, rfl, ⟨_, rfl⟩, x1.trans (Ex.upd _), _, _, _, _, upd_same, h1⟩
        · exact ⟨⟨_, rfl⟩, Ex.upd _, _, _, _, _, upd_same, h0⟩
      · exact iteF ⟨⟨_, rfl⟩, Ex.upd _, _, _, _, _, upd_same, h0⟩
    · rintro σ' H1 ⟨⟨v, rfl⟩, x1, c0, c1, c2, c3, hp1, h1⟩
      refine ⟨_, rfl, _, _, _, _, rfl, rfl, SqL.of hp1, rfl, _, _, rfl, rfl, _, rfl, ?_⟩
      refine ite2 (fun d1 => ?_) (fun d1 => ?_)
      · refine ⟨_, rfl, _, _, _, _, rfl, rfl, SqL.of hp1, rfl, .inl ⟨_, rfl, _, rfl, _, _, rfl, rfl, by omega, ?_⟩⟩
        refine ⟨_, rfl, _, _, _, _, rfl, rfl, SqL.of hp1, rfl, _, rfl, _, _, rfl, rfl, ⟨by omega, by omega⟩, _, rfl, p, _, _, _, rfl, rfl, hp1, rfl, ?_⟩
        exact ⟨_, rfl, k _ _ (x1.trans (Ex.upd _)) ⟨_, _, _, _, upd_same, h1⟩ (fm_nonneg _ hm) (fm_lt _ hm)⟩
      · have hx0 := fm_nonneg ((c3 + 7919 * c2 + 1) * 48271) (b := 2147483647) (by decide)
        have hx1 := fm_lt ((c3 + 7919 * c2 + 1) * 48271) (b := 2147483647) (by decide)
        refine ⟨_, rfl, _, _, _, _, rfl, rfl, SqL.of hp1, rfl, _, rfl, _, _, _, _, rfl, rfl, SqL.of hp1, rfl, _, _, rfl, rfl, .inl (by decide), _, _, rfl, rfl, _, _, rfl, rfl, .inl ⟨_, rfl, _, _, rfl, rfl, .inr (by decide), _, _, rfl, rfl, (by decide : (2147483647 : Int) ≠ 0), ?_⟩⟩
        refine ⟨_, rfl, _, rfl, _, _, rfl, rfl, ⟨by decide, by decide⟩, _, _, rfl, rfl, _, _, rfl, rfl, .inl ⟨Int.lt_of_lt_of_le (by decide) hx0, Int.lt_trans hx1 (by decide)⟩, .inl ⟨_, rfl, _, _, rfl, rfl, (by decide : (2147483629 : Int) ≠ 0), ?_⟩⟩
        refine ⟨_, rfl, _, rfl, _, _, rfl, rfl, ⟨by decide, by decide⟩, _, _, rfl, rfl, _, _, rfl, rfl, .inl ⟨Int.lt_of_lt_of_le (by decide) (fm_nonneg _ (by decide)), Int.lt_trans (fm_lt _ (by decide)) (by decide)⟩, .inl ⟨_, rfl, _, _, rfl, rfl, (by decide : (2147483399 : Int) ≠ 0), ?_⟩⟩
        refine ⟨_, rfl, _, _, rfl, rfl, ⟨by decide, by decide⟩, .inl ⟨_, rfl, _, rfl, _, _, rfl, rfl, by omega, ?_⟩⟩
        exact k _ _ x1 ⟨_, _, _, _, hp1, h1⟩ (fm_nonneg _ hm) (fm_lt _ hm)
end
end J


set_option Elab.async false
set_option linter.all false
set_option maxRecDepth 100000
set_option maxHeartbeats 4000000
namespace J
open PySem L2
theorem joinL_nil : ∀ ys : List (List Nat), TL.joinL [] ys = ys.flatten
  | [] => rfl
  | [p] => by simp [TL.joinL]
  | p :: q :: r => by
    show p ++ ([] ++ TL.joinL [] (q :: r)) = _
    rw [joinL_nil (q :: r)]
    simp
theorem join_flat (ys : List (List Nat)) : Txt.join (SX.S []) (ys.map SX.S) = SX.S ys.flatten := by rw [SX.join_S, joinL_nil]
theorem emptyS : Str.ofString "" = SX.S [] := rfl
theorem sum_ones (us : List Nat) : ((us.map fun c => SX.S [c]).map (·.length)).sum = us.length := by
  induction us with
  | nil => rfl
  | cons a r ih => simp only [List.map_cons, List.sum_cons, ih, SX.S_len, List.length_cons, List.length_nil]; omega
theorem atI_mem {α : Type} {xs : List α} {i : Int} (h0 : 0 ≤ i) (h1 : i < xs.length) : ∃ v, v ∈ xs ∧ atI xs i = some v := by
  obtain ⟨j, rfl⟩ := Int.eq_ofNat_of_zero_le h0
  have hj : j < xs.length := by exact_mod_cast h1
  exact ⟨xs[j], List.getElem_mem hj, atI_nat (List.getElem?_eq_getElem hj)⟩
/-- signs: one to four small letters, ascending -/
def Signs (sg : List Nat) : Prop := 1 ≤ sg.length ∧ sg.length ≤ 4 ∧ (∀ c ∈ sg, 97 ≤ c ∧ c ≤ 122) ∧ sg.Pairwise (· < ·)
instance (sg : List Nat) : Decidable (Signs sg) := by unfold Signs; infer_instance
theorem Signs.len {sg : List Nat} (h : Signs sg) : 1 ≤ sg.length ∧ sg.length ≤ 4 := ⟨h.1, h.2.1⟩
/-- a word over the signs -/
def Word (sg u : List Nat) : Prop := 1 ≤ u.length ∧ u.length ≤ 12 ∧ ∀ c ∈ u, c ∈ sg
def txts (ws : List (List Nat)) : List V := ws.map fun u => V.str (SX.S u)
def spSignsOf (K : PySem.W.Frag) (ns : List Int) : Sp := fun vs H Q _ => ∃ (a p : Addr), vs = [.ref a, .ref p] ∧ St K ns a H p ∧ ∀ H' sg, Ex p H H' → St K ns a H' p → Signs sg → Q (.str (SX.S sg)) H'
def spWord (K : PySem.W.Frag) (ns : List Int) : Sp := fun vs H Q _ => ∃ (a p : Addr) (sg : List Nat) (m : Int), vs = [.ref a, .ref p, .str (SX.S sg), .int m] ∧ St K ns a H p ∧ Signs sg ∧ 0 < m ∧ m ≤ 12 ∧
  ∀ H' u, Ex p H H' → St K ns a H' p → Word sg u → (u.length : Int) ≤ m → Q (.str (SX.S u)) H'
def spWords (K : PySem.W.Frag) (ns : List Int) : Sp := fun vs H Q _ => ∃ (a p : Addr) (sg : List Nat) (n m : Int), vs = [.ref a, .ref p, .str (SX.S sg), .int n, .int m] ∧ St K ns a H p ∧ Signs sg ∧ 0 < n ∧ n ≤ 1000 ∧ 0 < m ∧ m ≤ 12 ∧
  ∀ H' (q : Addr) us, Ex p H H' → St K ns a H' p → H q = none → q ≠ p → H' q = some (.lst (txts us)) → (∀ u ∈ us, Word sg u ∧ (u.length : Int) ≤ m) → 1 ≤ us.length → (us.length : Int) ≤ n → Q (.ref q) H'
theorem le_size {n : Nat} (h : n ≤ 100000) : n ≤ sizeLine := Nat.le_trans h (by decide)
theorem lt_size {n : Nat} (h : n ≤ 100000) : n < sizeLine := Nat.lt_of_le_of_lt h (by decide)
theorem signs_menu {v : V} (h : v ∈ ([.str "ab", .str "ab", .str "abc", .str "xz", .str "a", .str "bdfh"] : List V)) : ∃ sg, v = .str (SX.S sg) ∧ Signs sg := by
  simp only [List.mem_cons, List.not_mem_nil, or_false] at h
  rcases h with rfl | rfl | rfl | rfl | rfl | rfl
  · exact ⟨[97, 98], rfl, by decide⟩
  · exact ⟨[97, 98], rfl, by decide⟩
  · exact ⟨[97, 98, 99], rfl, by decide⟩
  · exact ⟨[120, 122], rfl, by decide⟩
  · exact ⟨[97], rfl, by decide⟩
  · exact ⟨[98, 100, 102, 104], rfl, by decide⟩
section
variable {P : Program} {w : World} {K : PySem.W.Frag} {mg : Str → Option Value} {base : Heap}
theorem ok_l_word (T : Tx K mg) (ns : List Int) : FnOk P w K mg base CX0 2 T.f_l_word T.fd_l_word P_l_word (spWord K ns) := by
  have G_l_take : FnOk P w K mg base CX0 1 T.f_l_take T.fd_l_take P_l_take (spTake K ns) := ok_l_take T ns
  refine T.F_l_word.ok sc_l_word (fun vs H Q E h => ?_) (fun cdv A outer s H vs Q E hr h => ?_)
  · obtain ⟨a, p, sg, m, rfl, _⟩ := h
    rfl
  · obtain ⟨a, p, sg, m, rfl, hst, hsg, hm, hm2, k⟩ := h
    refine ⟨_, (pss_one (ps_ret (pe_join pe_str (pe_lc (own := [("_law_k", 4)]) (g := (gName 4)) rfl sc_l_word.nd (pi_range1 rfl T.n_range (pa_cons (pe_op op_add pe_int (pe_call G_l_take (hr.mono (by decide)) rfl T.m_l_take T.F_l_take.kp T.b_l_take .nil pass0 (pa_cons (pv 0) (pa_cons (pv 1) (pa_cons (pv 3) pa_nil))))) pa_nil)) (blkOk_by (N := N_l_word) (sc := defScope s_l_word) (by decide +kernel)) (fun _ _ _ _ _ => (pg_name (i := 4) sc_l_word.nd rfl (Or.inl rfl))) (fun _ _ _ _ _ => pts_nil) (fun _ _ _ _ _ => (pe_ix ix_str (pv 2) (pe_call G_l_take (hr.mono (by decide)) rfl T.m_l_take T.F_l_take.kp T.b_l_take .nil pass0 (pa_cons (pv 0) (pa_cons (pv 1) (pa_cons (pe_callB call_len_str rfl T.n_len (by decide +kernel) (pa_cons (pv 2) pa_nil)) pa_nil)))) (fun _ _ => rfl))))))), ?_⟩
    have hlen := hsg.len
    refine ⟨⟨_, rfl⟩, _, rfl, _, rfl, _, rfl, a, p, m, rfl, hst, hm, by omega, fun H1 r x1 st1 r0 r1 => ⟨_, _, rfl, rfl, ?_⟩⟩
    refine ⟨_, rfl, by omega, by omega, fun D hD => lc_range (lo := 0) (n := (1 + r).toNat) (fun i H' => ∃ us : List Nat, us.length = i ∧ (∀ c ∈ us, c ∈ sg) ∧ H' D = some (.lst ((us.map fun c => SX.S [c]).map V.str)) ∧ Ex p H H' ∧ St K ns a H' p) ?_ ?_ ?_⟩
    · exact ⟨[], rfl, fun _ h => (nomatch h), upd_same, x1.trans (Ex.new _ hD), st1.same (Same.new _ hD)⟩
    · rintro i H2 hi ⟨us, rfl, hu, hDs, x2, st2⟩
      refine ⟨rfl, ?_⟩
      refine ⟨_, rfl, _, rfl, _, rfl, _, rfl, _, rfl, le_size (by rw [SX.S_len]; omega), a, p, _, rfl, st2, by rw [SX.S_len]; omega, by rw [SX.S_len]; omega, fun H3 r3 x3 st3 r30 r31 => ?_⟩
      rw [SX.S_len] at r31
      obtain ⟨c, hc, hat⟩ := atI_mem (xs := sg) r30 r31
      have nD := st1.ne hD
      have hD0 := x1.free hD nD
      refine ⟨_, _, c, rfl, rfl, le_size (by rw [SX.S_len]; omega), hat, _, x3 _ _ nD hDs, lt_size (by simp; omega), us ++ [c], by simp, ?_, ?_, (x2.trans x3).updNew hD0, hst.upd st3 ((x2.trans x3).updNew hD0) nD⟩
      · intro d hd
        rcases List.mem_append.mp hd with h | h
        · exact hu d h
        · rw [List.mem_singleton.mp h]; exact hc
      · rw [upd_same]; simp
    · rintro H2 ⟨us, hl, hu, hDs, x2, st2⟩
      have hf : ∀ l : List Nat, (l.map fun c => [c]).flatten = l := fun l => by induction l with
        | nil => rfl
        | cons a l ih => simpa using ih
      refine ⟨_, _, us.map fun c => SX.S [c], rfl, rfl, .inl (SqL.of hDs), ?_, ?_⟩
      · rw [sum_ones, emptyS, SX.S_len]
        simp
        omega
      · have e : us.map (fun c => SX.S [c]) = (us.map fun c => [c]).map SX.S := by rw [List.map_map]; rfl
        rw [e, emptyS, join_flat, hf]
        exact k _ us x2 st2 ⟨by omega, by omega, hu⟩ (by omega)
theorem ok_l_words (T : Tx K mg) (ns : List Int) : FnOk P w K mg base CX0 3 T.f_l_words T.fd_l_words P_l_words (spWords K ns) := by
  have G_l_take : FnOk P w K mg base CX0 1 T.f_l_take T.fd_l_take P_l_take (spTake K ns) := ok_l_take T ns
  have G_l_word : FnOk P w K mg base CX0 2 T.f_l_word T.fd_l_word P_l_word (spWord K ns) := ok_l_word T ns
  refine T.F_l_words.ok sc_l_words (fun vs H Q E h => ?_) (fun cdv A outer s H vs Q E hr h => ?_)
  · obtain ⟨a, p, sg, n, m, rfl, _⟩ := h
    rfl
  · obtain ⟨a, p, sg, n, m, rfl, hst, hsg, hn, hn2, hm, hm2, k⟩ := h
    refine ⟨_, (pss_one (ps_ret (pe_lc (own := [("_law_k", 5)]) (g := (gName 5)) rfl sc_l_words.nd (pi_range1 rfl T.n_range (pa_cons (pe_op op_add pe_int (pe_call G_l_take (hr.mono (by decide)) rfl T.m_l_take T.F_l_take.kp T.b_l_take .nil pass0 (pa_cons (pv 0) (pa_cons (pv 1) (pa_cons (pv 3) pa_nil))))) pa_nil)) (blkOk_by (N := N_l_words) (sc := defScope s_l_words) (by decide +kernel)) (fun _ _ _ _ _ => (pg_name (i := 5) sc_l_words.nd rfl (Or.inl rfl))) (fun _ _ _ _ _ => pts_nil) (fun _ _ _ _ _ => (pe_call G_l_word (hr.mono (by decide)) rfl T.m_l_word T.F_l_word.kp T.b_l_word .nil pass0 (pa_cons (pv 0) (pa_cons (pv 1) (pa_cons (pv 2) (pa_cons (pv 4) pa_nil))))))))), ?_⟩
    refine ⟨_, rfl, _, rfl, _, rfl, a, p, n, rfl, hst, hn, by omega, fun H1 r x1 st1 r0 r1 => ⟨_, _, rfl, rfl, ?_⟩⟩
    refine ⟨_, rfl, by omega, by omega, fun D hD => lc_range (lo := 0) (n := (1 + r).toNat) (fun i H' => ∃ us : List (List Nat), us.length = i ∧ (∀ u ∈ us, Word sg u ∧ (u.length : Int) ≤ m) ∧ H' D = some (.lst (txts us)) ∧ Ex p H H' ∧ St K ns a H' p) ?_ ?_ ?_⟩
    · exact ⟨[], rfl, fun _ h => (nomatch h), upd_same, x1.trans (Ex.new _ hD), st1.same (Same.new _ hD)⟩
    · rintro i H2 hi ⟨us, rfl, hu, hDs, x2, st2⟩
      have nD := st1.ne hD
      have hD0 := x1.free hD nD
      refine ⟨rfl, ?_⟩
      refine ⟨_, rfl, _, rfl, _, rfl, _, rfl, a, p, sg, m, rfl, st2, hsg, hm, hm2, fun H3 u x3 st3 hw hl => ?_⟩
      refine ⟨_, x3 _ _ nD hDs, lt_size (by rw [txts, List.length_map]; omega), us ++ [u], by simp, ?_, ?_, (x2.trans x3).updNew hD0, hst.upd st3 ((x2.trans x3).updNew hD0) nD⟩
      · intro d hd
        rcases List.mem_append.mp hd with h | h
        · exact hu d h
        · rw [List.mem_singleton.mp h]; exact ⟨hw, hl⟩
      · rw [upd_same]; simp [txts]
    · rintro H2 ⟨us, hl, hu, hDs, x2, st2⟩
      have nD := st1.ne hD
      exact k _ D us x2 st2 (x1.free hD nD) nD hDs hu (by omega) (by omega)
end
end J


set_option Elab.async false
set_option linter.all false
set_option maxRecDepth 100000
set_option maxHeartbeats 4000000
namespace J
open PySem L2
abbrev Arc := Nat × List Nat × Nat
def arcHO (a : Arc) : HO := .tup [.int (a.1 : Int), .str (SX.S a.2.1), .int (a.2.2 : Int)]
def Arcs (H : Hp) (vs : List V) (as : List Arc) : Prop := vs.length = as.length ∧ ∀ (i : Nat) (a : Arc), as[i]? = some a → ∃ t, vs[i]? = some (V.ref t) ∧ H t = some (arcHO a)
theorem Arcs.same {H H' : Hp} {vs : List V} {as : List Arc} (h : Arcs H vs as) (s : Same H H') : Arcs H' vs as :=
  ⟨h.1, fun i a e => by obtain ⟨t, h1, h2⟩ := h.2 i a e; exact ⟨t, h1, s _ _ h2⟩⟩
theorem Arcs.ex {H H' : Hp} {p : Addr} {xs : List V} {vs : List V} {as : List Arc} (h : Arcs H vs as) (x : Ex p H H') (hp : H p = some (.lst xs)) : Arcs H' vs as :=
  ⟨h.1, fun i a e => by
    obtain ⟨t, h1, h2⟩ := h.2 i a e
    exact ⟨t, h1, x _ _ (fun z => by rw [z, hp] at h2; cases h2) h2⟩⟩
theorem Arcs.snoc {H : Hp} {vs : List V} {as : List Arc} {t : Addr} {a : Arc} (h : Arcs H vs as) (ht : H t = some (arcHO a)) : Arcs H (vs ++ [V.ref t]) (as ++ [a]) := by
  refine ⟨by simp [h.1], fun i b e => ?_⟩
  by_cases hi : i < as.length
  · rw [List.getElem?_append_left hi] at e
    rw [List.getElem?_append_left (by rw [h.1]; exact hi)]
    exact h.2 i b e
  · rw [List.getElem?_append_right (by omega)] at e
    have e0 : i - as.length = 0 := by
      have q := (List.getElem?_eq_some_iff.mp e).1
      simp at q
      omega
    rw [e0] at e
    cases e
    refine ⟨t, ?_, ht⟩
    rw [List.getElem?_append_right (by rw [h.1]; omega), h.1, e0]
    rfl
theorem Arcs.updL {H : Hp} {vs xs : List V} {as : List Arc} {p : Addr} {o : HO} (h : Arcs H vs as) (hp : H p = some (.lst xs)) : Arcs (upd H p o) vs as := h.ex (Ex.upd o) hp

theorem Arcs.nil (H : Hp) : Arcs H [] [] := ⟨rfl, fun i a e => by simp at e⟩
theorem ex_upd_lst {p : Addr} {H : Hp} {o : HO} : Ex p H (upd H p o) := Ex.upd o
def OkArc (sg : List Nat) (a : Arc) : Prop := a.1 ≤ 63 ∧ Word sg a.2.1 ∧ a.2.2 ≤ 63
def OkArcs (sg : List Nat) (as : List Arc) : Prop := 1 ≤ as.length ∧ as.length ≤ 13 ∧ (∀ a ∈ as, OkArc sg a) ∧ ∃ a : Arc, as[0]? = some a ∧ a.1 = 0
end J


set_option Elab.async false
set_option linter.all false
set_option maxRecDepth 100000
set_option maxHeartbeats 4000000
namespace J
open PySem L2

def spNumber : Sp := fun vs H Q _ => ∃ i lo hi : Int, vs = [.int i, .int lo, .int hi] ∧ ∀ b : Bool, (b = true ↔ lo ≤ i ∧ i ≤ hi) → Q (.bl b) H
def spSequence (K : PySem.W.Frag) : Sp := fun vs H Q _ => ∃ (a : Addr) (xs : List V) (lo hi : Int), vs = [.ref a, .int lo, .int hi] ∧ (H a = some (.lst xs) ∨ H a = some (.tup xs)) ∧ ∀ (H' : Hp) (b : Bool), Same H H' → (b = true ↔ lo ≤ xs.length ∧ xs.length ≤ hi) → Q (.bl b) H'
def spOver : Sp := fun vs H Q _ => ∃ (sg u : List Nat) (lo hi : Int), vs = [.str (SX.S sg), .str (SX.S u), .int lo, .int hi] ∧ lo ≤ u.length ∧ u.length ≤ hi ∧ hi ≤ 100000 ∧ (∀ c ∈ u, c ∈ sg) ∧ ∀ H' : Hp, Same H H' → Q (.bl true) H'
def spIsWord : Sp := fun vs H Q _ => ∃ (sg u : List Nat), vs = [.str (SX.S sg), .str (SX.S u)] ∧ Word sg u ∧ ∀ H' : Hp, Same H H' → Q (.bl true) H'
def spSigns : Sp := fun vs H Q _ => ∃ sg : List Nat, vs = [.str (SX.S sg)] ∧ Signs sg ∧ ∀ H' : Hp, Same H H' → Q (.bl true) H'
def spArc : Sp := fun vs H Q _ => ∃ (sg : List Nat) (t : Addr) (a : Arc), vs = [.str (SX.S sg), .ref t] ∧ H t = some (arcHO a) ∧ OkArc sg a ∧ ∀ H' : Hp, Same H H' → Q (.bl true) H'
def spState1 : Sp := fun vs H Q _ => ∃ i : Int, vs = [.int i] ∧ 0 ≤ i ∧ i ≤ 63 ∧ Q .non H
def spText1 : Sp := fun vs H Q _ => ∃ (sg u : List Nat), vs = [.str (SX.S sg), .str (SX.S u)] ∧ u.length ≤ 2000 ∧ (∀ c ∈ u, c ∈ sg) ∧ ∀ H' : Hp, Same H H' → Q .non H'
theorem rep_snoc (n : Nat) : (HO.lst ((List.replicate n true).map V.bl ++ [V.bl true])) = HO.lst ((List.replicate (n + 1) true).map V.bl) := by
  congr 1
  rw [List.replicate_succ']
  simp
theorem all_true {n : Nat} : (List.replicate n true).all id = true := by simp
section
variable {P : Program} {w : World} {K : PySem.W.Frag} {mg : Str → Option Value} {base : Heap}

theorem ok_is_number (T : Tx K mg) : FnOk P w K mg base CX0 1 T.f_is_number T.fd_is_number P_is_number spNumber := by
  refine T.F_is_number.ok sc_is_number (fun vs H Q E h => ?_) (fun cdv A outer s H vs Q E hr h => ?_)
  · obtain ⟨i, lo, hi, rfl, _⟩ := h
    rfl
  · obtain ⟨i, lo, hi, rfl, k⟩ := h
    refine ⟨_, (pss_one (ps_ret (pe_and (pe_callB (call_isiK' (K := K) rfl) rfl T.n_isinstance (by decide +kernel) (pa_cons (pv 0) (pa_cons (pe_bltn (v := V.ty "int") (u := .type "int") rfl T.n_int (by decide +kernel) rfl) pa_nil))) (pe_and (pe_not (pe_callB (call_isiK' (K := K) rfl) rfl T.n_isinstance (by decide +kernel) (pa_cons (pv 0) (pa_cons (pe_bltn (v := V.ty "bool") (u := .type "bool") rfl T.n_bool (by decide +kernel) rfl) pa_nil)))) (pe_one (pe_chain op_le op_le (pv 1) (pv 0) (pv 2))))))), ?_⟩
    refine ⟨_, rfl, _, _, _, _, true, rfl, .ty "int", .base (.int i), kit_ty (by decide +kernel), true, rfl, ?_⟩
    refine ⟨_, rfl, _, _, _, _, false, rfl, .ty "bool", .base (.int i), kit_ty (by decide +kernel), false, rfl, true, rfl, ?_⟩
    refine ⟨_, rfl, _, rfl, _, _, rfl, rfl, _, rfl, ?_⟩
    refine ite2 (fun c => ?_) (fun c => ?_)
    · refine ⟨_, rfl, _, _, rfl, rfl, k _ ?_⟩
      have c1 := of_decide_eq_true c
      constructor
      · intro h; exact ⟨c1, of_decide_eq_true h⟩
      · intro h; exact decide_eq_true h.2
    · refine k _ ?_
      constructor
      · intro h; cases h
      · intro h; exact absurd (decide_eq_true h.1) c

theorem ok_is_sequence (T : Tx K mg) : FnOk P w K mg base CX0 1 T.f_is_sequence T.fd_is_sequence P_is_sequence (spSequence K) := by
  refine T.F_is_sequence.ok sc_is_sequence (fun vs H Q E h => ?_) (fun cdv A outer s H vs Q E hr h => ?_)
  · obtain ⟨a, xs, lo, hi, rfl, _⟩ := h
    rfl
  · obtain ⟨a, xs, lo, hi, rfl, ha, k⟩ := h
    refine ⟨_, (pss_one (ps_ret (pe_and (pe_callB (call_isiTK (K := K) rfl) rfl T.n_isinstance (by decide +kernel) (pa_cons (pv 0) (pa_cons (pe_tup (pa_cons (pe_bltn (v := V.ty "list") (u := .type "list") rfl T.n_list (by decide +kernel) rfl) (pa_cons (pe_bltn (v := V.ty "tuple") (u := .type "tuple") rfl T.n_tuple (by decide +kernel) rfl) pa_nil))) pa_nil))) (pe_one (pe_chain op_le op_le (pv 1) (pe_callB (call_len_seqK (K := K) rfl) rfl T.n_len (by decide +kernel) (pa_cons (pv 0) pa_nil)) (pv 2)))))), ?_⟩
    refine ⟨_, rfl, le_size (by decide), fun t ht => ?_⟩
    have st := Same.new (.tup [V.ty "list", V.ty "tuple"]) ht
    have two : ∃ tv, TyX K (upd H t (.tup [V.ty "list", V.ty "tuple"])) (.ref a) tv ∧ PySem.W.kitAny K tv [.type "list", .type "tuple"] = some true := by
      rcases ha with ha | ha
      · exact ⟨_, .base (.lst (st _ _ ha)), kitAny_cons (b := true) (kit_ty (by decide +kernel)) (fun q => nomatch q) (fun _ => rfl)⟩
      · exact ⟨_, .base (.tup (st _ _ ha)), kitAny_cons (b := false) (kit_ty (by decide +kernel)) (fun _ => kitAny_cons (b := true) (kit_ty (by decide +kernel)) (fun q => nomatch q) (fun _ => rfl)) (fun q => nomatch q)⟩
    have one : SqL K (upd H t (.tup [V.ty "list", V.ty "tuple"])) a xs ∨ SqT K (upd H t (.tup [V.ty "list", V.ty "tuple"])) a xs := by
      rcases ha with ha | ha
      · exact .inl (SqL.of (st _ _ ha))
      · exact .inr (SqT.of (st _ _ ha))
    obtain ⟨tv, htv, hkt⟩ := two
    refine ⟨_, _, _, _, [.type "list", .type "tuple"], true, rfl, upd_same, .cons (.ty _) (.cons (.ty _) .nil), htv, hkt, true, rfl, ?_⟩
    refine ⟨_, rfl, _, rfl, a, xs, rfl, one, _, _, rfl, rfl, _, rfl, ?_⟩
    refine ite2 (fun c => ?_) (fun c => ?_)
    · refine ⟨_, rfl, _, _, rfl, rfl, k _ _ st ?_⟩
      have c1 := of_decide_eq_true c
      constructor
      · intro h; exact ⟨c1, of_decide_eq_true h⟩
      · intro h; exact decide_eq_true h.2
    · refine k _ _ st ?_
      constructor
      · intro h; cases h
      · intro h; exact absurd (decide_eq_true h.1) c

theorem ok_is_string_over (T : Tx K mg) : FnOk P w K mg base CX0 1 T.f_is_string_over T.fd_is_string_over P_is_string_over spOver := by
  refine T.F_is_string_over.ok sc_is_string_over (fun vs H Q E h => ?_) (fun cdv A outer s H vs Q E hr h => ?_)
  · obtain ⟨sg, u, lo, hi, rfl, _⟩ := h
    rfl
  · obtain ⟨sg, u, lo, hi, rfl, h1, h2, h3, hu, k⟩ := h
    refine ⟨_, (pss_cons (ps_if (PW.pt (pw_or (pt_not (pt_val (pe_callB (call_isiK' (K := K) rfl) rfl T.n_isinstance (by decide +kernel) (pa_cons (pv 1) (pa_cons (pe_bltn (v := V.ty "str") (u := .type "str") rfl T.n_str (by decide +kernel) rfl) pa_nil))))) (pw_or1 (pt_not (pt_chain op_le op_le (pv 2) (pe_callB call_len_str rfl T.n_len (by decide +kernel) (pa_cons (pv 1) pa_nil)) (pv 3)))))) (pss_one (ps_ret pe_bl)) pss_nil)
        (pss_one (ps_ret (pe_callB (cr_allK (K := K) rfl rfl) rfl T.n_all (by decide +kernel) (pa_cons (pe_lc (own := [("sign", 4)]) (g := (gName 4)) rfl sc_is_string_over.nd (pi_str (pv 1)) (blkOk_by (N := N_is_string_over) (sc := defScope s_is_string_over) (by decide +kernel)) (fun _ _ _ _ _ => (pg_name (i := 4) sc_is_string_over.nd rfl (Or.inl rfl))) (fun _ _ _ _ _ => pts_nil) (fun _ _ _ _ _ => (pe_cmpR op_in_sign (pv 4) (pv 0) rfl))) pa_nil))))), ?_⟩
    have hl : (SX.S u).length ≤ sizeLine := le_size (by rw [SX.S_len]; omega)
    refine ⟨_, rfl, _, _, _, _, true, rfl, .ty "str", .base (.str _), kit_ty (by decide +kernel), true, rfl, ?_⟩
    have e : ((SX.S u).length : Int) = u.length := by rw [SX.S_len]
    refine ⟨_, rfl, _, rfl, _, rfl, hl, _, _, rfl, rfl, true, congrArg V.bl (decide_eq_true (by rw [e]; exact h1)), ?_⟩
    refine ⟨_, rfl, _, _, rfl, rfl, true, congrArg V.bl (decide_eq_true (by rw [e]; exact h2)), ?_⟩
    refine ⟨_, rfl, _, rfl, fun D hD => lc_it (walk_str (z := SX.S u)) (fun i H' => H' D = some (.lst ((List.replicate i true).map V.bl)) ∧ Same H H') ⟨upd_same, Same.new _ hD⟩ (fun _ _ _ _ => trivial) ?_ ?_⟩
    · rintro i x H1 H2 hi ⟨hDl, sm⟩ ⟨rfl, c, hc, rfl⟩
      have hcu : c ∈ u := by
        have q : u[i]? = some c := by simpa using hc
        exact List.mem_of_getElem? q
      have hi2 : i ≤ 100000 := by
        have q : i < (SX.S u).length := hi
        rw [SX.S_len] at q
        omega
      refine ⟨rfl, _, rfl, _, rfl, c, _, rfl, rfl, _, hDl, lt_size (by simp; exact hi2), ?_, sm.updNew hD⟩
      rw [upd_same, decide_eq_true (by simpa using hu c hcu), rep_snoc]
    · rintro H1 ⟨hDl, sm⟩
      refine ⟨D, _, rfl, SqL.of hDl, ?_⟩
      rw [all_true]
      exact k _ sm

theorem ok_is_word (T : Tx K mg) : FnOk P w K mg base CX0 2 T.f_is_word T.fd_is_word P_is_word spIsWord := by
  have G_is_string_over : FnOk P w K mg base CX0 1 T.f_is_string_over T.fd_is_string_over P_is_string_over spOver := ok_is_string_over T
  refine T.F_is_word.ok sc_is_word (fun vs H Q E h => ?_) (fun cdv A outer s H vs Q E hr h => ?_)
  · obtain ⟨sg, u, rfl, _⟩ := h
    rfl
  · obtain ⟨sg, u, rfl, ⟨h1, h2, h3⟩, k⟩ := h
    refine ⟨_, (pss_one (ps_ret (pe_call G_is_string_over (hr.mono (by decide)) rfl T.m_is_string_over T.F_is_string_over.kp T.b_is_string_over .nil pass0 (pa_cons (pv 0) (pa_cons (pv 1) (pa_cons pe_int (pa_cons (pe_glob (v := V.int 12) rfl T.g_LONGEST_WORD ⟨_, rfl⟩) pa_nil))))))), ?_⟩
    exact ⟨_, rfl, _, rfl, sg, u, 1, 12, rfl, by omega, by omega, by omega, h3, k⟩
theorem ok_is_arc (T : Tx K mg) : FnOk P w K mg base CX0 3 T.f_is_arc T.fd_is_arc P_is_arc spArc := by
  have G_is_number : FnOk P w K mg base CX0 1 T.f_is_number T.fd_is_number P_is_number spNumber := ok_is_number T
  have G_is_word : FnOk P w K mg base CX0 2 T.f_is_word T.fd_is_word P_is_word spIsWord := ok_is_word T
  refine T.F_is_arc.ok sc_is_arc (fun vs H Q E h => ?_) (fun cdv A outer s H vs Q E hr h => ?_)
  · obtain ⟨sg, t, a, rfl, _⟩ := h
    rfl
  · obtain ⟨sg, t, ⟨s1, u, g1⟩, rfl, ht, ⟨hs, hw, hg⟩, k⟩ := h
    refine ⟨_, (pss_cons (ps_if (PW.pt (pw_or (pt_not (pt_val (pe_callB (call_isiK' (K := K) rfl) rfl T.n_isinstance (by decide +kernel) (pa_cons (pv 1) (pa_cons (pe_bltn (v := V.ty "tuple") (u := .type "tuple") rfl T.n_tuple (by decide +kernel) rfl) pa_nil))))) (pw_or1 (pt_cmpR op_ne (pe_callB (call_len_seqK (K := K) rfl) rfl T.n_len (by decide +kernel) (pa_cons (pv 1) pa_nil)) pe_int (nomark _))))) (pss_one (ps_ret pe_bl)) pss_nil)
        (pss_cons (ps_asg (pv 1) (pg_tup rfl (pgs_cons (pg_name (i := 2) sc_is_arc.nd rfl (Or.inl rfl)) (pgs_cons (pg_name (i := 3) sc_is_arc.nd rfl (Or.inl rfl)) (pgs_cons (pg_name (i := 4) sc_is_arc.nd rfl (Or.inl rfl)) pgs_nil)))))
        (pss_one (ps_ret (pe_and (pe_call G_is_number (hr.mono (by decide)) rfl T.m_is_number T.F_is_number.kp T.b_is_number .nil pass0 (pa_cons (pv 2) (pa_cons pe_int (pa_cons (pe_glob (v := V.int 63) rfl T.g_LAST_STATE ⟨_, rfl⟩) pa_nil)))) (pe_and (pe_call G_is_word (hr.mono (by decide)) rfl T.m_is_word T.F_is_word.kp T.b_is_word .nil pass0 (pa_cons (pv 0) (pa_cons (pv 3) pa_nil))) (pe_one (pe_call G_is_number (hr.mono (by decide)) rfl T.m_is_number T.F_is_number.kp T.b_is_number .nil pass0 (pa_cons (pv 4) (pa_cons pe_int (pa_cons (pe_glob (v := V.int 63) rfl T.g_LAST_STATE ⟨_, rfl⟩) pa_nil))))))))))), ?_⟩
    refine ⟨_, rfl, _, _, _, _, true, rfl, .ty "tuple", .base (.tup ht), kit_ty (by decide +kernel), true, rfl, ?_⟩
    refine ⟨_, rfl, t, _, rfl, .inr (SqT.of ht), rfl, false, rfl, ?_⟩
    refine ⟨_, rfl, t, _, rfl, SqT.of ht, rfl, ?_⟩
    have e1 : (0 : Int) ≤ ((s1 : Nat) : Int) ∧ ((s1 : Nat) : Int) ≤ 63 := by omega
    have e2 : (0 : Int) ≤ ((g1 : Nat) : Int) ∧ ((g1 : Nat) : Int) ≤ 63 := by have hg' : g1 ≤ 63 := hg; omega
    refine ⟨_, _, rfl, _, _, rfl, _, _, rfl, rfl, ?_⟩
    refine ⟨_, rfl, _, 0, 63, rfl, fun b hb => ⟨b, rfl, ?_⟩⟩
    rw [hb.mpr e1]
    refine ⟨_, rfl, _, rfl, sg, u, rfl, hw, fun H' sm => ⟨true, rfl, ?_⟩⟩
    refine ⟨_, rfl, _, 0, 63, rfl, fun b hb => ?_⟩
    rw [hb.mpr e2]
    exact k H' sm
end
end J


set_option Elab.async false
set_option linter.all false
set_option maxRecDepth 100000
set_option maxHeartbeats 4000000
namespace J
open PySem L2

theorem walk_zipS {x y : Str} : Walk (ItzS x y) (min x.cps.size y.cps.size) (fun _ => True) (fun i H v H' => ∃ T c d, v = .ref T ∧ H T = none ∧ H' = upd H T (.tup [.str ⟨#[c]⟩, .str ⟨#[d]⟩]) ∧ x.cps[i]? = some c ∧ y.cps[i]? = some d) :=
  ⟨fun _ _ h _ => h, fun _ _ => rfl, fun _ _ _ _ _ _ h => h⟩
theorem one_lt {c d : Nat} : ([c] < ([d] : List Nat)) ↔ c < d := by
  rw [List.cons_lt_cons_iff]
  constructor
  · rintro (h | ⟨_, h⟩)
    · exact h
    · exact absurd h (List.lt_irrefl _)
  · exact .inl
theorem signs_le {sg : List Nat} (h : Signs sg) : ∀ c ∈ sg, (!decide ([c] < ([97] : List Nat))) = true ∧ (!decide (([122] : List Nat) < [c])) = true := fun c hc => by
  obtain ⟨h1, h2⟩ := h.2.2.1 c hc
  rw [decide_eq_false (fun z => by rw [one_lt] at z; omega), decide_eq_false (fun z => by rw [one_lt] at z; omega)]
  exact ⟨rfl, rfl⟩
theorem signs_pair {sg : List Nat} (h : Signs sg) {i c d : Nat} (h1 : sg[i]? = some c) (h2 : (sg.drop 1)[i]? = some d) : decide ([c] < [d]) = true := by
  rw [List.getElem?_drop] at h2
  obtain ⟨l1, e1⟩ := List.getElem?_eq_some_iff.mp h1
  obtain ⟨l2, e2⟩ := List.getElem?_eq_some_iff.mp h2
  refine decide_eq_true (one_lt.mpr ?_)
  rw [← e1, ← e2]
  exact List.pairwise_iff_getElem.mp h.2.2.2 i (1 + i) l1 l2 (by omega)
section
variable {P : Program} {w : World} {K : PySem.W.Frag} {mg : Str → Option Value} {base : Heap}

theorem ok_is_signs (T : Tx K mg) : FnOk P w K mg base CX0 1 T.f_is_signs T.fd_is_signs P_is_signs spSigns := by
  refine T.F_is_signs.ok sc_is_signs (fun vs H Q E h => ?_) (fun cdv A outer s H vs Q E hr h => ?_)
  · obtain ⟨sg, rfl, _⟩ := h
    rfl
  · obtain ⟨sg, rfl, hsg, k⟩ := h
    refine ⟨_, (pss_cons (ps_if (PW.pt (pw_or (pt_not (pt_val (pe_callB (call_isiK' (K := K) rfl) rfl T.n_isinstance (by decide +kernel) (pa_cons (pv 0) (pa_cons (pe_bltn (v := V.ty "str") (u := .type "str") rfl T.n_str (by decide +kernel) rfl) pa_nil))))) (pw_or1 (pt_not (pt_chain op_le op_le pe_int (pe_callB call_len_str rfl T.n_len (by decide +kernel) (pa_cons (pv 0) pa_nil)) (pe_glob (v := V.int 4) rfl T.g_MOST_SIGNS ⟨_, rfl⟩)))))) (pss_one (ps_ret pe_bl)) pss_nil)
        (pss_cons (ps_set (i := 1) sc_is_signs.nd rfl (Or.inl rfl) (pe_callB (cr_allK (K := K) rfl rfl) rfl T.n_all (by decide +kernel) (pa_cons (pe_lc (own := [("sign", 2)]) (g := (gName 2)) rfl sc_is_signs.nd (pi_str (pv 0)) (blkOk_by (N := N_is_signs) (sc := defScope s_is_signs) (by decide +kernel)) (fun _ _ _ _ _ => (pg_name (i := 2) sc_is_signs.nd rfl (Or.inl rfl))) (fun _ _ _ _ _ => pts_nil) (fun _ _ _ _ _ => (pe_chain op_le_str op_le_str pe_str (pv 2) pe_str))) pa_nil)))
        (pss_one (ps_ret (pe_and (pv 1) (pe_one (pe_callB (cr_allK (K := K) rfl rfl) rfl T.n_all (by decide +kernel) (pa_cons (pe_lc (own := [("one", 3), ("other", 4)]) (g := (gTup K 2 (gCons (gName 3) (gCons (gName 4) gNil)))) rfl sc_is_signs.nd (pi_zipS rfl T.n_zip (pa_cons (pv 0) (pa_cons (pe_slice sl_str (pv 0) (po_some pe_int) po_none) pa_nil))) (blkOk_by (N := N_is_signs) (sc := defScope s_is_signs) (by decide +kernel)) (fun _ _ _ _ _ => (pg_tup rfl (pgs_cons (pg_name (i := 3) sc_is_signs.nd rfl (Or.inl rfl)) (pgs_cons (pg_name (i := 4) sc_is_signs.nd rfl (Or.inl rfl)) pgs_nil)))) (fun _ _ _ _ _ => pts_nil) (fun _ _ _ _ _ => (pe_cmpR op_lt_str (pv 3) (pv 4) (nomark _)))) pa_nil)))))))), ?_⟩
    have hlen := hsg.len
    have hl : (SX.S sg).length ≤ sizeLine := le_size (by rw [SX.S_len]; omega)
    have e : ((SX.S sg).length : Int) = sg.length := by rw [SX.S_len]
    refine ⟨_, rfl, _, _, _, _, true, rfl, .ty "str", .base (.str _), kit_ty (by decide +kernel), true, rfl, ?_⟩
    refine ⟨_, rfl, _, rfl, hl, _, _, rfl, rfl, true, congrArg V.bl (decide_eq_true (by rw [e]; omega)), ?_⟩
    refine ⟨_, _, rfl, rfl, true, congrArg V.bl (decide_eq_true (by rw [e]; omega)), ?_⟩
    refine ⟨_, rfl, _, rfl, fun D hD => lc_it (walk_str (z := SX.S sg)) (fun i H' => H' D = some (.lst ((List.replicate i true).map V.bl)) ∧ Same H H') ⟨upd_same, Same.new _ hD⟩ (fun _ _ _ _ => trivial) ?_ ?_⟩
    · rintro i x H1 H2 hi ⟨hDl, sm⟩ ⟨rfl, c, hc, rfl⟩
      have hcu : c ∈ sg := by
        have q : sg[i]? = some c := by simpa using hc
        exact List.mem_of_getElem? q
      have hi2 : i ≤ 100000 := by
        have q : i < (SX.S sg).length := hi
        rw [SX.S_len] at q
        omega
      obtain ⟨l1, l2⟩ := signs_le hsg c hcu
      refine ⟨rfl, _, rfl, _, _, rfl, rfl, true, congrArg V.bl l1, _, _, rfl, rfl, _, hDl, lt_size (by simp; exact hi2), ?_, sm.updNew hD⟩
      rw [upd_same]
      show some (HO.lst (_ ++ [V.bl (!decide (([122] : List Nat) < [c]))])) = _
      rw [l2, rep_snoc]
    · rintro H1 ⟨hDl, sm⟩
      refine ⟨D, _, rfl, SqL.of hDl, ?_⟩
      rw [all_true]
      refine ⟨_, rfl, true, rfl, ?_⟩
      refine ⟨_, rfl, _, rfl, _, rfl, _, rfl, hl, ?_⟩
      rw [C8.cutS_slice, SX.slice_from (by decide)]
      refine ⟨_, _, rfl, fun D2 hD2 => lc_it (walk_zipS (x := SX.S sg) (y := SX.S (sg.drop 1))) (fun i H' => H' D2 = some (.lst ((List.replicate i true).map V.bl)) ∧ Same H H') ⟨upd_same, sm.trans (Same.new _ hD2)⟩ (fun _ _ _ _ => trivial) ?_ ?_⟩
      · rintro i x H2 H3 hi ⟨hDl2, sm2⟩ ⟨t, c, d, rfl, ht, rfl, hc, hd⟩
        have hcu : sg[i]? = some c := by simpa using hc
        have hdu : (sg.drop 1)[i]? = some d := by simpa using hd
        have hi2 : i ≤ 100000 := by
          have q := (List.getElem?_eq_some_iff.mp hcu).1
          omega
        have nt : D2 ≠ t := fun z => hp_ne hDl2 ht z.symm
        refine ⟨t, _, rfl, SqT.of upd_same, rfl, _, _, rfl, _, _, rfl, rfl, rfl, _, rfl, _, rfl, _, _, rfl, rfl, _, by rw [upd_ne nt]; exact hDl2, lt_size (by simp; exact hi2), ?_, (sm2.trans (Same.new _ ht)).updNew (sm.free hD2)⟩
        rw [upd_same]
        show some (HO.lst (_ ++ [V.bl (decide ([c] < [d]))])) = _
        rw [signs_pair hsg hcu hdu, rep_snoc]
      · rintro H2 ⟨hDl2, sm2⟩
        refine ⟨D2, _, rfl, SqL.of hDl2, ?_⟩
        rw [all_true]
        exact k _ sm2
end
end J


set_option Elab.async false
set_option linter.all false
set_option maxRecDepth 100000
set_option maxHeartbeats 4000000
namespace J
open PySem L2
/-- arcs that a loom may have -/
def OkW (sg : List Nat) (as : List Arc) : Prop := 1 ≤ as.length ∧ as.length ≤ 200 ∧ ∀ a ∈ as, OkArc sg a
theorem OkArcs.w {sg : List Nat} {as : List Arc} (h : OkArcs sg as) : OkW sg as := ⟨h.1, by have := h.2.1; omega, h.2.2.1⟩
/-- a loom's fields -/
def lf (sg : List Nat) (T : Addr) : List (Str × V) := putF "arcs" (.ref T) (putF "signs" (.str (SX.S sg)) [])
theorem ne_sa : ¬ (("signs" : Str) = "arcs") := by decide +kernel
theorem lf_signs (sg : List Nat) (T : Addr) : (lf sg T).lookup ("signs" : Str) = some (.str (SX.S sg)) := by
  unfold lf
  rw [lookup_putF, if_neg ne_sa, lookup_putF, if_pos rfl]
theorem lf_arcs (sg : List Nat) (T : Addr) : (lf sg T).lookup ("arcs" : Str) = some (.ref T) := by
  unfold lf
  rw [lookup_putF, if_pos rfl]
/-- a loom stands at p -/
def LoomAt (C : Addr) (H : Hp) (p : Addr) (sg : List Nat) (us : List V) (as : List Arc) : Prop := ∃ dx T, H p = some (.ins C dx (lf sg T)) ∧ H T = some (.tup us) ∧ Arcs H us as ∧ OkW sg as ∧ Signs sg
def spInit (C : Addr) : Sp := fun vs H Q _ => ∃ (p dx a : Addr) (sg : List Nat) (us : List V) (as : List Arc), vs = [.ref p, .str (SX.S sg), .ref a] ∧ H p = some (.ins C dx []) ∧ H a = some (.lst us) ∧ Arcs H us as ∧ OkW sg as ∧ Signs sg ∧
  ∀ (H' : Hp) (T : Addr), Ex p H H' → H T = none → H' T = some (.tup us) → H' p = some (.ins C dx (lf sg T)) → Q .non H'
theorem take_snoc {α : Type} {l : List α} {i : Nat} {x : α} (h : l[i]? = some x) : l.take i ++ [x] = l.take (i + 1) := by
  rw [List.take_add_one, h]
  rfl
def spChkSigns : Sp := fun vs H Q _ => ∃ sg : List Nat, vs = [.str (SX.S sg)] ∧ Signs sg ∧ ∀ H', Same H H' → Q .non H'
section
variable {P : Program} {w : World} {K : PySem.W.Frag} {mg : Str → Option Value} {base : Heap}
theorem ok_check_signs (T : Tx K mg) : FnOk P w K mg base CX0 2 T.f_check_signs T.fd_check_signs P_check_signs spChkSigns := by
  have G_is_signs : FnOk P w K mg base CX0 1 T.f_is_signs T.fd_is_signs P_is_signs spSigns := ok_is_signs T
  refine T.F_check_signs.ok sc_check_signs (fun vs H Q E h => ?_) (fun cdv A outer s H vs Q E hr h => ?_)
  · obtain ⟨sg, rfl, _⟩ := h
    rfl
  · obtain ⟨sg, rfl, hsg, k⟩ := h
    refine ⟨_, (pss_one (ps_if (pt_not (pt_val (pe_call G_is_signs (hr.mono (by decide)) rfl T.m_is_signs T.F_is_signs.kp T.b_is_signs .nil pass0 (pa_cons (pv 0) pa_nil)))) (pss_one ps_never) pss_nil)), ?_⟩
    refine ⟨_, rfl, sg, rfl, hsg, fun H1 s1 => ⟨true, rfl, ?_⟩⟩
    exact k _ s1
theorem ok_Loom_init (T : Tx K mg) : FnOk P w K mg base CX0 4 T.f_Loom_init T.fd_Loom_init P_Loom_init (spInit T.C_Loom) := by
  have G_check_signs : FnOk P w K mg base CX0 2 T.f_check_signs T.fd_check_signs P_check_signs spChkSigns := ok_check_signs T
  have G_is_sequence : FnOk P w K mg base CX0 1 T.f_is_sequence T.fd_is_sequence P_is_sequence (spSequence K) := ok_is_sequence T
  have G_is_arc : FnOk P w K mg base CX0 3 T.f_is_arc T.fd_is_arc P_is_arc spArc := ok_is_arc T
  refine T.F_Loom_init.ok sc_Loom_init (fun vs H Q E h => ?_) (fun cdv A outer s H vs Q E hr h => ?_)
  · obtain ⟨p, dx, a, sg, us, as, rfl, _⟩ := h
    rfl
  · obtain ⟨p, dx, a, sg, us, as, rfl, hp, ha, harc, hok, hsg, k⟩ := h
    refine ⟨_, (pss_cons (ps_expr (pe_call G_check_signs (hr.mono (by decide)) rfl T.m_check_signs T.F_check_signs.kp T.b_check_signs .nil pass0 (pa_cons (pv 1) pa_nil)))
        (pss_cons (ps_if (pt_not (pt_val (pe_call G_is_sequence (hr.mono (by decide)) rfl T.m_is_sequence T.F_is_sequence.kp T.b_is_sequence .nil pass0 (pa_cons (pv 2) (pa_cons pe_int (pa_cons (pe_glob (v := V.int 200) rfl T.g_MOST_ARCS ⟨_, rfl⟩) pa_nil)))))) (pss_one ps_never) pss_nil)
        (pss_cons (ps_for PassesOwn.never rfl (pi_enum rfl T.n_enumerate (pa_cons (pv 2) pa_nil)) (pg_tup rfl (pgs_cons (pg_name (i := 3) sc_Loom_init.nd rfl (Or.inl rfl)) (pgs_cons (pg_name (i := 4) sc_Loom_init.nd rfl (Or.inl rfl)) pgs_nil))) (pss_one (ps_if (pt_not (pt_val (pe_call G_is_arc (hr.mono (by decide)) rfl T.m_is_arc T.F_is_arc.kp T.b_is_arc .nil pass0 (pa_cons (pv 1) (pa_cons (pv 4) pa_nil))))) (pss_one ps_never) pss_nil)))
        (pss_cons (ps_fld (pv 0) (pv 1) rfl)
        (pss_one (ps_fld (pv 0) (pe_callTy (call_tuple_ofK (K := K) rfl) rfl T.n_tuple (by decide +kernel) (pa_cons (pe_lc (own := [("arc", 4)]) (g := (gName 4)) rfl sc_Loom_init.nd (pi_list (pv 2)) (blkOk_by (N := N_Loom_init) (sc := defScope s_Loom_init) (by decide +kernel)) (fun _ _ _ _ _ => (pg_name (i := 4) sc_Loom_init.nd rfl (Or.inl rfl))) (fun _ _ _ _ _ => pts_nil) (fun _ _ _ _ _ => (pe_callTy (call_tuple_ofK (K := K) rfl) rfl T.n_tuple (by decide +kernel) (pa_cons (pv 4) pa_nil)))) pa_nil)) rfl)))))), ?_⟩
    refine ⟨_, rfl, sg, rfl, hsg, fun H1 s1 => ?_⟩
    refine ⟨_, rfl, a, us, 1, 200, rfl, .inl (s1 _ _ ha), fun H2 b s2 hb => ⟨b, rfl, ?_⟩⟩
    have hl := hok.2.1
    have hl0 := hok.1
    have hl2 := harc.1
    rw [hb.mpr ⟨by omega, by omega⟩]
    have s12 := s1.trans s2
    refine ⟨_, rfl, a, us, rfl, SqL.of (s12 _ _ ha), for_it walk_enum (fun i σ H' => ∃ v3 v4, σ = [some (.ref p), some (.str (SX.S sg)), some (.ref a), v3, v4] ∧ Same H H') ⟨_, _, rfl, s12⟩ (fun i σ H' _ ⟨_, _, _, sm⟩ => SqL.of (sm _ _ ha)) ?_ ?_⟩
    · rintro i x σ H3 H4 hi ⟨v3, v4, rfl, s3⟩ ⟨tp, x1, y1, rfl, ht, rfl, hx1, hy1⟩
      cases hx1
      have hia : i < as.length := by omega
      obtain ⟨t, hut, htt⟩ := harc.2 i as[i] (List.getElem?_eq_getElem hia)
      replace hy1 : us[i]? = some y1 := hy1
      rw [hut] at hy1
      cases hy1
      have sn := Same.new (.tup [V.int (i : Int), .ref t]) ht
      refine ⟨tp, _, rfl, SqT.of upd_same, rfl, _, _, rfl, _, _, rfl, rfl, ?_⟩
      refine ⟨_, rfl, _, rfl, sg, t, as[i], rfl, sn _ _ (s3 _ _ htt), hok.2.2 _ (List.getElem_mem hia), fun H5 s5 => ⟨true, rfl, ?_⟩⟩
      exact ⟨_, _, rfl, s3.trans (sn.trans s5)⟩
    · rintro σ H3 ⟨v3, v4, rfl, s3⟩
      have hp3 := s3 _ _ hp
      refine ⟨_, rfl, _, rfl, p, _, dx, _, rfl, hp3, T.cl_Loom, T.na_Loom_signs, (by show 0 < 1000; decide), ?_⟩
      have x3 : Ex p H (upd H3 p (.ins T.C_Loom dx (putF "signs" (.str (SX.S sg)) []))) := (Same.ex s3).trans (Ex.upd _)
      have nap : a ≠ p := fun z => by rw [z, hp] at ha; cases ha
      refine ⟨_, rfl, a, rfl, ⟨_, SqL.of (x3 _ _ nap ha)⟩, fun D hD => lc_list (K := K) (a := a) (xs := us) (fun i H' => H' D = some (.lst (us.take i)) ∧ Ex p H H' ∧ H' p = some (.ins T.C_Loom dx (putF "signs" (.str (SX.S sg)) []))) ?_ ?_ ?_ ?_⟩
      · have nDp : D ≠ p := hp_ne upd_same hD
        exact ⟨upd_same, x3.trans (Ex.new _ hD), by rw [upd_ne nDp.symm]; exact upd_same⟩
      · rintro i H4 hi ⟨_, x4, _⟩
        exact SqL.of (x4 _ _ nap ha)
      · rintro i y H4 hy ⟨hDl, x4, hp4⟩
        have hia : i < us.length := (List.getElem?_eq_some_iff.mp hy).1
        obtain ⟨t, hut, htt⟩ := harc.2 i as[i] (List.getElem?_eq_getElem (by omega))
        rw [hut] at hy
        cases hy
        have ntp : t ≠ p := fun z => by rw [z, hp] at htt; cases htt
        have nDp : D ≠ p := hp_ne upd_same hD
        refine ⟨rfl, _, rfl, t, _, rfl, .inr ⟨SqT.of (x4 _ _ ntp htt), _, hDl, lt_size (by simp; omega), ?_, x4.updNew (x3.free hD nDp), by rw [upd_ne nDp.symm]; exact hp4⟩⟩
        rw [upd_same, take_snoc hut]
      · rintro H4 ⟨hDl, x4, hp4⟩
        rw [List.take_length] at hDl
        refine ⟨D, us, rfl, .inl ⟨SqL.of hDl, fun T1 hT1 => ?_⟩⟩
        have nT : T1 ≠ p := hp_ne hp4 hT1
        refine ⟨_, rfl, p, _, dx, _, rfl, by rw [upd_ne nT.symm]; exact hp4, T.cl_Loom, T.na_Loom_arcs, (by show 1 < 1000; decide), ?_⟩
        exact k _ T1 ((x4.trans (Ex.new _ hT1)).trans (Ex.upd _)) (x4.free hT1 nT) (by rw [upd_ne nT]; exact upd_same) upd_same
end
end J


set_option Elab.async false
set_option linter.all false
set_option maxRecDepth 100000
set_option maxHeartbeats 4000000
namespace J
open PySem L2
theorem pi_or {X : Cx} {tg l : Expr} {ti tj : TI} (h1 : PI X tg l ti) (h2 : PI X tg l tj) : PI X tg l (fun σ H R => ti σ H R ∨ tj σ H R) := ⟨fun pins s σ H R I h => h.elim (h1.run pins s σ H R I) (h2.run pins s σ H R I)⟩
/-- the arcs of a book -/
def bka (ws : List (List Nat)) : List Arc := ws.map fun u => (0, u, 0)
theorem bka_len (ws : List (List Nat)) : (bka ws).length = ws.length := by simp [bka]
theorem bka_ok {sg : List Nat} {ws : List (List Nat)} (h1 : 1 ≤ ws.length) (h2 : ws.length ≤ 200) (h : ∀ u ∈ ws, Word sg u) : OkW sg (bka ws) := by
  refine ⟨by rw [bka_len]; exact h1, by rw [bka_len]; exact h2, fun a ha => ?_⟩
  obtain ⟨u, hu, rfl⟩ := List.mem_map.mp ha
  exact ⟨Nat.zero_le _, h u hu, Nat.zero_le _⟩
theorem LoomAt.same {C : Addr} {H H' : Hp} {p : Addr} {sg : List Nat} {us : List V} {as : List Arc} (h : LoomAt C H p sg us as) (s : Same H H') : LoomAt C H' p sg us as := by
  obtain ⟨dx, T, h1, h2, h3, h4, h5⟩ := h
  exact ⟨dx, T, s _ _ h1, s _ _ h2, h3.same s, h4, h5⟩
/-- a list or a tuple -/
def Seq (H : Hp) (a : Addr) (xs : List V) : Prop := H a = some (.lst xs) ∨ H a = some (.tup xs)
theorem Seq.same {H H' : Hp} {a : Addr} {xs : List V} (h : Seq H a xs) (s : Same H H') : Seq H' a xs := h.imp (s _ _) (s _ _)
def spBook (C : Addr) : Sp := fun vs H Q _ => ∃ (a : Addr) (sg : List Nat) (ws : List (List Nat)), vs = [.str (SX.S sg), .ref a] ∧ Seq H a (txts ws) ∧ Signs sg ∧ 1 ≤ ws.length ∧ ws.length ≤ 200 ∧ (∀ u ∈ ws, Word sg u) ∧
  ∀ H' (q : Addr) us, Same H H' → H q = none → LoomAt C H' q sg us (bka ws) → Q (.ref q) H'
def kdB (as : List Arc) : Bool := as.all fun a => a.1 == 0 && a.2.2 == 0
def spIsBook (K : PySem.W.Frag) (C : Addr) : Sp := fun vs H Q _ => ∃ v, vs = [v] ∧ ((∃ (q : Addr) (sg : List Nat) (us : List V) (as : List Arc), v = .ref q ∧ LoomAt C H q sg us as ∧ ∀ H', Same H H' → Q (.bl (kdB as)) H') ∨
  (∃ t, TyZ K H v t ∧ PySem.W.kitOne K t (.ref C) = some false ∧ Q (.bl false) H))
def spChkBook (C : Addr) : Sp := fun vs H Q _ => ∃ (q : Addr) (sg : List Nat) (us : List V) (as : List Arc), vs = [.ref q] ∧ LoomAt C H q sg us as ∧ kdB as = true ∧ ∀ H', Same H H' → Q .non H'
def spPWords (C : Addr) : Sp := fun vs H Q _ => ∃ (q : Addr) (sg : List Nat) (us : List V) (ws : List (List Nat)), vs = [.ref q] ∧ LoomAt C H q sg us (bka ws) ∧
  ∀ H' (r : Addr), Same H H' → H r = none → H' r = some (.lst (txts ws)) → Q (.ref r) H'
theorem kd_book (ws : List (List Nat)) : kdB (bka ws) = true := by simp [kdB, bka]
theorem kit_self {K : PySem.W.Frag} (t : Value) : PySem.W.kitOne K t t = some true := by unfold PySem.W.kitOne; simp
theorem all_map_bl (l : List Bool) : (l.map V.bl).length = l.length := List.length_map _
theorem txt_at {ws : List (List Nat)} {i : Nat} {y : V} (h : (txts ws)[i]? = some y) : ∃ u, ws[i]? = some u ∧ y = .str (SX.S u) := by
  rw [txts, List.getElem?_map] at h
  obtain ⟨u, hu, e⟩ := Option.map_eq_some_iff.mp h
  exact ⟨u, hu, e.symm⟩
theorem nat_zero (n : Nat) : decide (V.int (n : Int) = V.int 0) = (n == 0) := by
  by_cases h : n = 0
  · subst h; rfl
  · rw [decide_eq_false (fun z => h (by injection z with z; omega))]
    exact (beq_false_of_ne h).symm
section
variable {P : Program} {w : World} {K : PySem.W.Frag} {mg : Str → Option Value} {base : Heap}
theorem ok_book (T : Tx K mg) : FnOk P w K mg base CX0 6 T.f_book T.fd_book P_book (spBook T.C_Loom) := by
  have G_check_signs : FnOk P w K mg base CX0 2 T.f_check_signs T.fd_check_signs P_check_signs spChkSigns := ok_check_signs T
  have G_is_sequence : FnOk P w K mg base CX0 1 T.f_is_sequence T.fd_is_sequence P_is_sequence (spSequence K) := ok_is_sequence T
  have G_Loom_init : FnOk P w K mg base CX0 4 T.f_Loom_init T.fd_Loom_init P_Loom_init (spInit T.C_Loom) := ok_Loom_init T
  refine T.F_book.ok sc_book (fun vs H Q E h => ?_) (fun cdv A outer s H vs Q E hr h => ?_)
  · obtain ⟨a, sg, ws, rfl, _⟩ := h
    rfl
  · obtain ⟨a, sg, ws, rfl, ha, hsg, h1, h2, hw, k⟩ := h
    refine ⟨_, (pss_cons (ps_expr (pe_call G_check_signs (hr.mono (by decide)) rfl T.m_check_signs T.F_check_signs.kp T.b_check_signs .nil pass0 (pa_cons (pv 0) pa_nil)))
        (pss_cons (ps_if (pt_not (pt_val (pe_call G_is_sequence (hr.mono (by decide)) rfl T.m_is_sequence T.F_is_sequence.kp T.b_is_sequence .nil pass0 (pa_cons (pv 1) (pa_cons pe_int (pa_cons (pe_glob (v := V.int 200) rfl T.g_MOST_ARCS ⟨_, rfl⟩) pa_nil)))))) (pss_one ps_never) pss_nil)
        (pss_one (ps_ret (pe_make T.M_Loom G_Loom_init (hr.mono (by decide)) rfl T.g_Loom T.b_Loom_init .nil pass0 (pa_cons (pv 0) (pa_cons (pe_lc (own := [("word", 2)]) (g := (gName 2)) rfl sc_book.nd (pi_or (pi_list (pv 1)) (pi_tup (pv 1))) (blkOk_by (N := N_book) (sc := defScope s_book) (by decide +kernel)) (fun _ _ _ _ _ => (pg_name (i := 2) sc_book.nd rfl (Or.inl rfl))) (fun _ _ _ _ _ => pts_nil) (fun _ _ _ _ _ => (pe_tup (pa_cons pe_int (pa_cons (pv 2) (pa_cons pe_int pa_nil)))))) pa_nil))))))), ?_⟩
    refine ⟨_, rfl, sg, rfl, hsg, fun H1 s1 => ?_⟩
    refine ⟨_, rfl, a, txts ws, 1, 200, rfl, ha.same s1, fun H2 b s2 hb => ⟨b, rfl, ?_⟩⟩
    have wl : (txts ws).length = ws.length := by rw [txts, List.length_map]
    rw [hb.mpr ⟨by omega, by omega⟩]
    have s12 := s1.trans s2
    refine ⟨_, rfl, ?_⟩
    have step : ∀ {Q : VK} {D : Addr} {i : Nat} {H' : Hp} {u : List Nat}, H2 D = none → ws[i]? = some u → (∃ us, us.length = i ∧ H' D = some (.lst us) ∧ Arcs H' us ((bka ws).take i) ∧ Same H2 H') →
        ∀ t, H' t = none → ∃ acc, upd H' t (.tup [.int 0, .str (SX.S u), .int 0]) D = some (.lst acc) ∧ acc.length < sizeLine ∧ ∃ us, us.length = i + 1 ∧ upd (upd H' t (.tup [.int 0, .str (SX.S u), .int 0])) D (.lst (acc ++ [.ref t])) D = some (.lst us) ∧ Arcs (upd (upd H' t (.tup [.int 0, .str (SX.S u), .int 0])) D (.lst (acc ++ [.ref t]))) us ((bka ws).take (i + 1)) ∧ Same H2 (upd (upd H' t (.tup [.int 0, .str (SX.S u), .int 0])) D (.lst (acc ++ [.ref t]))) := by
      rintro Q D i H' u hD hu ⟨us, rfl, hDl, harc, sm⟩ t ht
      have nt : D ≠ t := fun z => hp_ne hDl ht z.symm
      have hi := (List.getElem?_eq_some_iff.mp hu).1
      have sn : Same H' (upd H' t (.tup [.int 0, .str (SX.S u), .int 0])) := Same.new _ ht
      have hD1 : upd H' t (.tup [.int 0, .str (SX.S u), .int 0]) D = some (.lst us) := by rw [upd_ne nt]; exact hDl
      refine ⟨us, hD1, lt_size (by omega), us ++ [.ref t], by simp, upd_same, ?_, (sm.trans sn).updNew hD⟩
      have e : (bka ws).take (us.length + 1) = (bka ws).take us.length ++ [(0, u, 0)] := by
        rw [take_snoc (by rw [bka, List.getElem?_map, hu]; rfl)]
      rw [e]
      exact ((harc.same sn).snoc (t := t) (a := (0, u, 0)) upd_same).updL hD1
    have fin : ∀ {H3 : Hp} {D : Addr}, H2 D = none → (∃ us, us.length = ws.length ∧ H3 D = some (.lst us) ∧ Arcs H3 us ((bka ws).take ws.length) ∧ Same H2 H3) → ∃ us, H3 D = some (.lst us) ∧ Arcs H3 us (bka ws) ∧ Same H H3 := by
      rintro H3 D hD ⟨us, hl, hDl, harc, sm⟩
      rw [List.take_of_length_le (by rw [bka_len]; exact Nat.le_refl _)] at harc
      exact ⟨us, hDl, harc, s12.trans sm⟩
    have mk : ∀ {H3 : Hp} {D : Addr} {us : List V}, H3 D = some (.lst us) → Arcs H3 us (bka ws) → Same H H3 → ∀ x dx, H3 x = none → H3 dx = none → x ≠ dx → ∃ p dx' a' sg' us' as', [V.ref x, .str (SX.S sg), .ref D] = [.ref p, .str (SX.S sg'), .ref a'] ∧ upd (upd H3 dx (.own x)) x (.ins T.C_Loom dx []) p = some (.ins T.C_Loom dx' []) ∧
        upd (upd H3 dx (.own x)) x (.ins T.C_Loom dx []) a' = some (.lst us') ∧ Arcs (upd (upd H3 dx (.own x)) x (.ins T.C_Loom dx [])) us' as' ∧ OkW sg' as' ∧ Signs sg' ∧
        ∀ (H' : Hp) (Tt : Addr), Ex p (upd (upd H3 dx (.own x)) x (.ins T.C_Loom dx [])) H' → upd (upd H3 dx (.own x)) x (.ins T.C_Loom dx []) Tt = none → H' Tt = some (.tup us') → H' p = some (.ins T.C_Loom dx' (lf sg' Tt)) → V.non = V.non ∧ Q (.ref x) H' := by
      intro H3 D us hDl harc sm x dx hx hd hne
      have S : Same H3 (upd (upd H3 dx (.own x)) x (.ins T.C_Loom dx [])) := (Same.new _ hd).trans (Same.new _ (by rw [upd_ne hne]; exact hx))
      refine ⟨x, dx, D, sg, us, bka ws, rfl, upd_same, S _ _ hDl, harc.same S, bka_ok h1 h2 hw, hsg, fun H' Tt x3 hT hTus g => ⟨rfl, ?_⟩⟩
      have s3 : Same H3 H' := fun b o e => x3 _ _ (ne_of_none e hx) (S _ _ e)
      exact k H' x us (sm.trans s3) (sm.free hx) ⟨dx, Tt, g, hTus, (harc.same s3), bka_ok h1 h2 hw, hsg⟩
    rcases ha with ha | ha
    · refine .inl ⟨_, rfl, a, rfl, ⟨_, SqL.of (s12 _ _ ha)⟩, fun D hD => lc_list (K := K) (a := a) (xs := txts ws) (fun i H' => ∃ us, us.length = i ∧ H' D = some (.lst us) ∧ Arcs H' us ((bka ws).take i) ∧ Same H2 H') ⟨[], rfl, upd_same, Arcs.nil _, Same.new _ hD⟩ (fun i H' _ ⟨_, _, _, _, sm⟩ => SqL.of (sm _ _ (s12 _ _ ha))) ?_ ?_⟩
      · rintro i y H' hy P
        obtain ⟨u, hu, rfl⟩ := txt_at hy
        exact ⟨rfl, _, rfl, le_size (by simp), fun t ht => step (Q := Q) hD hu P t ht⟩
      · intro H3 P
        rw [wl] at P
        obtain ⟨us, hDl, harc, sm⟩ := fin hD P
        exact fun x dx hx hd hne => mk hDl harc sm x dx hx hd hne.symm
    · refine .inr ⟨_, rfl, a, rfl, ⟨_, SqT.of (s12 _ _ ha)⟩, fun D hD => lc_tup (K := K) (a := a) (xs := txts ws) (fun i H' => ∃ us, us.length = i ∧ H' D = some (.lst us) ∧ Arcs H' us ((bka ws).take i) ∧ Same H2 H') ⟨[], rfl, upd_same, Arcs.nil _, Same.new _ hD⟩ (fun i H' _ ⟨_, _, _, _, sm⟩ => SqT.of (sm _ _ (s12 _ _ ha))) ?_ ?_⟩
      · rintro i y H' hy P
        obtain ⟨u, hu, rfl⟩ := txt_at hy
        exact ⟨rfl, _, rfl, le_size (by simp), fun t ht => step (Q := Q) hD hu P t ht⟩
      · intro H3 P
        rw [wl] at P
        obtain ⟨us, hDl, harc, sm⟩ := fin hD P
        exact fun x dx hx hd hne => mk hDl harc sm x dx hx hd hne.symm
theorem ok_is_book (T : Tx K mg) : FnOk P w K mg base CX0 1 T.f_is_book T.fd_is_book P_is_book (spIsBook K T.C_Loom) := by
  refine T.F_is_book.ok sc_is_book (fun vs H Q E h => ?_) (fun cdv A outer s H vs Q E hr h => ?_)
  · obtain ⟨v, rfl, _⟩ := h
    rfl
  · obtain ⟨v, rfl, h⟩ := h
    refine ⟨_, (pss_one (ps_ret (pe_and (pe_callB (call_isiZ (K := K) rfl) rfl T.n_isinstance (by decide +kernel) (pa_cons (pv 0) (pa_cons (pe_glob (v := V.ref T.C_Loom) rfl T.g_Loom rfl) pa_nil))) (pe_one (pe_callB (cr_allK (K := K) rfl rfl) rfl T.n_all (by decide +kernel) (pa_cons (pe_lc (own := [("arc", 1)]) (g := (gName 1)) rfl sc_is_book.nd (pi_tup (pe_fld (pv 0) rfl)) (blkOk_by (N := N_is_book) (sc := defScope s_is_book) (by decide +kernel)) (fun _ _ _ _ _ => (pg_name (i := 1) sc_is_book.nd rfl (Or.inl rfl))) (fun _ _ _ _ _ => pts_nil) (fun _ _ _ _ _ => (pe_and (pe_cmpR op_eq (pe_ix (ix_tupK (K := K) rfl) (pv 1) pe_int (fun _ _ => rfl)) pe_int (nomark _)) (pe_one (pe_cmpR op_eq (pe_ix (ix_tupK (K := K) rfl) (pv 1) pe_int (fun _ _ => rfl)) pe_int (nomark _)))))) pa_nil)))))), ?_⟩
    rcases h with ⟨q, sg, us, as, rfl, ⟨dx, TT, hq, hT, harc, hok, hsg⟩, k⟩ | ⟨t, ht, hk, k⟩
    · refine ⟨_, rfl, _, _, _, _, true, rfl, .own _, .x (.base (.ins hq T.cl_Loom T.ic_Loom T.ig T.it T.im_Loom)), kit_self _, true, rfl, ?_⟩
      refine ⟨_, rfl, q, _, dx, _, _, rfl, hq, T.cl_Loom, T.na_Loom_arcs, lf_arcs _ _, TT, rfl, ⟨_, SqT.of hT⟩, fun D hD => lc_tup (K := K) (a := TT) (xs := us) (fun i H' => H' D = some (.lst (((as.take i).map fun a => a.1 == 0 && a.2.2 == 0).map V.bl)) ∧ Same H H') ⟨upd_same, Same.new _ hD⟩ (fun i H' _ ⟨_, sm⟩ => SqT.of (sm _ _ hT)) ?_ ?_⟩
      · rintro i y H1 hy ⟨hDl, sm⟩
        have hi : i < as.length := by rw [← harc.1]; exact (List.getElem?_eq_some_iff.mp hy).1
        obtain ⟨t, hut, htt⟩ := harc.2 i as[i] (List.getElem?_eq_getElem hi)
        rw [hut] at hy
        cases hy
        have hl := hok.2.1
        have tk : as.take (i + 1) = as.take i ++ [as[i]] := (take_snoc (List.getElem?_eq_getElem hi)).symm
        refine ⟨rfl, _, rfl, t, _, _, _, rfl, rfl, SqT.of (sm _ _ htt), rfl, rfl, _, rfl, ?_⟩
        refine ite2 (fun c => ?_) (fun c => ?_)
        · refine ⟨_, rfl, t, _, _, _, rfl, rfl, SqT.of (sm _ _ htt), rfl, rfl, _, hDl, lt_size (by simp; omega), ?_, sm.updNew hD⟩
          rw [upd_same, tk, List.map_append, List.map_append, nat_zero] 
          rw [nat_zero] at c
          simp [of_decide_eq_true c]
        · refine ⟨_, hDl, lt_size (by simp; omega), ?_, sm.updNew hD⟩
          rw [upd_same, tk, List.map_append, List.map_append]
          rw [nat_zero] at c
          simp [c]
      · rintro H1 ⟨hDl, sm⟩
        refine ⟨D, _, rfl, SqL.of hDl, ?_⟩
        have e : as.take us.length = as := by rw [harc.1, List.take_length]
        rw [e, List.all_map]
        exact k H1 sm
    · exact ⟨_, rfl, _, _, _, _, false, rfl, .own _, ht, hk, false, rfl, k⟩
theorem ok_check_book (T : Tx K mg) : FnOk P w K mg base CX0 2 T.f_check_book T.fd_check_book P_check_book (spChkBook T.C_Loom) := by
  have G_is_book : FnOk P w K mg base CX0 1 T.f_is_book T.fd_is_book P_is_book (spIsBook K T.C_Loom) := ok_is_book T
  refine T.F_check_book.ok sc_check_book (fun vs H Q E h => ?_) (fun cdv A outer s H vs Q E hr h => ?_)
  · obtain ⟨q, sg, us, as, rfl, _⟩ := h
    rfl
  · obtain ⟨q, sg, us, as, rfl, hL, hkd, k⟩ := h
    refine ⟨_, (pss_one (ps_if (pt_not (pt_val (pe_call G_is_book (hr.mono (by decide)) rfl T.m_is_book T.F_is_book.kp T.b_is_book .nil pass0 (pa_cons (pv 0) pa_nil)))) (pss_one ps_never) pss_nil)), ?_⟩
    refine ⟨_, rfl, _, rfl, .inl ⟨q, sg, us, as, rfl, hL, fun H1 sm => ⟨_, rfl, ?_⟩⟩⟩
    rw [hkd]
    exact k H1 sm
theorem ok_words (T : Tx K mg) : FnOk P w K mg base CX0 3 T.f_words T.fd_words P_words (spPWords T.C_Loom) := by
  have G_check_book : FnOk P w K mg base CX0 2 T.f_check_book T.fd_check_book P_check_book (spChkBook T.C_Loom) := ok_check_book T
  refine T.F_words.ok sc_words (fun vs H Q E h => ?_) (fun cdv A outer s H vs Q E hr h => ?_)
  · obtain ⟨q, sg, us, ws, rfl, _⟩ := h
    rfl
  · obtain ⟨q, sg, us, ws, rfl, hL, k⟩ := h
    refine ⟨_, (pss_cons (ps_expr (pe_call G_check_book (hr.mono (by decide)) rfl T.m_check_book T.F_check_book.kp T.b_check_book .nil pass0 (pa_cons (pv 0) pa_nil)))
        (pss_one (ps_ret (pe_lc (own := [("arc", 1)]) (g := (gName 1)) rfl sc_words.nd (pi_tup (pe_fld (pv 0) rfl)) (blkOk_by (N := N_words) (sc := defScope s_words) (by decide +kernel)) (fun _ _ _ _ _ => (pg_name (i := 1) sc_words.nd rfl (Or.inl rfl))) (fun _ _ _ _ _ => pts_nil) (fun _ _ _ _ _ => (pe_ix (ix_tupK (K := K) rfl) (pv 1) pe_int (fun _ _ => rfl))))))), ?_⟩
    refine ⟨_, rfl, q, sg, us, bka ws, rfl, hL, kd_book ws, fun H1 s1 => ?_⟩
    obtain ⟨dx, TT, hq, hT, harc, hok, hsg⟩ := hL.same s1
    refine ⟨_, rfl, q, _, dx, _, _, rfl, hq, T.cl_Loom, T.na_Loom_arcs, lf_arcs _ _, TT, rfl, ⟨_, SqT.of hT⟩, fun D hD => lc_tup (K := K) (a := TT) (xs := us) (fun i H' => H' D = some (.lst (txts (ws.take i))) ∧ Same H1 H') ⟨upd_same, Same.new _ hD⟩ (fun i H' _ ⟨_, sm⟩ => SqT.of (sm _ _ hT)) ?_ ?_⟩
    · rintro i y H2 hy ⟨hDl, sm⟩
      have hl := hok.2.1
      rw [bka_len] at hl
      have hi : i < ws.length := by rw [← bka_len, ← harc.1]; exact (List.getElem?_eq_some_iff.mp hy).1
      have ei : ws[i]? = some ws[i] := List.getElem?_eq_getElem hi
      obtain ⟨t, hut, htt⟩ := harc.2 i (0, ws[i], 0) (by rw [bka, List.getElem?_map, ei]; rfl)
      rw [hut] at hy
      cases hy
      refine ⟨rfl, _, rfl, t, _, _, _, rfl, rfl, SqT.of (sm _ _ htt), rfl, _, hDl, lt_size (by simp [txts]; omega), ?_, sm.updNew hD⟩
      rw [upd_same, ← take_snoc ei, txts, txts, List.map_append]
      rfl
    · rintro H2 ⟨hDl, sm⟩
      have e : ws.take us.length = ws := by rw [harc.1, bka_len, List.take_length]
      rw [e] at hDl
      exact k H2 D (s1.trans sm) (s1.free hD) hDl
end
end J


set_option Elab.async false
set_option linter.all false
set_option maxRecDepth 100000
set_option maxHeartbeats 4000000
namespace J
open PySem L2
/-! ### what two looms are, held against each other -/
theorem S_inj {u v : List Nat} (h : SX.S u = SX.S v) : u = v := by
  unfold SX.S at h
  injection h with h
  simpa using h
def arcD (a : Arc) : PyData := .tuple [.int (a.1 : Int), .str (SX.S a.2.1), .int (a.2.2 : Int)]
theorem dp_arc {K : PySem.W.Frag} {H : Hp} {t : Addr} {a : Arc} (h : H t = some (arcHO a)) : Dp K H (.ref t) (arcD a) := .tup (SqT.of h) (.cons (.int _) (.cons (.str _) (.cons (.int _) .nil)))
theorem dp_arcs {K : PySem.W.Frag} {H : Hp} : ∀ {us : List V} {as : List Arc}, Arcs H us as → DpAll K H us (as.map arcD)
  | [], [], _ => .nil
  | [], _ :: _, h => by have := h.1; simp at this
  | _ :: _, [], h => by have := h.1; simp at this
  | u :: us, a :: as, h => by
    obtain ⟨t, e, ht⟩ := h.2 0 a rfl
    cases e
    refine .cons (dp_arc ht) (dp_arcs ⟨by have := h.1; simpa using this, fun i b hb => ?_⟩)
    obtain ⟨t', e', ht'⟩ := h.2 (i + 1) b (by simpa using hb)
    exact ⟨t', by simpa using e', ht'⟩
theorem str_beq (u v : List Nat) : (SX.S u == SX.S v) = decide (u = v) := by
  by_cases h : u = v
  · subst h; simp
  · have n : SX.S u ≠ SX.S v := fun z => h (S_inj z)
    rw [decide_eq_false h]
    exact beq_false_of_ne n
theorem nat_beq (m n : Nat) : ((m : Int) == (n : Int)) = decide (m = n) := by
  by_cases h : m = n
  · subst h; simp
  · rw [decide_eq_false h]
    exact beq_false_of_ne (fun z => h (by exact_mod_cast z))
theorem eqv_arc (a b : Arc) : PyData.eqv (arcD a) (arcD b) = decide (a = b) := by
  show (((a.1 : Int) == (b.1 : Int)) && ((SX.S a.2.1 == SX.S b.2.1) && (((a.2.2 : Int) == (b.2.2 : Int)) && true))) = _
  rw [nat_beq, nat_beq, str_beq]
  obtain ⟨a1, a2, a3⟩ := a
  obtain ⟨b1, b2, b3⟩ := b
  rw [Bool.eq_iff_iff]
  simp
theorem eqv_arcs : ∀ as bs : List Arc, PyData.eqvAll (as.map arcD) (bs.map arcD) = decide (as = bs)
  | [], [] => rfl
  | [], b :: bs => by rw [decide_eq_false (by simp)]; rfl
  | a :: as, [] => by rw [decide_eq_false (by simp)]; rfl
  | a :: as, b :: bs => by
    show (PyData.eqv (arcD a) (arcD b) && PyData.eqvAll (as.map arcD) (bs.map arcD)) = _
    rw [eqv_arc, eqv_arcs as bs, Bool.eq_iff_iff]
    simp
def txtD (ws : List (List Nat)) : List PyData := ws.map fun u => .str (SX.S u)
theorem dp_txts {K : PySem.W.Frag} {H : Hp} : ∀ ws : List (List Nat), DpAll K H (txts ws) (txtD ws)
  | [] => .nil
  | _ :: r => .cons (.str _) (dp_txts r)
theorem eqv_txts : ∀ as bs : List (List Nat), PyData.eqvAll (txtD as) (txtD bs) = decide (as = bs)
  | [], [] => rfl
  | [], b :: bs => by rw [decide_eq_false (by simp)]; rfl
  | a :: as, [] => by rw [decide_eq_false (by simp)]; rfl
  | a :: as, b :: bs => by
    show ((SX.S a == SX.S b) && PyData.eqvAll (txtD as) (txtD bs)) = _
    rw [str_beq, eqv_txts as bs, Bool.eq_iff_iff]
    simp
theorem str_ok {u : List Nat} (h : ∀ c ∈ u, c < 1114112) : PyData.strOk (SX.S u) = true := by
  unfold PyData.strOk SX.S
  simp only [List.all_toArray, List.all_eq_true, decide_eq_true_eq]
  exact h
theorem word_small {sg u : List Nat} (hs : Signs sg) (h : Word sg u) : ∀ c ∈ u, c < 1114112 := fun c hc => by
  have := (hs.2.2.1 c (h.2.2 c hc)).2
  omega
theorem lay_arcs {sg : List Nat} (hs : Signs sg) : ∀ as : List Arc, (∀ a ∈ as, OkArc sg a) → PyData.canLayAll0 (as.map arcD) = true
  | [], _ => rfl
  | a :: r, h => by
    have e : PyData.strOk (SX.S a.2.1) = true := str_ok (word_small hs (h a (by simp)).2.1)
    have ea : PyData.canLay0 (arcD a) = true := by
      show (true && (PyData.strOk (SX.S a.2.1) && (true && true))) = true
      rw [e]; rfl
    show (PyData.canLay0 (arcD a) && PyData.canLayAll0 (r.map arcD)) = true
    rw [ea, lay_arcs hs r fun b hb => h b (by simp [hb])]
    rfl
theorem deep_arcs : ∀ as : List Arc, PyData.depthAll (as.map arcD) ≤ 1
  | [] => by simp [PyData.depthAll]
  | a :: r => by
    show max (PyData.depth (arcD a)) (PyData.depthAll (r.map arcD)) ≤ 1
    have e : PyData.depth (arcD a) = 1 := by simp [arcD, PyData.depth, PyData.depthAll]
    have := deep_arcs r
    omega
theorem shaped_arcsL {sg : List Nat} {as : List Arc} (hs : Signs sg) (h : ∀ a ∈ as, OkArc sg a) : SeqAt.shaped (.tuple (as.map arcD)) = true ∧ SeqAt.shaped (.list (as.map arcD)) = true := by
  have e1 := lay_arcs hs as h
  have e2 : PyData.depthAll (as.map arcD) + 1 ≤ 64 := by
    have := deep_arcs as
    omega
  constructor
  · have q1 : PyData.canLay0 (.tuple (as.map arcD)) = true := e1
    have q2 : PyData.depth (.tuple (as.map arcD)) ≤ 64 := e2
    unfold SeqAt.shaped
    rw [q1, decide_eq_true q2]
    rfl
  · have q1 : PyData.canLay0 (.list (as.map arcD)) = true := e1
    have q2 : PyData.depth (.list (as.map arcD)) ≤ 64 := e2
    unfold SeqAt.shaped
    rw [q1, decide_eq_true q2]
    rfl
theorem lay_txts : ∀ ws : List (List Nat), (∀ u ∈ ws, ∀ c ∈ u, c < 1114112) → PyData.canLayAll0 (txtD ws) = true
  | [], _ => rfl
  | u :: r, h => by
    show (PyData.strOk (SX.S u) && PyData.canLayAll0 (txtD r)) = true
    rw [str_ok (h u (by simp)), lay_txts r fun v hv => h v (by simp [hv])]
    rfl
theorem deep_txts : ∀ ws : List (List Nat), PyData.depthAll (txtD ws) = 0
  | [] => by simp [txtD, PyData.depthAll]
  | u :: r => by
    show max (PyData.depth (.str (SX.S u))) (PyData.depthAll (txtD r)) = 0
    rw [deep_txts r]
    simp [PyData.depth]
theorem shaped_txts {ws : List (List Nat)} (h : ∀ u ∈ ws, ∀ c ∈ u, c < 1114112) : SeqAt.shaped (.list (txtD ws)) = true := by
  have q1 : PyData.canLay0 (.list (txtD ws)) = true := lay_txts ws h
  have q2 : PyData.depth (.list (txtD ws)) ≤ 64 := by
    show PyData.depthAll (txtD ws) + 1 ≤ 64
    rw [deep_txts]
    decide
  unfold SeqAt.shaped
  rw [q1, decide_eq_true q2]
  rfl
/-- two looms, and whether they are the same -/
def Eql (C : Addr) (a b : Addr) (r : Bool) (H : Hp) : Prop := ∃ sg us as sg' us' as', LoomAt C H a sg us as ∧ LoomAt C H b sg' us' as' ∧ r = decide (sg = sg' ∧ as = as')
/-- values that are told apart by what they are -/
def Flat (v : V) : Prop := (∃ b, v = .bl b) ∨ (∃ i, v = .int i) ∨ (∃ z, v = .str z)
def spLike : Sp := fun vs H Q _ => ∃ x y, vs = [x, y] ∧ (Flat x ∧ y = x ∧ Q (.bl true) H ∨
  ∃ (a b : Addr) (xs : List V), x = .ref a ∧ y = .ref b ∧ H a = some (.lst xs) ∧ H b = some (.lst xs) ∧ (∀ v ∈ xs, Flat v) ∧ xs.length ≤ 1000 ∧ ∀ H', Same H H' → Q (.bl true) H')
def spFlat : Sp := fun vs H Q _ => ∃ x, vs = [x, x] ∧ Flat x ∧ Q (.bl true) H
theorem flat_txts (ws : List (List Nat)) : ∀ v ∈ txts ws, Flat v := fun v hv => by
  obtain ⟨u, _, rfl⟩ := List.mem_map.mp hv
  exact .inr (.inr ⟨_, rfl⟩)
theorem third {r : Int} (h0 : 0 ≤ r) (h1 : r < 4) : ∃ m : Nat, r.fdiv 3 = (m : Int) ∧ m ≤ 63 := by
  have h : r = 0 ∨ r = 1 ∨ r = 2 ∨ r = 3 := by omega
  rcases h with rfl | rfl | rfl | rfl
  · exact ⟨0, rfl, by decide⟩
  · exact ⟨0, rfl, by decide⟩
  · exact ⟨0, rfl, by decide⟩
  · exact ⟨1, rfl, by decide⟩
def spNo : Sp := fun _ _ _ _ => False
def spOdd (K : PySem.W.Frag) (ns : List Int) (C : Addr) : Sp := fun vs H Q _ => ∃ (a p : Addr), vs = [.ref a, .ref p] ∧ St K ns a H p ∧ ∀ H' x t, Ex p H H' → St K ns a H' p → TyZ K H' x t → PySem.W.kitOne K t (.ref C) = some false → Q x H'
def spArcs (K : PySem.W.Frag) (ns : List Int) : Sp := fun vs H Q _ => ∃ (a p : Addr) (sg : List Nat), vs = [.ref a, .ref p, .str (SX.S sg)] ∧ St K ns a H p ∧ Signs sg ∧
  ∀ H' (q : Addr) us as, Ex p H H' → St K ns a H' p → H q = none → q ≠ p → H' q = some (.lst us) → Arcs H' us as → OkW sg as → Q (.ref q) H'
theorem kit_own {K : PySem.W.Frag} {t : Value} {C : Addr} {b : Bool} (h1 : PySem.W.isClsIn K C = true) (h2 : PySem.W.typeIn K (.ref C) = some (.type "type")) (h3 : PySem.W.subIn K t (.ref C) = some b) (hb : t = .ref C → b = true) : PySem.W.kitOne K t (.ref C) = some b := by
  unfold PySem.W.kitOne
  by_cases e : (t == Value.ref C) = true
  · rw [if_pos e, hb (eq_of_beq e)]
  · rw [if_neg e]
    have q : ((PySem.W.clsIn K C).isSome && PySem.W.typeIn K (.ref C) == some (.type "type")) = true := by
      have h1' : (PySem.W.clsIn K C).isSome = true := h1
      rw [h1', h2] <;> rfl
    show (if ((PySem.W.clsIn K C).isSome && PySem.W.typeIn K (.ref C) == some (.type "type")) = true then PySem.W.subIn K t (.ref C) else none) = some b
    rw [if_pos q]
    exact h3
theorem Arcs.st {K : PySem.W.Frag} {ns : List Int} {a p : Addr} {H H' : Hp} {vs : List V} {as : List Arc} (h : Arcs H vs as) (st : St K ns a H p) (x : Ex p H H') : Arcs H' vs as := by
  obtain ⟨⟨b0, b1, b2, b3, hp, _⟩, _⟩ := st
  exact h.ex x hp
section
variable {P : Program} {w : World} {K : PySem.W.Frag} {mg : Str → Option Value} {base : Heap}
theorem ok_Loom_eq (T : Tx K mg) : FnOk P w K mg base CX0 1 T.f_Loom_eq T.fd_Loom_eq P_Loom_eq (spEqB (Eql T.C_Loom)) := by
  refine T.F_Loom_eq.ok sc_Loom_eq (fun vs H Q E h => ?_) (fun cdv A outer s H vs Q E hr h => ?_)
  · obtain ⟨a, b, r, rfl, _⟩ := h
    rfl
  · obtain ⟨a, b, r, rfl, ⟨sg, us, as, sg', us', as', ⟨dx, TT, hq, hT, harc, hok, hsg⟩, ⟨dx', TT', hq', hT', harc', hok', hsg'⟩, rfl⟩, k⟩ := h
    refine ⟨_, (pss_one (ps_ret (pe_and (pe_callB (call_isiZ (K := K) rfl) rfl T.n_isinstance (by decide +kernel) (pa_cons (pv 1) (pa_cons (pe_glob (v := V.ref T.C_Loom) rfl T.g_Loom rfl) pa_nil))) (pe_and (pe_cmpR op_eq (pe_fld (pv 0) rfl) (pe_fld (pv 1) rfl) (nomark _)) (pe_one (pe_cmpR (op_eqD hr.units) (pe_fld (pv 0) rfl) (pe_fld (pv 1) rfl) (nomark _))))))), ?_⟩
    refine ⟨_, rfl, _, _, _, _, true, rfl, .own _, .x (.base (.ins hq' T.cl_Loom T.ic_Loom T.ig T.it T.im_Loom)), kit_self _, true, rfl, ?_⟩
    refine ⟨_, rfl, a, _, dx, _, _, rfl, hq, T.cl_Loom, T.na_Loom_signs, lf_signs _ _, ?_⟩
    refine ⟨_, rfl, b, _, dx', _, _, rfl, hq', T.cl_Loom, T.na_Loom_signs, lf_signs _ _, ?_⟩
    refine ⟨rfl, _, rfl, ?_⟩
    refine ite2 (fun c => ?_) (fun c => ?_)
    · have e0 := of_decide_eq_true c
      injection e0 with e0
      have e1 : sg = sg' := S_inj e0
      subst e1
      refine ⟨_, rfl, a, _, dx, _, _, rfl, hq, T.cl_Loom, T.na_Loom_arcs, lf_arcs _ _, ?_⟩
      refine ⟨_, rfl, b, _, dx', _, _, rfl, hq', T.cl_Loom, T.na_Loom_arcs, lf_arcs _ _, ?_⟩
      refine ⟨_, _, .tup (SqT.of hT) (dp_arcs harc), .tup (SqT.of hT') (dp_arcs harc'), (shaped_arcsL hsg hok.2.2).1, (shaped_arcsL hsg hok'.2.2).1, ?_⟩
      have e2 : PyData.eqv (.tuple (as.map arcD)) (.tuple (as'.map arcD)) = decide (sg = sg ∧ as = as') := by
        show PyData.eqvAll (as.map arcD) (as'.map arcD) = _
        rw [eqv_arcs]
        simp
      rw [e2]
      exact k H Ext.rfl'
    · have n : ¬ (sg = sg' ∧ as = as') := fun z => c (decide_eq_true (by rw [z.1]))
      rw [decide_eq_false n] at k
      exact k H Ext.rfl'
end
end J


set_option Elab.async false
set_option linter.all false
set_option maxRecDepth 100000
set_option maxHeartbeats 4000000
namespace J
open PySem L2
theorem erase_perm {α : Type} : ∀ {l : List α} {j : Nat} {x : α}, l[j]? = some x → (x :: l.eraseIdx j).Perm l
  | [], _, _, h => by simp at h
  | y :: l, 0, x, h => by
    cases h
    exact .refl _
  | y :: l, j + 1, x, h => by
    have q := erase_perm (l := l) (j := j) (x := x) (by simpa using h)
    exact (List.Perm.swap y x _).trans (q.cons y)
theorem txts_erase : ∀ (ws : List (List Nat)) (j : Nat), (txts ws).eraseIdx j = txts (ws.eraseIdx j)
  | [], _ => rfl
  | _ :: _, 0 => rfl
  | u :: r, j + 1 => congrArg (V.str (SX.S u) :: ·) (txts_erase r j)
theorem seq_at {r : Int} {n : Nat} (h0 : 0 ≤ r) (h1 : r < n) : seqIndex? r n = some r.toNat := by
  have e : (if r < 0 then r + (n : Int) else r) = r := if_neg (by omega)
  unfold seqIndex?
  simp only [e]
  rw [decide_eq_true h0, decide_eq_true h1]
  rfl
theorem txts_cat (us vs : List (List Nat)) : txts us ++ txts vs = txts (us ++ vs) := by simp [txts]
def spShuf (K : PySem.W.Frag) (ns : List Int) : Sp := fun vs H Q _ => ∃ (a p q : Addr) (ws : List (List Nat)), vs = [.ref a, .ref p, .ref q] ∧ St K ns a H p ∧ q ≠ p ∧ H q = some (.lst (txts ws)) ∧ ws.length ≤ 1000 ∧
  ∀ H' (r : Addr) us, Ex p H H' → St K ns a H' p → H r = none → r ≠ p → H' r = some (.lst (txts us)) → us.Perm ws → Q (.ref r) H'
section
variable {P : Program} {w : World} {K : PySem.W.Frag} {mg : Str → Option Value} {base : Heap}
theorem ok_l_shuffled (T : Tx K mg) (ns : List Int) : FnOk P w K mg base CX0 2 T.f_l_shuffled T.fd_l_shuffled P_l_shuffled (spShuf K ns) := by
  have G_l_take : FnOk P w K mg base CX0 1 T.f_l_take T.fd_l_take P_l_take (spTake K ns) := ok_l_take T ns
  refine T.F_l_shuffled.ok sc_l_shuffled (fun vs H Q E h => ?_) (fun cdv A outer s H vs Q E hr h => ?_)
  · obtain ⟨a, p, q, ws, rfl, _⟩ := h
    rfl
  · obtain ⟨a, p, q, ws, rfl, hst, nq, hq, hl, k⟩ := h
    refine ⟨_, (pss_cons (ps_set (i := 3) sc_l_shuffled.nd rfl (Or.inl rfl) (pe_callTy (call_list_ofK (K := K) rfl) rfl T.n_list (by decide +kernel) (pa_cons (pv 2) pa_nil)))
        (pss_cons (ps_set (i := 4) sc_l_shuffled.nd rfl (Or.inl rfl) (pe_lst pa_nil))
        (pss_cons (ps_for PassesOwn.never rfl (pi_range1 rfl T.n_range (pa_cons (pe_callB (call_len_seqK (K := K) rfl) rfl T.n_len (by decide +kernel) (pa_cons (pv 2) pa_nil)) pa_nil)) (pg_name (i := 5) sc_l_shuffled.nd rfl (Or.inl rfl)) (pss_one (ps_expr (pe_bm PySem.F.plainAttrs_list PySem.F.slot_list_append PySem.F.type_list_append mt_append (pv 4) (pa_cons (pe_bm PySem.F.plainAttrs_list PySem.F.slot_list_pop PySem.F.type_list_pop mt_popAt (pv 3) (pa_cons (pe_call G_l_take (hr.mono (by decide)) rfl T.m_l_take T.F_l_take.kp T.b_l_take .nil pass0 (pa_cons (pv 0) (pa_cons (pv 1) (pa_cons (pe_callB (call_len_seqK (K := K) rfl) rfl T.n_len (by decide +kernel) (pa_cons (pv 3) pa_nil)) pa_nil)))) pa_nil)) pa_nil)))))
        (pss_one (ps_ret (pv 4)))))), ?_⟩
    refine ⟨_, rfl, q, _, rfl, .inl (SqL.of hq), fun R hR => ?_⟩
    have sR : Same H (upd H R (.lst (txts ws))) := Same.new _ hR
    have gR : upd H R (.lst (txts ws)) R = some (.lst (txts ws)) := upd_same
    have nR := hst.ne hR
    have nRq : R ≠ q := hp_ne hq hR
    have st1 := hst.same sR
    generalize upd H R (.lst (txts ws)) = H1 at *
    refine ⟨Nat.zero_le _, fun F hF => ?_⟩
    have sF : Same H1 (upd H1 F (.lst [])) := Same.new _ hF
    have gF : upd H1 F (.lst []) F = some (.lst []) := upd_same
    have nF := st1.ne hF
    have nFR : F ≠ R := hp_ne gR hF
    have hF0 : H F = none := sR.free hF
    have s2 := sR.trans sF
    have st2 := st1.same sF
    replace gR := sF _ _ gR
    generalize upd H1 F (.lst []) = H2 at *
    have wl : (txts ws).length = ws.length := by rw [txts, List.length_map]
    refine ⟨_, rfl, q, _, rfl, .inl (SqL.of (s2 _ _ hq)), _, rfl, by omega, by omega, for_range (lo := 0) (n := (txts ws).length) (fun i σ H' => ∃ (us rs : List (List Nat)) (v : Option V), σ = [some (.ref a), some (.ref p), some (.ref q), some (.ref R), some (.ref F), v] ∧ us.length = i ∧ (us ++ rs).Perm ws ∧ H' F = some (.lst (txts us)) ∧ H' R = some (.lst (txts rs)) ∧ Ex p H H' ∧ St K ns a H' p) ?_ ?_ ?_⟩
    · exact ⟨[], ws, none, rfl, rfl, .refl _, gF, gR, Same.ex s2, st2⟩
    · rintro i σ H3 hi ⟨us, rs, v, rfl, rfl, hp, hF3, hR3, X3, st3⟩
      have hln := hp.length_eq
      rw [List.length_append] at hln
      have rl : (txts rs).length = rs.length := by rw [txts, List.length_map]
      refine ⟨_, rfl, .inl ⟨rfl, _, SqL.of hF3⟩, _, rfl, .inl ⟨rfl, _, SqL.of hR3⟩, _, rfl, _, rfl, _, rfl, R, _, rfl, .inl (SqL.of hR3), a, p, _, rfl, st3, by omega, by omega, fun H4 r x4 st4 r0 r1 => ?_⟩
      rw [rl] at r1
      have hF4 := x4 _ _ nF hF3
      have hR4 := x4 _ _ nR hR3
      obtain ⟨j, rfl⟩ := Int.eq_ofNat_of_zero_le r0
      have hj : j < rs.length := by exact_mod_cast r1
      have ej : rs[j]? = some rs[j] := List.getElem?_eq_getElem hj
      refine ⟨R, txts rs, _, j, _, rfl, rfl, hR4, by omega, by omega, by rw [rl]; exact seq_at (by omega) (by omega), by rw [txts, List.getElem?_map, ej]; rfl, ?_⟩
      rw [txts_erase]
      have X5 : Ex p H (upd H4 R (.lst (txts (rs.eraseIdx j)))) := (X3.trans x4).updNew hR
      have st5 := hst.upd st4 X5 nR
      have hF5 : upd H4 R (.lst (txts (rs.eraseIdx j))) F = some (.lst (txts us)) := by rw [upd_ne nFR]; exact hF4
      have hR5 : upd H4 R (.lst (txts (rs.eraseIdx j))) R = some (.lst (txts (rs.eraseIdx j))) := upd_same
      generalize upd H4 R (.lst (txts (rs.eraseIdx j))) = H5 at *
      refine ⟨F, _, _, rfl, rfl, hF5, lt_size (by rw [txts, List.length_map]; omega), ?_⟩
      refine ⟨us ++ [rs[j]], rs.eraseIdx j, _, rfl, by simp, ?_, by rw [upd_same, ← txts_cat]; rfl, by rw [upd_ne nFR.symm]; exact hR5, X5.updNew hF0, hst.upd st5 (X5.updNew hF0) nF⟩
      rw [List.append_assoc]
      exact ((erase_perm ej).append_left us).trans hp
    · rintro σ H3 ⟨us, rs, v, rfl, hu, hp, hF3, hR3, X3, st3⟩
      have hln := hp.length_eq
      rw [List.length_append] at hln
      have e : rs = [] := List.eq_nil_of_length_eq_zero (by omega)
      subst e
      rw [List.append_nil] at hp
      exact ⟨_, rfl, k H3 F us X3 st3 hF0 nF hF3 hp⟩
end
end J


set_option Elab.async false
set_option linter.all false
set_option maxRecDepth 100000
set_option maxHeartbeats 4000000
namespace J
open PySem L2
theorem txts_S (ws : List (List Nat)) : (ws.map SX.S).map V.str = txts ws := by rw [List.map_map]; rfl
theorem txts_un (ys : List PySem.Str) : ys.map V.str = txts (ys.map TxO.un) := by rw [← txts_S, TxO.map_un]
theorem txts_len (ws : List (List Nat)) : (txts ws).length = ws.length := by rw [txts, List.length_map]
def spSF (K : PySem.W.Frag) : Sp := fun vs H Q _ => ∃ (a : Addr) (ws : List (List Nat)), vs = [.ref a] ∧ SqL K H a (txts ws) ∧ (∀ u ∈ ws, u.length ≤ 1000) ∧
  ∀ H' (q : Addr) ys, Same H H' → H q = none → H' q = some (.lst (txts ys)) → TxO.SF ys → ys.Perm ws → Q (.ref q) H'
def spWr : Sp := fun vs H Q _ => ∃ (a : Addr) (ws : List (List Nat)) (u : List Nat), vs = [.ref a, .str (SX.S u)] ∧ H a = some (.lst (txts ws)) ∧ (∀ w ∈ ws, w ≠ [] ∧ w.length ≤ 1000) ∧ ws.length ≤ 1000 ∧ u.length ≤ 1000 ∧
  ∀ H' b, Same H H' → (b = true ↔ TxO.Wr ws u) → Q (.bl b) H'
/-- what the dict of places holds -/
structure Pl (ws : List (List Nat)) (u : List Nat) (i : Nat) (kvs : List (Key × V)) : Prop where
  ok : ∀ k, (valV kvs k).isSome = true → ∃ m : Nat, k = .inl (m : Int) ∧ m ≤ u.length ∧ TxO.Wr ws (u.take m)
  zero : (valV kvs (.inl 0)).isSome = true
  step : ∀ j, j < i → (valV kvs (.inl (j : Int))).isSome = true → ∀ w ∈ ws, w <+: u.drop j → (valV kvs (.inl ((j + w.length : Nat) : Int))).isSome = true
section
variable {P : Program} {w : World} {K : PySem.W.Frag} {mg : Str → Option Value} {base : Heap}
end
end J


set_option Elab.async false
set_option linter.all false
set_option maxRecDepth 100000
set_option maxHeartbeats 4000000
namespace J
open PySem L2
def spBase (C : Addr) : Sp := fun vs H Q _ => ∃ (q : Addr) (sg : List Nat) (us : List V) (ws : List (List Nat)), vs = [.ref q] ∧ LoomAt C H q sg us (bka ws) ∧
  ∀ H' (r : Addr) ys, Same H H' → H r = none → H' r = some (.lst (txts ys)) → TxO.IsBase ws ys → Q (.ref r) H'
theorem bka_words {sg : List Nat} {ws : List (List Nat)} (h : OkW sg (bka ws)) : 1 ≤ ws.length ∧ ws.length ≤ 200 ∧ ∀ u ∈ ws, Word sg u := by
  obtain ⟨h1, h2, h3⟩ := h
  rw [bka_len] at h1 h2
  exact ⟨h1, h2, fun u hu => (h3 (0, u, 0) (List.mem_map.mpr ⟨u, hu, rfl⟩)).2.1⟩
section
variable {P : Program} {w : World} {K : PySem.W.Frag} {mg : Str → Option Value} {base : Heap}
end
end J


set_option Elab.async false
set_option linter.all false
set_option maxRecDepth 100000
set_option maxHeartbeats 4000000
namespace PySem
namespace ExX
section
variable {prog : Program} {w : World} {A : Around} {E : Value → Shared → Prop} {R : Result → Shared → Prop} {s : Shared} {K : W.Frag} {mg : Str → Option Value} {C fI : Addr}
open PySem.W PySem.Calls PyProof.Rows PySem.HandSPX
theorem init_LimitExceeded (T : ExcT K mg C fI "LimitExceeded" ["limit"] "LimitExceeded.__init__" J.s_LimitExceeded_init) {x t0 : Addr} {v0 : Value} (X : K.In s.heap) (hlim : s.heap.NoLimit) (hx : s.heap.get? x = some (excO C t0)) (hnx : K.lookup x = none) (hroom : A.depth < recursionLimit)
    (hq : ∀ h' tk dx, (∀ b o, b ≠ x → s.heap.get? b = some o → h'.get? b = some o) → h'.get? x = some { cls := .ref C, dict := some dx, data := .fields #[.ref t0, .none, .none, .none, .bool false, .none] } → s.heap.objs.size ≤ dx → dx ≠ x →
      h'.Ns1 dx (fun y => if y = "limit" then some v0 else none) → R (.ok (.ret .none)) { s with heap := h', toks := tk }) :
    codeAny (model prog w) A (.call (.ref fI) ⟨[.ref x, v0], []⟩) R s := by
  obtain ⟨oc, od, kV, doc, pm, an, cdv, ct, osl, ho, hcd⟩ := T.fn
  obtain ⟨nm, q, N, bs, bm, sn, sub, ab, col, dd, k0, k1, k2, k3, k5, hC, hbm⟩ := T.cls
  have hcl : clsIn K C = some { name := nm, bases := bs, mro := .ref C :: bm, ns := N, qualname := q, hasDict := true, slotNames := sn, subclasses := sub, abstract := ab, collection := col, hasDel := false } := by unfold clsIn; rw [hC] <;> rfl
  refine Att.call_fn (binds := [("self", .ref x), ("limit", v0)]) X hlim ho hcd hroom (BindsTo.of_eq (by first | rfl | with_unfolding_all rfl)) (by first | rfl | decide | with_unfolding_all rfl) (fun s₁ IC => ?_) rfl rfl rfl
  obtain ⟨h₁, tk₁, rfl⟩ := IC.toInCall.same
  have k : ∀ b o, s.heap.get? b = some o → h₁.get? b = some o := IC.toInCall.keep
  have hn := IC.toInCall.ns
  have hxL : s.heap.objs.size ≠ x := Nat.ne_of_gt (Heap.lt_size hx)
  have X₁ : K.In h₁ := X.keeps k
  have hx₁ := k _ _ hx
  have z : s.heap.objs.size < h₁.objs.size := hn.lt
  show wpAny _ _ (execs _ _) _ _ _
  refine wpAny_execs_cons (plainObj_wpAny_Assign_Attribute ?_)
  refine ldC (v := v0) hn (by first | rfl | with_unfolding_all rfl | kernel_rfl) (ldC (v := .ref x) hn (by first | rfl | with_unfolding_all rfl | kernel_rfl) ?_)
  refine set_plain X₁ (ox := excO C t0) (od := none) ⟨hx₁, rfl, rfl, trivial⟩ T.sa ?_
  refine osa_new X₁ hx₁ hcl (show refsEX (.ref C :: bm) = true from hbm) rfl (T.no "limit" (by simp)) (fun h₃ tk₃ dx k₃ dn dne hx₃ hn₃ => ?_)
  show wpAny _ _ (execs _ _) _ _ _
  exact wpAny_execs_nil (hq h₃ tk₃ dx (fun b o hb e => k₃ b o hb (k b o e)) hx₃ (Nat.le_of_lt (Nat.lt_of_lt_of_le z dn)) dne hn₃)
theorem made_LimitExceeded (T : ExcT K mg C fI "LimitExceeded" ["limit"] "LimitExceeded.__init__" J.s_LimitExceeded_init) {v0 : Value} (X : K.In s.heap) (hlim : s.heap.NoLimit) (hroom : A.depth + 1 < recursionLimit)
    (hq : ∀ h' tk e d, OwnMade s.heap h' e C d (fun y => if y = "limit" then some v0 else none) → R (.ok (.ret (.ref e))) { s with heap := h', toks := tk }) :
    codeAny (model prog w) A (.call (.ref C) ⟨[v0], []⟩) R s := by
  obtain ⟨nm, q, N, bs, bm, sn, sub, ab, col, dd, k0, k1, k2, k3, k5, hC, hbm⟩ := T.cls
  obtain ⟨hp, g, dr, tk, os⟩ := s
  have k : ∀ b o, hp.get? b = some o → ((hp.push (kdv_tup [v0])).push (excO C hp.objs.size)).get? b = some o := fun b o e => Heap.get?_push_of_some _ (Heap.get?_push_of_some _ e)
  have hget : ((hp.push (kdv_tup [v0])).push (excO C hp.objs.size)).get? (hp.objs.size + 1) = some (excO C hp.objs.size) := by heap_get
  have hnx : K.lookup (hp.objs.size + 1) = none := by
    cases e : K.lookup (hp.objs.size + 1) with
    | none => rfl
    | some o =>
      have z : hp.get? (hp.objs.size + 1) = some o := X _ _ e
      exact absurd (Nat.lt_of_succ_lt (Heap.lt_size z)) (Nat.lt_irrefl _)
  refine call_own F.excBase_Exception (fun X => refsEX_contains X bm hbm) (X _ _ hC) (looks_findIn X T.iC) (fun self => bind_fn X self T.tC) (by show 1 ≤ sizeLine; rw [sizeLine_eq]; decide) ?_
  refine init_LimitExceeded (s := ⟨(hp.push (kdv_tup [v0])).push (excO C hp.objs.size), g, dr, tk, os⟩) T (X.keeps k) (hlim.keeps k) hget hnx ?_ fun h' tk' dx k' hx dn dne hns => ?_
  · show A.depth + 1 < recursionLimit
    exact hroom
  · have old : ∀ b o, hp.get? b = some o → h'.get? b = some o := fun b o e => k' b o (Nat.ne_of_lt (Nat.lt_succ_of_lt (Heap.lt_size e))) (k b o e)
    have z : hp.objs.size + 1 + 1 ≤ dx := by
      first
        | (simpa only [Heap.size_push] using dn)
        | exact dn
        | (have q := dn; rw [Heap.size_push, Heap.size_push] at q; exact q)
    exact ⟨rfl, hq h' tk' (hp.objs.size + 1) dx ⟨old, Nat.le_succ _, ⟨_, _, hx, rfl, rfl, rfl, rfl⟩, Nat.le_trans (Nat.le_trans (Nat.le_succ _) (Nat.le_succ _)) z, dne, hns⟩⟩
end
end ExX
end PySem
namespace L2
open PySem PySem.Spec PyProof.Rows PySem.ExX
def fs_LimitExceeded (x0 : V) : List (Str × V) := [(("limit" : Str), x0)]
theorem rel_LimitExceeded {x0 : V} {v0 : Value} (r0 : RelV x0 v0) (f : Str) : RelO (List.lookup f (fs_LimitExceeded x0)) ((fun y : Str => if y = "limit" then some v0 else none) f) := by
  unfold fs_LimitExceeded
  exact (fun g => relO_put (f := "limit") (fs := []) (mA := fun _ => none) r0 (fun _ => trivial) g) f
section
variable {X : Cx} {C fI : Addr} {es : List Expr} {e : Expr} {ta : TA} {p pos : Pos} {k : Nat}
def tV_LimitExceeded (C : Addr) (ta : TA) : TE := fun σ H Q => ta σ H fun vs H1 => ∃ x0, vs = [x0] ∧ ∀ e d, H1 e = none → H1 d = none → d ≠ e → Q (.ref e) (upd (upd H1 d (.xd (fs_LimitExceeded x0))) e (ExD C d e))
/-- LimitExceeded(..) as a value -/
theorem pe_LimitExceeded (T : ExcT X.K X.mg C fI "LimitExceeded" ["limit"] "LimitExceeded.__init__" J.s_LimitExceeded_init) (hr : Room k X.A) (ha : PA X (e :: es) ta) (hg : Gl X "LimitExceeded" := by rfl)
    (he : starEach (e :: es) X.env = (false, eval e X.env) :: starEach es X.env := by rfl) (hpl : (backTo pos (starEach es X.env)).any (·.1) = false := by rfl) :
    PE X (.Call (.Name "LimitExceeded" p) (e :: es) [] pos) (tV_LimitExceeded C ta) := by
  refine ⟨fun pins s σ H Q I h => ?_⟩
  refine wpAny_Call_Name_kw (ld_glob I hg T.gC ?_)
  refine PySem.W.callWith_K (h₀ := X.base) I.ok.mod.kin T.kC (thn (ha.run pos pins s σ H _ I h) fun us s1 hh => ?_) he hpl
  obtain ⟨vs, H1, I1, r1, x0, ev, q1⟩ := hh
  subst ev
  refine ⟨I1.kIn, ?_⟩
  cases r1 with
  | cons r0 rn =>
  cases rn
  have hlim := I1.nolimit
  obtain ⟨hp, g, dr, tk, os⟩ := s1
  refine wpAny_call (made_LimitExceeded T I1.kIn hlim (by have := hr.dp; omega) fun h' tk' e d M => ?_)
  exact ⟨.ref e, _, own_value (tk' := tk') I1 M (rel_LimitExceeded r0), rfl, q1 e d (I1.hok.fresh M.new) (I1.hok.fresh M.dbig) M.dne⟩
def tMk_LimitExceeded (C : Addr) (ta : TA) : St → Hp → XK → Prop := fun σ H Q => ta σ H fun vs H1 => ∃ x0, vs = [x0] ∧ ∀ d, H1 d = none → Q (.ref C) (some d) (upd H1 d (.xd (fs_LimitExceeded x0)))
/-- LimitExceeded(..) to be raised -/
theorem pmk_LimitExceeded (T : ExcT X.K X.mg C fI "LimitExceeded" ["limit"] "LimitExceeded.__init__" J.s_LimitExceeded_init) (hr : Room k X.A) (ha : PA X (e :: es) ta) (hg : Gl X "LimitExceeded" := by rfl)
    (he : starEach (e :: es) X.env = (false, eval e X.env) :: starEach es X.env := by rfl) (hpl : (backTo pos (starEach es X.env)).any (·.1) = false := by rfl) :
    PMk X (.Call (.Name "LimitExceeded" p) (e :: es) [] pos) (tMk_LimitExceeded C ta) := by
  intro pins s σ H Q I h
  refine wpAny_Call_Name_kw (ld_glob I hg T.gC ?_)
  refine PySem.W.callWith_K (h₀ := X.base) I.ok.mod.kin T.kC (thn (ha.run pos pins s σ H _ I h) fun us s1 hh => ?_) he hpl
  obtain ⟨vs, H1, I1, r1, x0, ev, q1⟩ := hh
  subst ev
  refine ⟨I1.kIn, ?_⟩
  cases r1 with
  | cons r0 rn =>
  cases rn
  have hlim := I1.nolimit
  obtain ⟨hp, g, dr, tk, os⟩ := s1
  refine wpAny_call (made_LimitExceeded T I1.kIn hlim (by have := hr.dp; omega) fun h' tk' e d M => ?_)
  exact own_raise (tk' := tk') I1 M (rel_LimitExceeded r0) (raises_own T.exC T.tyC) q1
end
end L2

set_option Elab.async false
set_option linter.all false
set_option maxRecDepth 100000
set_option maxHeartbeats 4000000
namespace J
open PySem L2
/-- the letters of outer books -/
def lets : List (List Nat) := [[97], [97, 98], [97, 98, 99], [97, 98, 99, 100], [112], [112, 113], [112, 113, 114], [112, 113, 114, 115], [97, 100], [97, 100, 120], [97, 100, 120, 122]]
theorem occ34 : ∀ l ∈ lets, ∀ c ∈ l, Builtin.Str.occurrences (SX.S l) (SX.S [c]) 0 (SX.S l).length 1 = [l.idxOf c] := by decide +kernel
/-- the word that stands for the sign c -/
def pc (ws : List (List Nat)) (lt : List Nat) (c : Nat) : List Nat := ws.getD (lt.idxOf c) []
def spell (ws : List (List Nat)) (lt : List Nat) (u : List Nat) : List Nat := (u.map (pc ws lt)).flatten
def Big (ms : List (List Nat)) : Prop := ∃ u ∈ ms, 12 < u.length
theorem pc_at {ws : List (List Nat)} {lt : List Nat} {c : Nat} (hl : lt.length ≤ ws.length) (hc : c ∈ lt) : ws[lt.idxOf c]? = some (pc ws lt c) ∧ pc ws lt c ∈ ws := by
  have h : lt.idxOf c < ws.length := Nat.lt_of_lt_of_le (List.idxOf_lt_length_of_mem hc) hl
  have e : pc ws lt c = ws[lt.idxOf c] := by
    unfold pc
    rw [List.getD_eq_getElem?_getD, List.getElem?_eq_getElem h]
    rfl
  rw [e]
  exact ⟨List.getElem?_eq_getElem h, List.getElem_mem h⟩
theorem flat_len {ls : List (List Nat)} {k : Nat} (h : ∀ l ∈ ls, l.length ≤ k) : ls.flatten.length ≤ k * ls.length := by
  induction ls with
  | nil => simp
  | cons a r ih =>
    have h1 := h a (by simp)
    have h2 := ih fun l hl => h l (List.mem_cons_of_mem _ hl)
    rw [List.flatten_cons, List.length_append, List.length_cons, Nat.mul_add]
    omega
theorem sum_flat (ls : List (List Nat)) : ((ls.map SX.S).map (·.length)).sum = ls.flatten.length := by
  induction ls with
  | nil => rfl
  | cons a r ih => rw [List.map_cons, List.map_cons, List.sum_cons, ih, SX.S_len, List.flatten_cons, List.length_append]
theorem spell_len {ws : List (List Nat)} {lt u : List Nat} (hl : lt.length ≤ ws.length) (hw : ∀ v ∈ ws, v.length ≤ 12) (hu : Word lt u) : (spell ws lt u).length ≤ 144 := by
  have h := flat_len (ls := u.map (pc ws lt)) (k := 12) fun l h => by
    obtain ⟨c, hc, rfl⟩ := List.mem_map.mp h
    exact hw _ (pc_at hl (hu.2.2 c hc)).2
  rw [List.length_map] at h
  have := hu.2.1
  unfold spell
  omega
theorem spell_word {ws : List (List Nat)} {sg lt u : List Nat} (hl : lt.length ≤ ws.length) (hw : ∀ v ∈ ws, Word sg v) (hu : Word lt u) (hn : (spell ws lt u).length ≤ 12) : Word sg (spell ws lt u) := by
  refine ⟨?_, hn, fun c hc => ?_⟩
  · obtain ⟨d, r, rfl⟩ : ∃ d r, u = d :: r := by
      cases u with
      | nil => have := hu.1; simp at this
      | cons d r => exact ⟨d, r, rfl⟩
    have := (hw _ (pc_at hl (hu.2.2 d (by simp))).2).1
    unfold spell
    rw [List.map_cons, List.flatten_cons, List.length_append]
    omega
  · obtain ⟨l, h1, h2⟩ := List.mem_flatten.mp hc
    obtain ⟨d, hd, rfl⟩ := List.mem_map.mp h1
    exact (hw _ (pc_at hl (hu.2.2 d hd)).2).2.2 c h2
def spJoined (C CU CL : Addr) : Sp := fun vs H Q E => ∃ (p q : Addr) (sg lt : List Nat) (us us' : List V) (ws os : List (List Nat)), vs = [.ref p, .ref q] ∧ LoomAt C H p sg us (bka ws) ∧ LoomAt C H q lt us' (bka os) ∧
  ((lt.length ≠ ws.length ∧ ∀ H', Same H H' → E (.ref CU) none H') ∨
   (lt.length = ws.length ∧ lt ∈ lets ∧ (Big (os.map (spell ws lt)) → ∀ H' e, Same H H' → H' e = some (.xd (fs_LimitExceeded (.int 12))) → E (.ref CL) (some e) H') ∧
    (¬ Big (os.map (spell ws lt)) → ∀ H' r us, Same H H' → H r = none → LoomAt C H' r sg us (bka (os.map (spell ws lt))) → Q (.ref r) H')))
section
variable {P : Program} {w : World} {K : PySem.W.Frag} {mg : Str → Option Value} {base : Heap}
end
end J


set_option Elab.async false
set_option linter.all false
set_option maxRecDepth 100000
set_option maxHeartbeats 4000000
namespace J
open PySem L2
theorem pe_fldK {X : Cx} {K : PySem.W.Frag} (hK : X.K = K) {e : Expr} {ta : TE} {f : Str} {pos : Pos} (he : PE X e ta) (hb : attributeBase e f X.env (eval e X.env) = eval e X.env) : PE X (.Attribute e f pos) (tFld K ta f) := by
  subst hK
  exact pe_fld he hb
def scJ : Scope := { kind := ScopeKind.function, names := [(Str.ofString ".0", NameKind.local), (Str.ofString "word", NameKind.local), (Str.ofString "outer", NameKind.cell), (Str.ofString "told", NameKind.cell)], isGenerator := false, isCoroutine := false }
def rJn (K : PySem.W.Frag) : V → List V → Hp → VK → Prop := fun x xs H Q => ∃ (a : Str) (p : Addr) (ys : List Str), x = .str a ∧ xs = [.ref p] ∧ (SqL K H p (ys.map V.str) ∨ SqT K H p (ys.map V.str)) ∧ (ys.map (·.length)).sum + ys.length * a.length ≤ 16777216 ∧ Q (.str (Txt.join a ys)) H
theorem pe_joinK {X : Cx} {K : PySem.W.Frag} (hK : X.K = K) {o e : Expr} {to te : TE} {apos pos : Pos} (ho : PE X o to) (he : PE X e te) (hs : starEach [e] X.env = [(false, eval e X.env)] := by rfl) (hbase : attributeBase o "join" X.env (eval o X.env) = eval o X.env := by rfl) (hline : (apos.endLine == pos.line) = true := by rfl) :
    PE X (.Call (.Attribute o "join" apos) [e] [] pos) (tM1 (rJn K) to te) := by
  subst hK
  exact pe_join ho he hs hbase hline
theorem iteF' {b : Bool} {a c : Prop} (h : ¬ b = true) (q : c) : if b = true then a else c := by rw [if_neg h]; exact q
theorem max_big {ms : List (List Nat)} {m : Int} (h1 : m ∈ (ms.map fun u => ((u.length : Nat) : Int))) (h2 : ∀ y, y ∈ (ms.map fun u => ((u.length : Nat) : Int)) → y ≤ m) : Big ms ↔ m > 12 := by
  constructor
  · rintro ⟨u, hu, h⟩
    have := h2 _ (List.mem_map.mpr ⟨u, hu, rfl⟩)
    omega
  · intro h
    obtain ⟨u, hu, rfl⟩ := List.mem_map.mp h1
    exact ⟨u, hu, by omega⟩
def lensI (ms : List (List Nat)) : List V := (ms.map fun u => ((u.length : Nat) : Int)).map V.int
section
variable {P : Program} {w : World} {K : PySem.W.Frag} {mg : Str → Option Value} {base : Heap}
theorem ok_joined (T : Tx K mg) : FnOk P w K mg base (L2.CX P w) 7 T.f_joined T.fd_joined P_joined (spJoined T.C_Loom T.C_Unlike T.C_LimitExceeded) := by
  have G_words : FnOk P w K mg base CX0 3 T.f_words T.fd_words P_words (spPWords T.C_Loom) := ok_words T
  have G_check_book : FnOk P w K mg base CX0 2 T.f_check_book T.fd_check_book P_check_book (spChkBook T.C_Loom) := ok_check_book T
  have G_book : FnOk P w K mg base CX0 6 T.f_book T.fd_book P_book (spBook T.C_Loom) := ok_book T
  refine T.F_joined.okX sc_joined (fun vs H Q E h => ?_) (fun cdv A outer s H vs Q E hr h => ?_)
  · obtain ⟨p, q, sg, lt, us, us', ws, os, rfl, _⟩ := h
    rfl
  · obtain ⟨p, q, sg, lt, us, us', ws, os, rfl, hp0, hq0, h⟩ := h
    refine ⟨_, (pss_cons (ps_set (i := 2) sc_joined.nd rfl (Or.inr rfl) (pe_call G_words (hr.mono (by decide)) rfl T.m_words T.F_words.kp T.b_words .nil pass0 (pa_cons (pv 0) pa_nil)))
        (pss_cons (ps_expr (pe_call G_check_book (hr.mono (by decide)) rfl T.m_check_book T.F_check_book.kp T.b_check_book .nil pass0 (pa_cons (pv 1) pa_nil)))
        (pss_cons (ps_if (pt_cmpR op_ne (pe_callB call_len_str rfl T.n_len (by decide +kernel) (pa_cons (pe_fld (pv 1) rfl) pa_nil)) (pe_callB (call_len_seqK (K := K) rfl) rfl T.n_len (by decide +kernel) (pa_cons (pv 2) pa_nil)) (nomark _)) (pss_one (ps_raise rfl (takes_of rfl rfl rfl rfl) (pmk_own0 PySem.F.excBase_Exception T.in_Unlike T.g_Unlike T.kc_Unlike (raises_own T.E_Unlike.hs T.ty_Unlike) rfl))) pss_nil)
        (pss_cons (ps_setLc (i := 3) (own := [("word", 4)]) (g := (gName 4)) rfl sc_joined.nd rfl rfl (sw_true rfl rfl rfl (by decide +kernel)) (pi_list (pe_call G_words (hr.mono (by decide)) rfl T.m_words T.F_words.kp T.b_words .nil pass0 (pa_cons (pv 1) pa_nil))) (blkOk_by (N := N_joined) (sc := defScope s_joined) (by decide +kernel)) (fun _ _ _ _ _ => (pg_name (i := 4) sc_joined.nd rfl (Or.inl rfl))) (fun _ _ _ _ _ => pts_nil) (fun _ _ _ _ _ => (pe_joinK (K := K) rfl pe_str (pe_lc (own := [("sign", 5)]) (g := (gName 5)) rfl sc_joined.nd (pi_str (pv 4)) (blkOk_by (N := N_joined) (sc := scJ) (by decide +kernel)) (fun _ _ _ _ _ => (pg_name (i := 5) sc_joined.nd rfl (Or.inl rfl))) (fun _ _ _ _ _ => pts_nil) (fun _ _ _ _ _ => (pe_ix (ix_listK (K := K) rfl) (pv 2) (pe_bmK (K := K) rfl PySem.F.plainAttrs_str PySem.F.slot_str_index PySem.F.type_str_index mt_sindex (pe_fldK (K := K) rfl (pv 1) rfl) (pa_cons (pv 5) pa_nil)) (fun _ _ => rfl)))))))
        (pss_cons (ps_if (pt_cmpR op_gt (pe_callB (cr_max rfl) rfl T.n_max (by decide +kernel) (pa_cons (pe_lc (own := [("word", 4)]) (g := (gName 4)) rfl sc_joined.nd (pi_list (pv 3)) (blkOk_by (N := N_joined) (sc := defScope s_joined) (by decide +kernel)) (fun _ _ _ _ _ => (pg_name (i := 4) sc_joined.nd rfl (Or.inl rfl))) (fun _ _ _ _ _ => pts_nil) (fun _ _ _ _ _ => (pe_callB call_len_str rfl T.n_len (by decide +kernel) (pa_cons (pv 4) pa_nil)))) pa_nil)) (pe_glob (v := V.int 12) rfl T.g_LONGEST_WORD ⟨_, rfl⟩) (nomark _)) (pss_one (ps_raise rfl (takes_of rfl rfl rfl rfl) (pmk_LimitExceeded (k := 3) T.X_LimitExceeded (hr.mono (by decide)) (pa_cons (pe_glob (v := V.int 12) rfl T.g_LONGEST_WORD ⟨_, rfl⟩) pa_nil)))) pss_nil)
        (pss_one (ps_ret (pe_call G_book (hr.mono (by decide)) rfl T.m_book T.F_book.kp T.b_book .nil pass0 (pa_cons (pe_fld (pv 0) rfl) (pa_cons (pv 3) pa_nil)))))))))), ?_⟩
    obtain ⟨_, _, _, _, _, hokp, hsg⟩ := id hp0
    obtain ⟨_, _, _, _, _, hokq, hltS⟩ := id hq0
    obtain ⟨w1, w2, w3⟩ := bka_words hokp
    obtain ⟨o1, o2, o3⟩ := bka_words hokq
    refine ⟨_, rfl, p, sg, us, ws, rfl, hp0, fun H1 r s1 hr0 hr1 => ?_⟩
    refine ⟨_, rfl, q, lt, us', bka os, rfl, hq0.same s1, kd_book os, fun H2 s2 => ?_⟩
    have s02 := s1.trans s2
    obtain ⟨dxq, Tq, hq, hTq, harcq, _, _⟩ := hq0.same s02
    have hr2 := s2 _ _ hr1
    refine ⟨_, rfl, q, _, dxq, _, _, rfl, hq, T.cl_Loom, T.na_Loom_signs, lf_signs _ _, _, rfl, le_size (by rw [SX.S_len]; have := hltS.len; omega), _, rfl, r, _, rfl, .inl (SqL.of hr2), rfl, _, rfl, ?_⟩
    rw [SX.S_len, txts, List.length_map]
    rcases h with ⟨hne, k⟩ | ⟨hle, hlt, kb, kn⟩
    · refine ite2 (fun c => k H2 s02) (fun c => absurd ?_ c)
      simp only [Bool.not_eq_true', decide_eq_false_iff_not]
      intro z
      injection z with z
      omega
    refine iteF' (by rw [hle]; simp) ?_
    have hpw : ∀ v ∈ ws, v.length ≤ 12 := fun v hv => (w3 v hv).2.1
    refine ⟨_, rfl, q, lt, us', os, rfl, hq0.same s02, fun H3 r2 s3 hr20 hr21 => ⟨r2, rfl, ⟨_, SqL.of hr21⟩, fun D hD => lc_list (K := K) (a := r2) (xs := txts os) (fun i H' => H' D = some (.lst (txts ((os.take i).map (spell ws lt)))) ∧ Same H3 H') ⟨upd_same, Same.new _ hD⟩ (fun i H' _ ⟨_, sm⟩ => SqL.of (sm _ _ hr21)) ?_ ?_⟩⟩
    · rintro i y H4 hy ⟨hDl, sm⟩
      obtain ⟨u, hu, rfl⟩ := txt_at hy
      have hio := (List.getElem?_eq_some_iff.mp hu).1
      have hwu := o3 u (List.mem_of_getElem? hu)
      have hul := hwu.2.1
      have hq4 := sm _ _ (s3 _ _ hq)
      have hr4 := sm _ _ (s3 _ _ hr2)
      refine ⟨rfl, ⟨_, rfl⟩, _, rfl, _, rfl, fun D2 hD2 => lc_it (walk_str (z := SX.S u)) (fun i H' => H' D2 = some (.lst ((((u.take i).map (pc ws lt)).map SX.S).map V.str)) ∧ Same H4 H') ⟨upd_same, Same.new _ hD2⟩ (fun _ _ _ _ => trivial) ?_ ?_⟩
      · rintro j x H5 H6 hj ⟨hD5, sm5⟩ ⟨rfl, c, hc, rfl⟩
        have hc2 : u[j]? = some c := by simpa using hc
        have hcl := hwu.2.2 c (List.mem_of_getElem? hc2)
        obtain ⟨p1, p2⟩ := pc_at (ws := ws) (Nat.le_of_eq hle) hcl
        have hta : (txts ws)[lt.idxOf c]? = some (.str (SX.S (pc ws lt c))) := by rw [txts, List.getElem?_map, p1]; rfl
        refine ⟨rfl, _, rfl, _, rfl, q, _, dxq, _, _, rfl, sm5 _ _ hq4, T.cl_Loom, T.na_Loom_signs, lf_signs _ _, rfl, _, rfl, SX.S lt, SX.S [c], lt.idxOf c, [], rfl, rfl, occ34 lt hlt c hcl, r, _, _, _, rfl, rfl, SqL.of (sm5 _ _ hr4), atI_nat hta, ?_⟩
        refine ⟨_, hD5, lt_size (by simp; omega), ?_, sm5.updNew hD2⟩
        rw [upd_same, ← take_snoc hc2]
        simp
      · rintro H5 ⟨hD5, sm5⟩
        have et : u.take (SX.S u).cps.size = u := List.take_of_length_le (Nat.le_of_eq (SX.S_len u).symm)
        rw [et] at hD5
        refine ⟨_, _, (u.map (pc ws lt)).map SX.S, rfl, rfl, .inl (SqL.of hD5), ?_, ?_⟩
        · have := spell_len (Nat.le_of_eq hle) hpw hwu
          rw [sum_flat, emptyS, SX.S_len, List.length_nil, Nat.mul_zero, Nat.add_zero]
          exact Nat.le_trans this (by decide)
        · rw [emptyS, join_flat]
          refine ⟨_, sm5 _ _ hDl, lt_size (by rw [txts, List.length_map, List.length_map, List.length_take]; omega), ?_, (sm.trans sm5).updNew hD⟩
          rw [upd_same, ← take_snoc hu]
          simp [txts, spell]
    · rintro H4 ⟨hDl, sm⟩
      have wl : (txts os).length = os.length := by rw [txts, List.length_map]
      rw [wl, List.take_length] at hDl
      have s04 := (s02.trans s3).trans sm
      have hD0 := (s02.trans s3).free hD
      generalize hms : os.map (spell ws lt) = ms at *
      have hml : ms.length = os.length := by rw [← hms, List.length_map]
      have hmw : ∀ u ∈ ms, u.length ≤ 144 := fun u hu => by
        rw [← hms] at hu
        obtain ⟨v, hv, rfl⟩ := List.mem_map.mp hu
        exact spell_len (Nat.le_of_eq hle) hpw (o3 v hv)
      refine ⟨_, rfl, D, rfl, ⟨_, SqL.of hDl⟩, fun D3 hD3 => lc_list (K := K) (a := D) (xs := txts ms) (fun i H' => H' D3 = some (.lst (lensI (ms.take i))) ∧ Same H4 H') ⟨upd_same, Same.new _ hD3⟩ (fun i H' _ ⟨_, sm⟩ => SqL.of (sm _ _ hDl)) ?_ ?_⟩
      · rintro i y H5 hy ⟨hD5, sm5⟩
        obtain ⟨u, hu, rfl⟩ := txt_at hy
        have hio := (List.getElem?_eq_some_iff.mp hu).1
        have := hmw u (List.mem_of_getElem? hu)
        refine ⟨rfl, _, rfl, _, rfl, le_size (by rw [SX.S_len]; omega), _, hD5, lt_size (by simp [lensI]; omega), ?_, sm5.updNew hD3⟩
        rw [upd_same, ← take_snoc hu, SX.S_len]
        simp [lensI]
      · rintro H5 ⟨hD5, sm5⟩
        have wl2 : (txts ms).length = ms.length := by rw [txts, List.length_map]
        rw [wl2, List.take_length] at hD5
        refine ⟨D3, ms.map (fun u : List Nat => ((u.length : Nat) : Int)), rfl, SqL.of (show H5 D3 = some (.lst ((ms.map (fun u : List Nat => ((u.length : Nat) : Int))).map V.int)) from hD5), by rw [List.length_map]; omega, fun m hm1 hm2 => ?_⟩
        have hbig := max_big hm1 hm2
        refine ⟨_, _, rfl, rfl, _, rfl, ?_⟩
        have s05 := s04.trans sm5
        refine ite2 (fun c => ?_) (fun c => ?_)
        · have c1 := of_decide_eq_true c
          exact ⟨_, rfl, fun e he => kb (hbig.mpr c1) _ e (s05.trans (Same.new _ he)) upd_same⟩
        · have c1 : ¬ Big ms := fun z => c (decide_eq_true (hbig.mp z))
          obtain ⟨dxp, Tp, hp, _, _, _, _⟩ := hp0.same s05
          have hmk : ∀ u ∈ ms, Word sg u := fun u hu => by
            have hn : u.length ≤ 12 := Nat.le_of_not_lt fun z => c1 ⟨u, hu, z⟩
            rw [← hms] at hu
            obtain ⟨v, hv, rfl⟩ := List.mem_map.mp hu
            exact spell_word (Nat.le_of_eq hle) w3 (o3 v hv) hn
          refine ⟨_, rfl, p, _, dxp, _, _, rfl, hp, T.cl_Loom, T.na_Loom_signs, lf_signs _ _, _, rfl, D, sg, ms, rfl, .inl (sm5 _ _ hDl), hsg, by omega, by omega, hmk, fun H6 r3 us6 s6 hr30 hL => ?_⟩
          exact kn c1 H6 r3 us6 (s05.trans s6) (s05.free hr30) hL
end
end J


set_option Elab.async false
set_option linter.all false
set_option maxRecDepth 100000
set_option maxHeartbeats 4000000
namespace J
open PySem L2
/-! ### arcs by their states -/
def lvs (g : Nat) : Nat → List Arc → List (Nat × List Nat × Nat)
  | _, [] => []
  | n, a :: r => if a.1 = g then (n, a.2.1, a.2.2) :: lvs g (n + 1) r else lvs g (n + 1) r
theorem lvs_snoc (g : Nat) (b : Arc) : ∀ (as : List Arc) (n : Nat), lvs g n (as ++ [b]) = lvs g n as ++ (if b.1 = g then [(n + as.length, b.2.1, b.2.2)] else [])
  | [], n => by
    by_cases c : b.1 = g
    · simp [lvs, c]
    · simp [lvs, c]
  | a :: r, n => by
    have ih := lvs_snoc g b r (n + 1)
    have e : n + 1 + r.length = n + (a :: r).length := by rw [List.length_cons]; omega
    rw [e] at ih
    show (if a.1 = g then (n, a.2.1, a.2.2) :: lvs g (n + 1) (r ++ [b]) else lvs g (n + 1) (r ++ [b])) = (if a.1 = g then (n, a.2.1, a.2.2) :: lvs g (n + 1) r else lvs g (n + 1) r) ++ _
    rw [ih]
    by_cases c : a.1 = g
    · rw [if_pos c, if_pos c]; rfl
    · rw [if_neg c, if_neg c]
theorem lvs_len (g : Nat) : ∀ (as : List Arc) (n : Nat), (lvs g n as).length ≤ as.length
  | [], _ => Nat.zero_le _
  | a :: r, n => by
    have ih := lvs_len g r (n + 1)
    show (if a.1 = g then (n, a.2.1, a.2.2) :: lvs g (n + 1) r else lvs g (n + 1) r).length ≤ r.length + 1
    by_cases c : a.1 = g
    · rw [if_pos c, List.length_cons]; omega
    · rw [if_neg c]; omega
def entHO (e : Nat × List Nat × Nat) : HO := .tup [.int (e.1 : Nat), .str (SX.S e.2.1), .int (e.2.2 : Nat)]
def Lv (H : Hp) (us : List V) (ls : List (Nat × List Nat × Nat)) : Prop := us.length = ls.length ∧ ∀ (i : Nat) e, ls[i]? = some e → ∃ t, us[i]? = some (.ref t) ∧ H t = some (entHO e)
theorem Lv.same {H H' : Hp} {us : List V} {ls : List (Nat × List Nat × Nat)} (h : Lv H us ls) (s : Same H H') : Lv H' us ls := ⟨h.1, fun i e he => by
  obtain ⟨t, h1, h2⟩ := h.2 i e he
  exact ⟨t, h1, s _ _ h2⟩⟩
/-- what is no tuple may change -/
theorem Lv.to {H H' : Hp} {us : List V} {ls : List (Nat × List Nat × Nat)} (h : Lv H us ls) (s : ∀ t xs, H t = some (.tup xs) → H' t = some (.tup xs)) : Lv H' us ls := ⟨h.1, fun i e he => by
  obtain ⟨t, h1, h2⟩ := h.2 i e he
  exact ⟨t, h1, s _ _ h2⟩⟩
theorem Lv.snoc {H : Hp} {us : List V} {ls : List (Nat × List Nat × Nat)} (h : Lv H us ls) {t : Addr} {e : Nat × List Nat × Nat} (ht : H t = some (entHO e)) : Lv H (us ++ [.ref t]) (ls ++ [e]) := by
  refine ⟨by rw [List.length_append, List.length_append, h.1]; rfl, fun i f hf => ?_⟩
  by_cases c : i < ls.length
  · rw [List.getElem?_append_left c] at hf
    obtain ⟨u, h1, h2⟩ := h.2 i f hf
    exact ⟨u, by rw [List.getElem?_append_left (by rw [h.1]; exact c)]; exact h1, h2⟩
  · have hi : i = ls.length := by
      have := (List.getElem?_eq_some_iff.mp hf).1
      rw [List.length_append, List.length_singleton] at this
      omega
    subst hi
    rw [List.getElem?_append_right (Nat.le_refl _)] at hf
    simp at hf
    subst hf
    exact ⟨t, by rw [List.getElem?_append_right (by rw [h.1]; exact Nat.le_refl _), h.1]; simp, ht⟩
/-- the table of the arcs at d; all of it is new since H0 -/
def TabS (H0 H : Hp) (d : Addr) (as : List Arc) : Prop := ∃ (kvs : List (Key × V)) (at_ : Nat → Addr), H0 d = none ∧ H d = some (.dK kvs) ∧ kvs.length ≤ as.length ∧
  (∀ g, lvs g 0 as = [] → valV kvs (.inl (g : Int)) = none) ∧
  (∀ g, lvs g 0 as ≠ [] → valV kvs (.inl (g : Int)) = some (.ref (at_ g)) ∧ H0 (at_ g) = none ∧ ∃ us, H (at_ g) = some (.lst us) ∧ Lv H us (lvs g 0 as)) ∧
  (∀ g g', lvs g 0 as ≠ [] → lvs g' 0 as ≠ [] → at_ g = at_ g' → g = g')
theorem TabS.same {H0 H H' : Hp} {d : Addr} {as : List Arc} (h : TabS H0 H d as) (s : Same H H') : TabS H0 H' d as := by
  obtain ⟨kvs, at_, h0, h1, h2, h3, h4, h5⟩ := h
  refine ⟨kvs, at_, h0, s _ _ h1, h2, h3, fun g hg => ?_, h5⟩
  obtain ⟨e1, e2, us, e3, e4⟩ := h4 g hg
  exact ⟨e1, e2, us, s _ _ e3, e4.same s⟩
def spArcsBy (C : Addr) : Sp := fun vs H Q _ => ∃ (q : Addr) (sg : List Nat) (us : List V) (as : List Arc), vs = [.ref q] ∧ LoomAt C H q sg us as ∧ ∀ (H' : Hp) (d : Addr), Same H H' → TabS H H' d as → Q (.ref d) H'
section
variable {P : Program} {w : World} {K : PySem.W.Frag} {mg : Str → Option Value} {base : Heap}
theorem ok_arcs_by_state (T : Tx K mg) : FnOk P w K mg base CX0 1 T.f_arcs_by_state T.fd_arcs_by_state P_arcs_by_state (spArcsBy T.C_Loom) := by
  refine T.F_arcs_by_state.ok sc_arcs_by_state (fun vs H Q E h => ?_) (fun cdv A outer s H vs Q E hr h => ?_)
  · obtain ⟨q, sg, us, as, rfl, _⟩ := h
    rfl
  · obtain ⟨q, sg, us, as, rfl, ⟨dx, TT, hq, hT, harc, hok, hsg⟩, k⟩ := h
    refine ⟨_, (pss_cons (ps_set (i := 1) sc_arcs_by_state.nd rfl (Or.inl rfl) pe_dnewK)
        (pss_cons (ps_for PassesOwn.never rfl (pi_enumT rfl T.n_enumerate (pa_cons (pe_fld (pv 0) rfl) pa_nil)) (pg_tup rfl (pgs_cons (pg_name (i := 2) sc_arcs_by_state.nd rfl (Or.inl rfl)) (pgs_cons (pg_tup rfl (pgs_cons (pg_name (i := 3) sc_arcs_by_state.nd rfl (Or.inl rfl)) (pgs_cons (pg_name (i := 4) sc_arcs_by_state.nd rfl (Or.inl rfl)) (pgs_cons (pg_name (i := 5) sc_arcs_by_state.nd rfl (Or.inl rfl)) pgs_nil)))) pgs_nil))) (pss_one (ps_expr (pe_bm PySem.F.plainAttrs_list PySem.F.slot_list_append PySem.F.type_list_append mt_append (pe_dsetd (pv 1) (pv 3) (pe_lst pa_nil) ⟨rfl, rfl, rfl, rfl⟩) (pa_cons (pe_tup (pa_cons (pv 2) (pa_cons (pv 4) (pa_cons (pv 5) pa_nil)))) pa_nil)))))
        (pss_one (ps_ret (pv 1))))), ?_⟩
    intro d hd
    have s1 : Same H (upd H d (.dK [])) := Same.new _ hd
    have g1 : upd H d (.dK []) d = some (.dK []) := upd_same
    generalize upd H d (.dK []) = H1 at *
    have hl := hok.2.1
    refine ⟨_, rfl, q, _, dx, _, _, rfl, s1 _ _ hq, T.cl_Loom, T.na_Loom_arcs, lf_arcs _ _, TT, us, rfl, SqT.of (s1 _ _ hT), for_it (walk_enumT (K := K) (a := TT) (xs := us)) (fun i σ H' => ∃ v2 v3 v4 v5 : Option V, σ = [some (.ref q), some (.ref d), v2, v3, v4, v5] ∧ Same H H' ∧ TabS H H' d (as.take i)) ?_ ?_ ?_ ?_⟩
    · exact ⟨none, none, none, none, rfl, s1, [], fun _ => 0, hd, g1, Nat.zero_le _, fun g _ => rfl, fun g h => absurd rfl h, fun g g' h => absurd rfl h⟩
    · rintro i σ H' _ ⟨_, _, _, _, _, sm, _⟩
      exact SqT.of (sm _ _ hT)
    · rintro i x σ H3 H4 hi ⟨v2, v3, v4, v5, rfl, s3, tab⟩ ⟨tp, x1, y1, rfl, ht, rfl, hx1, hy1⟩
      cases hx1
      have hia : i < as.length := by rw [← harc.1]; exact hi
      obtain ⟨t, hut, htt⟩ := harc.2 i as[i] (List.getElem?_eq_getElem hia)
      replace hy1 : us[i]? = some y1 := hy1
      rw [hut] at hy1
      cases hy1
      have sn := Same.new (.tup [V.int (i : Int), .ref t]) ht
      have tab4 := tab.same sn
      have s4 := s3.trans sn
      refine ⟨tp, _, rfl, SqT.of upd_same, rfl, _, _, rfl, _, _, rfl, t, _, rfl, SqT.of (s4 _ _ htt), rfl, _, _, rfl, _, _, rfl, _, _, rfl, rfl, rfl, ?_⟩
      generalize upd H3 tp (.tup [V.int (i : Int), .ref t]) = H4 at *
      clear s3 sn ht hut
      have hai : as[i]? = some as[i] := List.getElem?_eq_getElem hia
      obtain ⟨kvs, at_, h0, hd4, hkl, hnone, hsome, hinj⟩ := tab4
      have hal : (as.take i).length ≤ 200 := by rw [List.length_take]; omega
      refine ⟨_, rfl, d, rfl, .inl ⟨kvs, .inl hd4⟩, _, rfl, le_size (by simp), fun l' hl' => ?_⟩
      have s5 : Same H4 (upd H4 l' (.lst [])) := Same.new _ hl'
      have gl' : upd H4 l' (.lst []) l' = some (.lst []) := upd_same
      have hd5 := s5 _ _ hd4
      have nl'd : l' ≠ d := hp_ne hd4 hl'
      refine ⟨kvs, .inl (as[i].1 : Int), hd5, rfl, lt_size (by omega), fun v hv => ?_, fun hn => ?_⟩
      · have hne : lvs as[i].1 0 (as.take i) ≠ [] := fun z => by rw [hnone _ z] at hv; cases hv
        obtain ⟨e1, e2, us', e3, e4⟩ := hsome _ hne
        rw [e1] at hv
        cases hv
        have hnd : at_ as[i].1 ≠ d := fun z => by rw [z, hd4] at e3; cases e3
        refine ⟨.inl ⟨rfl, _, SqL.of (s5 _ _ e3)⟩, _, rfl, _, rfl, _, rfl, le_size (by simp), fun t2 ht2 => ?_⟩
        have s6 : Same _ (upd (upd H4 l' (.lst [])) t2 (.tup [.int (i : Nat), .str (SX.S as[i].2.1), .int (as[i].2.2 : Nat)])) := s5.trans (Same.new _ ht2)
        have g6 : upd (upd H4 l' (.lst [])) t2 (.tup [.int (i : Nat), .str (SX.S as[i].2.1), .int (as[i].2.2 : Nat)]) t2 = some (entHO (i, as[i].2.1, as[i].2.2)) := upd_same
        refine ⟨at_ as[i].1, us', _, rfl, rfl, s6 _ _ e3, lt_size (by rw [e4.1]; exact Nat.le_trans (lvs_len _ _ _) (by omega)), ?_⟩
        generalize upd (upd H4 l' (.lst [])) t2 (.tup [.int (i : Nat), .str (SX.S as[i].2.1), .int (as[i].2.2 : Nat)]) = H6 at *
        have tk : ∀ t xs, H6 t = some (.tup xs) → upd H6 (at_ as[i].1) (.lst (us' ++ [.ref t2])) t = some (.tup xs) := fun t xs h => by
          rw [upd_ne (fun z => by rw [z, s6 _ _ e3] at h; cases h)]
          exact h
        refine ⟨_, _, _, _, rfl, (s4.trans s6).updNew e2, kvs, at_, h0, by rw [upd_ne hnd.symm]; exact s6 _ _ hd4, by rw [← take_snoc hai, List.length_append]; omega, fun g hg => ?_, fun g hg => ?_, fun g g' hg hg' => ?_⟩
        · rw [← take_snoc hai, lvs_snoc] at hg
          exact hnone g (List.append_eq_nil_iff.mp hg).1
        · rw [← take_snoc hai, lvs_snoc] at hg ⊢
          by_cases c : as[i].1 = g
          · subst c
            rw [if_pos rfl]
            refine ⟨e1, e2, _, upd_same, ?_⟩
            have q := ((e4.same s6).to tk).snoc (tk _ _ g6)
            rw [List.length_take, Nat.min_eq_left (by omega), Nat.zero_add]
            exact q
          · rw [if_neg c, List.append_nil] at hg ⊢
            obtain ⟨f1, f2, us2, f3, f4⟩ := hsome g hg
            refine ⟨f1, f2, us2, ?_, (f4.same s6).to tk⟩
            rw [upd_ne (fun z => c (hinj _ _ hg hne z).symm)]
            exact s6 _ _ f3
        · have back : ∀ g, lvs g 0 (as.take (i + 1)) ≠ [] → lvs g 0 (as.take i) ≠ [] := fun g hg => by
            rw [← take_snoc hai, lvs_snoc] at hg
            by_cases c : as[i].1 = g
            · subst c; exact hne
            · rw [if_neg c, List.append_nil] at hg
              exact hg
          exact hinj g g' (back g hg) (back g' hg')
      · have hemp : lvs as[i].1 0 (as.take i) = [] := by
          by_cases z : lvs as[i].1 0 (as.take i) = []
          · exact z
          · rw [(hsome _ z).1] at hn
            cases hn
        have hHl' : H l' = none := s4.free hl'
        have s6 : Same H (upd (upd H4 l' (.lst [])) d (.dK (putK kvs (.inl (as[i].1 : Int)) (.ref l')))) := (s4.trans s5).updNew h0
        have gd6 : upd (upd H4 l' (.lst [])) d (.dK (putK kvs (.inl (as[i].1 : Int)) (.ref l'))) d = some (.dK (putK kvs (.inl (as[i].1 : Int)) (.ref l'))) := upd_same
        have gl6 : upd (upd H4 l' (.lst [])) d (.dK (putK kvs (.inl (as[i].1 : Int)) (.ref l'))) l' = some (.lst []) := by rw [upd_ne nl'd]; exact gl'
        have k6 : ∀ b o, b ≠ d → H4 b = some o → upd (upd H4 l' (.lst [])) d (.dK (putK kvs (.inl (as[i].1 : Int)) (.ref l'))) b = some o := fun b o n h => by rw [upd_ne n]; exact s5 _ _ h
        generalize upd (upd H4 l' (.lst [])) d (.dK (putK kvs (.inl (as[i].1 : Int)) (.ref l'))) = H6 at *
        refine ⟨.inl ⟨rfl, _, SqL.of gl6⟩, _, rfl, _, rfl, _, rfl, le_size (by simp), fun t2 ht2 => ?_⟩
        have s7 : Same H6 (upd H6 t2 (.tup [.int (i : Nat), .str (SX.S as[i].2.1), .int (as[i].2.2 : Nat)])) := Same.new _ ht2
        have g7 : upd H6 t2 (.tup [.int (i : Nat), .str (SX.S as[i].2.1), .int (as[i].2.2 : Nat)]) t2 = some (entHO (i, as[i].2.1, as[i].2.2)) := upd_same
        generalize upd H6 t2 (.tup [.int (i : Nat), .str (SX.S as[i].2.1), .int (as[i].2.2 : Nat)]) = H7 at *
        refine ⟨l', [], _, rfl, rfl, s7 _ _ gl6, by decide, ?_⟩
        have k8 : ∀ b o, b ≠ d → b ≠ l' → H4 b = some o → upd H7 l' (.lst ([] ++ [.ref t2])) b = some o := fun b o n1 n2 h => by rw [upd_ne n2]; exact s7 _ _ (k6 b o n1 h)
        have old : ∀ g, as[i].1 ≠ g → lvs g 0 (as.take (i + 1)) = lvs g 0 (as.take i) := fun g c => by rw [← take_snoc hai, lvs_snoc, if_neg c, List.append_nil]
        have own : lvs as[i].1 0 (as.take (i + 1)) = [(i, as[i].2.1, as[i].2.2)] := by
          rw [← take_snoc hai, lvs_snoc, if_pos rfl, hemp, List.length_take, Nat.min_eq_left (by omega), Nat.zero_add]
          rfl
        have kne : ∀ g, as[i].1 ≠ g → ¬ ((Sum.inl (g : Int) : Key) = Sum.inl (as[i].1 : Int)) := fun g c z => by
          injection z with z
          exact c (by omega)
        obtain ⟨f, fown, fne⟩ : ∃ f : Nat → Addr, f as[i].1 = l' ∧ ∀ g, as[i].1 ≠ g → f g = at_ g := ⟨fun g => if g = as[i].1 then l' else at_ g, if_pos rfl, fun g c => if_neg fun z => c z.symm⟩
        refine ⟨_, _, _, _, rfl, (s6.trans s7).updNew hHl', putK kvs (.inl (as[i].1 : Int)) (.ref l'), f, h0, by rw [upd_ne nl'd.symm]; exact s7 _ _ gd6, ?_, fun g hg => ?_, fun g hg => ?_, fun g g' hg hg' e => ?_⟩
        · have := length_putK kvs (.inl (as[i].1 : Int)) (.ref l')
          rw [← take_snoc hai, List.length_append, List.length_singleton]
          omega
        · by_cases c : as[i].1 = g
          · subst c; rw [own] at hg; cases hg
          · rw [valV_put, if_neg (kne g c)]
            rw [old g c] at hg
            exact hnone g hg
        · by_cases c : as[i].1 = g
          · subst c
            rw [own, valV_put, if_pos rfl, fown]
            refine ⟨rfl, hHl', [.ref t2], upd_same, rfl, fun j e hj => ?_⟩
            cases j with
            | zero =>
              simp at hj
              subst hj
              exact ⟨t2, rfl, by rw [upd_ne (fun z => by rw [z, s7 _ _ gl6] at g7; cases g7)]; exact g7⟩
            | succ j => simp at hj
          · rw [old g c] at hg ⊢
            rw [valV_put, if_neg (kne g c), fne g c]
            obtain ⟨f1, f2, us2, f3, f4⟩ := hsome g hg
            refine ⟨f1, f2, us2, k8 _ _ (fun z => by rw [z, hd4] at f3; cases f3) (fun z => by rw [z, hl'] at f3; cases f3) f3, f4.to fun t xs h => k8 _ _ (fun z => by rw [z, hd4] at h; cases h) (fun z => by rw [z, hl'] at h; cases h) h⟩
        · have far : ∀ g, as[i].1 ≠ g → lvs g 0 (as.take (i + 1)) ≠ [] → at_ g ≠ l' := fun g c h z => by
            rw [old g c] at h
            obtain ⟨_, _, us2, f3, _⟩ := hsome g h
            rw [z, hl'] at f3
            cases f3
          by_cases c : as[i].1 = g
          · by_cases c' : as[i].1 = g'
            · exact c.symm.trans c'
            · subst c
              have e' : l' = at_ g' := by rw [← fown, ← fne g' c']; exact e
              exact absurd e'.symm (far g' c' hg')
          · by_cases c' : as[i].1 = g'
            · subst c'
              have e' : at_ g = l' := by rw [← fown, ← fne g c]; exact e
              exact absurd e' (far g c hg)
            · have e' : at_ g = at_ g' := by rw [← fne g c, ← fne g' c']; exact e
              rw [old g c] at hg
              rw [old g' c'] at hg'
              exact hinj g g' hg hg' e'
    · rintro σ H' ⟨v2, v3, v4, v5, rfl, sm, tab⟩
      have e : as.take us.length = as := by rw [harc.1, List.take_length]
      rw [e] at tab
      exact ⟨_, rfl, k H' d sm tab⟩
end
end J


set_option Elab.async false
set_option linter.all false
set_option maxRecDepth 100000
set_option maxHeartbeats 4000000
namespace J
open PySem L2
/-- w stands at the front of x -/
def pre (x w : List Nat) : Bool := x.take w.length == w
theorem starts0_S (x w : List Nat) : Txt.startswith (SX.S x) (SX.S w) = pre x w := by
  unfold Txt.startswith pre
  rw [PySem.StrLaws.subAt_eq, SX.S_len, SX.S_len]
  show (decide (0 + w.length ≤ x.length) && ((x.drop 0).take w.length == w)) = _
  rw [List.drop_zero]
  cases c : (x.take w.length == w) with
  | false => simp
  | true =>
    have e := congrArg List.length (eq_of_beq c)
    rw [List.length_take] at e
    simp
    omega
theorem cutS_from (x : List Nat) (k : Nat) : cutS (SX.S x) (some (k : Int)) none = SX.S (x.drop k) := by
  unfold cutS
  rw [HT.sIx_nat, HT.sIx_none, SX.S_len]
  show SX.S ((x.drop (min k x.length)).take (x.length - min k x.length)) = _
  congr 1
  by_cases c : k ≤ x.length
  · rw [Nat.min_eq_left c, List.take_of_length_le (by rw [List.length_drop]; exact Nat.le_refl _)]
  · rw [Nat.min_eq_right (by omega), List.drop_eq_nil_of_le (Nat.le_refl _), List.drop_eq_nil_of_le (by omega), List.take_nil]
/-- what is left between two rows: the state behind, the state ahead, the signs between -/
abbrev Rest := Nat × Nat × List Nat
def restHO (r : Rest) : HO := .tup [.int (r.1 : Nat), .int (r.2.1 : Nat), .str (SX.S r.2.2)]
abbrev Step := Rest × Nat × Nat
def stepOf (r : Rest) (e : Nat × List Nat × Nat) : List Step :=
  if pre r.2.2 e.2.1 = true then [((e.2.2, r.2.1, r.2.2.drop e.2.1.length), e.1, 0)] else if pre e.2.1 r.2.2 = true then [((r.2.1, e.2.2, e.2.1.drop r.2.2.length), e.1, 1)] else []
def stepsL (as : List Arc) (r : Rest) : List Step := (lvs r.1 0 as).flatMap (stepOf r)
def StepsAt (H : Hp) (us : List V) (ss : List Step) : Prop := us.length = ss.length ∧ ∀ (i : Nat) s, ss[i]? = some s → ∃ t rt, us[i]? = some (.ref t) ∧ H t = some (.tup [.ref rt, .int (s.2.1 : Nat), .int (s.2.2 : Nat)]) ∧ H rt = some (restHO s.1)
theorem StepsAt.to {H H' : Hp} {us : List V} {ss : List Step} (h : StepsAt H us ss) (s : ∀ t xs, H t = some (.tup xs) → H' t = some (.tup xs)) : StepsAt H' us ss := ⟨h.1, fun i e he => by
  obtain ⟨t, rt, h1, h2, h3⟩ := h.2 i e he
  exact ⟨t, rt, h1, s _ _ h2, s _ _ h3⟩⟩
theorem StepsAt.same {H H' : Hp} {us : List V} {ss : List Step} (h : StepsAt H us ss) (s : Same H H') : StepsAt H' us ss := h.to fun _ _ e => s _ _ e
theorem StepsAt.nil (H : Hp) : StepsAt H [] [] := ⟨rfl, fun i s h => by simp at h⟩
theorem StepsAt.snoc {H : Hp} {us : List V} {ss : List Step} (h : StepsAt H us ss) {t rt : Addr} {s : Step} (ht : H t = some (.tup [.ref rt, .int (s.2.1 : Nat), .int (s.2.2 : Nat)])) (hr : H rt = some (restHO s.1)) : StepsAt H (us ++ [.ref t]) (ss ++ [s]) := by
  refine ⟨by rw [List.length_append, List.length_append, h.1]; rfl, fun i f hf => ?_⟩
  by_cases c : i < ss.length
  · rw [List.getElem?_append_left c] at hf
    obtain ⟨u, ru, h1, h2, h3⟩ := h.2 i f hf
    exact ⟨u, ru, by rw [List.getElem?_append_left (by rw [h.1]; exact c)]; exact h1, h2, h3⟩
  · have hi : i = ss.length := by
      have := (List.getElem?_eq_some_iff.mp hf).1
      rw [List.length_append, List.length_singleton] at this
      omega
    subst hi
    rw [List.getElem?_append_right (Nat.le_refl _)] at hf
    simp at hf
    subst hf
    exact ⟨t, rt, by rw [List.getElem?_append_right (by rw [h.1]; exact Nat.le_refl _), h.1]; simp, ht, hr⟩
theorem step_one (r : Rest) (e : Nat × List Nat × Nat) : (stepOf r e).length ≤ 1 := by
  unfold stepOf
  split
  · simp
  · split <;> simp
theorem flat_take {α β : Type} (f : α → List β) {l : List α} {i : Nat} {x : α} (h : l[i]? = some x) : (l.take (i + 1)).flatMap f = (l.take i).flatMap f ++ f x := by
  rw [← take_snoc h, List.flatMap_append]
  simp
theorem flat_len1 {α β : Type} (f : α → List β) (h : ∀ x, (f x).length ≤ 1) : ∀ l : List α, (l.flatMap f).length ≤ l.length
  | [] => Nat.zero_le _
  | a :: r => by
    have := flat_len1 f h r
    have := h a
    rw [List.flatMap_cons, List.length_append, List.length_cons]
    omega
theorem lvs_all (g : Nat) {as : List Arc} (h : ∀ a ∈ as, a.2.1.length ≤ 12) : ∀ (n : Nat), ∀ e ∈ lvs g n as, e.2.1.length ≤ 12 := by
  induction as with
  | nil => intro n e he; cases he
  | cons a r ih =>
    intro n e he
    have ih' := ih fun b hb => h b (List.mem_cons_of_mem _ hb)
    have he' : e ∈ (if a.1 = g then (n, a.2.1, a.2.2) :: lvs g (n + 1) r else lvs g (n + 1) r) := he
    by_cases c : a.1 = g
    · rw [if_pos c] at he'
      rcases List.mem_cons.mp he' with z | z
      · rw [z]; exact h a (by simp)
      · exact ih' _ e z
    · rw [if_neg c] at he'
      exact ih' _ e he'
def spSteps (_K : PySem.W.Frag) : Sp := fun vs H Q _ => ∃ (d rp : Addr) (H0 : Hp) (as : List Arc) (r : Rest), vs = [.ref d, .ref rp] ∧ TabS H0 H d as ∧ as.length ≤ 200 ∧ (∀ a ∈ as, a.2.1.length ≤ 12) ∧ r.2.2.length ≤ 1000 ∧ H rp = some (restHO r) ∧
  ∀ (H' : Hp) (q : Addr) us, Same H H' → H q = none → H' q = some (.lst us) → StepsAt H' us (stepsL as r) → Q (.ref q) H'
section
variable {P : Program} {w : World} {K : PySem.W.Frag} {mg : Str → Option Value} {base : Heap}
theorem ok_steps (T : Tx K mg) : FnOk P w K mg base CX0 1 T.f_steps T.fd_steps P_steps (spSteps K) := by
  refine T.F_steps.ok sc_steps (fun vs H Q E h => ?_) (fun cdv A outer s H vs Q E hr h => ?_)
  · obtain ⟨d, rp, H0, as, r, rfl, _⟩ := h
    rfl
  · obtain ⟨d, rp, H0, as, r, rfl, tab, hal, haw, hrl, hrp, k⟩ := h
    refine ⟨_, (pss_cons (ps_asg (pv 1) (pg_tup rfl (pgs_cons (pg_name (i := 2) sc_steps.nd rfl (Or.inl rfl)) (pgs_cons (pg_name (i := 3) sc_steps.nd rfl (Or.inl rfl)) (pgs_cons (pg_name (i := 4) sc_steps.nd rfl (Or.inl rfl)) pgs_nil)))))
        (pss_cons (ps_set (i := 5) sc_steps.nd rfl (Or.inl rfl) (pe_lst pa_nil))
        (pss_cons (ps_for PassesOwn.never rfl (pi_list (pe_dget2 (hu_of hr) (pv 0) (pv 2) (pe_lst pa_nil) ⟨rfl, rfl, rfl, rfl⟩)) (pg_tup rfl (pgs_cons (pg_name (i := 6) sc_steps.nd rfl (Or.inl rfl)) (pgs_cons (pg_name (i := 7) sc_steps.nd rfl (Or.inl rfl)) (pgs_cons (pg_name (i := 8) sc_steps.nd rfl (Or.inl rfl)) pgs_nil)))) (pss_one (ps_if (pt_val (pe_bm PySem.F.plainAttrs_str PySem.F.slot_str_startswith PySem.F.type_str_startswith mt_startswith (pv 4) (pa_cons (pv 7) pa_nil))) (pss_one (ps_expr (pe_bm PySem.F.plainAttrs_list PySem.F.slot_list_append PySem.F.type_list_append mt_append (pv 5) (pa_cons (pe_tup (pa_cons (pe_tup (pa_cons (pv 8) (pa_cons (pv 3) (pa_cons (pe_slice sl_str (pv 4) (po_some (pe_callB call_len_str rfl T.n_len (by decide +kernel) (pa_cons (pv 7) pa_nil))) po_none) pa_nil)))) (pa_cons (pv 6) (pa_cons pe_int pa_nil)))) pa_nil)))) (pss_one (ps_if (pt_val (pe_bm PySem.F.plainAttrs_str PySem.F.slot_str_startswith PySem.F.type_str_startswith mt_startswith (pv 7) (pa_cons (pv 4) pa_nil))) (pss_one (ps_expr (pe_bm PySem.F.plainAttrs_list PySem.F.slot_list_append PySem.F.type_list_append mt_append (pv 5) (pa_cons (pe_tup (pa_cons (pe_tup (pa_cons (pv 3) (pa_cons (pv 8) (pa_cons (pe_slice sl_str (pv 7) (po_some (pe_callB call_len_str rfl T.n_len (by decide +kernel) (pa_cons (pv 4) pa_nil))) po_none) pa_nil)))) (pa_cons (pv 6) (pa_cons pe_int pa_nil)))) pa_nil)))) pss_nil)))))
        (pss_one (ps_ret (pv 5)))))), ?_⟩
    refine ⟨_, rfl, rp, _, rfl, SqT.of hrp, rfl, _, _, rfl, _, _, rfl, _, _, rfl, rfl, ?_⟩
    refine ⟨le_size (by simp), fun q hq => ?_⟩
    have s1 : Same H (upd H q (.lst [])) := Same.new _ hq
    have g1 : upd H q (.lst []) q = some (.lst []) := upd_same
    generalize upd H q (.lst []) = H1 at *
    obtain ⟨kvs, at_, h0, hd0, hkl, hnone, hsome, hinj⟩ := tab
    have hd1 := s1 _ _ hd0
    refine ⟨_, rfl, d, rfl, .inl ⟨kvs, .inl hd1⟩, _, rfl, le_size (by simp), fun l' hl' => ?_⟩
    have s2 : Same H1 (upd H1 l' (.lst [])) := Same.new _ hl'
    have g2 : upd H1 l' (.lst []) l' = some (.lst []) := upd_same
    have nl'q := hp_ne g1 hl'
    generalize upd H1 l' (.lst []) = H2 at *
    have hsrc : ∃ (ll : Addr) (us : List V), (valV kvs (.inl (r.1 : Int))).getD (.ref l') = .ref ll ∧ ll ≠ q ∧ H2 ll = some (.lst us) ∧ Lv H2 us (lvs r.1 0 as) := by
      by_cases z : lvs r.1 0 as = []
      · rw [hnone _ z, z]
        exact ⟨l', [], rfl, nl'q, g2, rfl, fun i e h => by simp at h⟩
      · obtain ⟨e1, e2, us, e3, e4⟩ := hsome _ z
        rw [e1]
        refine ⟨at_ r.1, us, rfl, ?_, s2 _ _ (s1 _ _ e3), (e4.same s1).same s2⟩
        intro z
        rw [z, hq] at e3
        cases e3
    obtain ⟨ll, us, ell, nll, hll, hlv⟩ := hsrc
    refine ⟨_, .inl ⟨kvs, .inl (r.1 : Int), .inl (s2 _ _ hd1), rfl, rfl⟩, ?_⟩
    rw [ell]
    have hlen : (lvs r.1 0 as).length ≤ 200 := Nat.le_trans (lvs_len _ _ _) hal
    have s02 := s1.trans s2
    have hwl : ∀ e ∈ lvs r.1 0 as, e.2.1.length ≤ 12 := lvs_all _ haw _
    refine ⟨ll, rfl, ⟨_, SqL.of hll⟩, for_list (K := K) (a := ll) (xs := us) (fun i σ H' => ∃ v6 v7 v8 : Option V, σ = [some (.ref d), some (.ref rp), some (.int (r.1 : Nat)), some (.int (r.2.1 : Nat)), some (.str (SX.S r.2.2)), some (.ref q), v6, v7, v8] ∧
      (∃ os, H' q = some (.lst os) ∧ StepsAt H' os (((lvs r.1 0 as).take i).flatMap (stepOf r))) ∧ Same H H' ∧ Ex q H2 H') ?_ ?_ ?_ ?_⟩
    · exact ⟨none, none, none, rfl, ⟨[], s2 _ _ g1, StepsAt.nil _⟩, s02, Ex.refl _ _⟩
    · rintro i σ H' _ ⟨_, _, _, _, _, _, x⟩
      exact SqL.of (x _ _ nll hll)
    · rintro i y σ H3 hy ⟨v6, v7, v8, rfl, ⟨os, hos, hst⟩, s3, x3⟩
      have hil : i < (lvs r.1 0 as).length := by rw [← hlv.1]; exact (List.getElem?_eq_some_iff.mp hy).1
      obtain ⟨e, he⟩ : ∃ e, (lvs r.1 0 as)[i]? = some e := ⟨_, List.getElem?_eq_getElem hil⟩
      obtain ⟨t, hut, htt⟩ := hlv.2 i e he
      rw [hut] at hy
      cases hy
      have h12 := hwl e (List.mem_of_getElem? he)
      have htq : t ≠ q := fun z => by rw [z, s2 _ _ g1] at htt; cases htt
      have htt3 := x3 _ _ htq htt
      have hosl : os.length ≤ 200 := by
        have h1 := flat_len1 (stepOf r) (step_one r) ((lvs r.1 0 as).take i)
        rw [List.length_take] at h1
        rw [hst.1]
        omega
      rw [flat_take _ he]
      have fin : ∀ (s : Step), stepOf r e = [s] → ∀ rt, H3 rt = none → ∀ t2, upd H3 rt (restHO s.1) t2 = none →
          upd (upd H3 rt (restHO s.1)) t2 (.tup [.ref rt, .int (s.2.1 : Nat), .int (s.2.2 : Nat)]) q = some (.lst os) ∧
          (∃ os', upd (upd (upd H3 rt (restHO s.1)) t2 (.tup [.ref rt, .int (s.2.1 : Nat), .int (s.2.2 : Nat)])) q (.lst (os ++ [.ref t2])) q = some (.lst os') ∧
            StepsAt (upd (upd (upd H3 rt (restHO s.1)) t2 (.tup [.ref rt, .int (s.2.1 : Nat), .int (s.2.2 : Nat)])) q (.lst (os ++ [.ref t2]))) os' (((lvs r.1 0 as).take i).flatMap (stepOf r) ++ stepOf r e)) ∧
          Same H (upd (upd (upd H3 rt (restHO s.1)) t2 (.tup [.ref rt, .int (s.2.1 : Nat), .int (s.2.2 : Nat)])) q (.lst (os ++ [.ref t2]))) ∧
          Ex q H2 (upd (upd (upd H3 rt (restHO s.1)) t2 (.tup [.ref rt, .int (s.2.1 : Nat), .int (s.2.2 : Nat)])) q (.lst (os ++ [.ref t2]))) := by
        intro s es rt hrt t2 ht2
        have a1 : Same H3 (upd H3 rt (restHO s.1)) := Same.new _ hrt
        have b1 : upd H3 rt (restHO s.1) rt = some (restHO s.1) := upd_same
        generalize upd H3 rt (restHO s.1) = H4 at *
        have a2 : Same H4 (upd H4 t2 (.tup [.ref rt, .int (s.2.1 : Nat), .int (s.2.2 : Nat)])) := Same.new _ ht2
        have b2 : upd H4 t2 (.tup [.ref rt, .int (s.2.1 : Nat), .int (s.2.2 : Nat)]) t2 = some (.tup [.ref rt, .int (s.2.1 : Nat), .int (s.2.2 : Nat)]) := upd_same
        generalize upd H4 t2 (.tup [.ref rt, .int (s.2.1 : Nat), .int (s.2.2 : Nat)]) = H5 at *
        have a3 := a1.trans a2
        have hos5 := a3 _ _ hos
        have tk : ∀ t xs, H5 t = some (.tup xs) → upd H5 q (.lst (os ++ [.ref t2])) t = some (.tup xs) := fun t xs h => by
          rw [upd_ne (fun z => by rw [z, hos5] at h; cases h)]
          exact h
        refine ⟨hos5, ⟨_, upd_same, ?_⟩, (s3.trans a3).updNew hq, (x3.trans (Same.ex a3)).trans (Ex.upd _)⟩
        rw [es]
        exact ((hst.same a3).to tk).snoc (tk _ _ b2) (tk _ _ (a2 _ _ b1))
      refine ⟨t, _, rfl, SqT.of htt3, rfl, _, _, rfl, _, _, rfl, _, _, rfl, rfl, ?_⟩
      refine ⟨_, rfl, rfl, _, rfl, _, _, rfl, rfl, _, rfl, ?_⟩
      rw [starts0_S]
      refine ite2 (fun c => ?_) (fun c => ?_)
      · refine ⟨_, rfl, .inl ⟨rfl, _, SqL.of hos⟩, _, rfl, _, rfl, _, rfl, _, rfl, _, rfl, le_size (by rw [SX.S_len]; omega), _, rfl, _, rfl, le_size (by rw [SX.S_len]; omega), ?_⟩
        rw [SX.S_len, cutS_from]
        refine ⟨le_size (by simp), fun rt hrt => ?_⟩
        refine ⟨_, rfl, le_size (by simp), fun t2 ht2 => ?_⟩
        obtain ⟨f1, f2, f3, f4⟩ := fin ((e.2.2, r.2.1, r.2.2.drop e.2.1.length), e.1, 0) (by unfold stepOf; rw [if_pos c]) rt hrt t2 ht2
        exact ⟨q, os, _, rfl, rfl, f1, lt_size (by omega), _, _, _, rfl, f2, f3, f4⟩
      · refine ⟨_, rfl, rfl, _, rfl, _, _, rfl, rfl, _, rfl, ?_⟩
        rw [starts0_S]
        refine ite2 (fun c2 => ?_) (fun c2 => ?_)
        · refine ⟨_, rfl, .inl ⟨rfl, _, SqL.of hos⟩, _, rfl, _, rfl, _, rfl, _, rfl, _, rfl, le_size (by rw [SX.S_len]; omega), _, rfl, _, rfl, le_size (by rw [SX.S_len]; omega), ?_⟩
          rw [SX.S_len, cutS_from]
          refine ⟨le_size (by simp), fun rt hrt => ?_⟩
          refine ⟨_, rfl, le_size (by simp), fun t2 ht2 => ?_⟩
          obtain ⟨f1, f2, f3, f4⟩ := fin ((r.2.1, e.2.2, e.2.1.drop r.2.2.length), e.1, 1) (by unfold stepOf; rw [if_neg c, if_pos c2]) rt hrt t2 ht2
          exact ⟨q, os, _, rfl, rfl, f1, lt_size (by omega), _, _, _, rfl, f2, f3, f4⟩
        · have z : stepOf r e = [] := by unfold stepOf; rw [if_neg c, if_neg c2]
          rw [z, List.append_nil]
          exact ⟨_, _, _, rfl, ⟨os, hos, hst⟩, s3, x3⟩
    · rintro σ H' ⟨v6, v7, v8, rfl, ⟨os, hos, hst⟩, sm, _⟩
      have e : (lvs r.1 0 as).take us.length = lvs r.1 0 as := by rw [hlv.1, List.take_length]
      rw [e] at hst
      exact ⟨_, rfl, k H' q os sm hq hos hst⟩
end
end J


set_option Elab.async false
set_option linter.all false
set_option maxRecDepth 100000
set_option maxHeartbeats 4000000
namespace J
open PySem L2
def matchAt (x w : List Nat) (i : Nat) : Bool := (x.drop i).take w.length == w
theorem matchAt_le {x w : List Nat} {i : Nat} (h : matchAt x w i = true) (hi : i ≤ x.length) : i + w.length ≤ x.length := by
  unfold matchAt at h
  have e := congrArg List.length (eq_of_beq h)
  rw [List.length_take, List.length_drop] at e
  omega
theorem starts_S {x w : List Nat} {i : Nat} (hi : i ≤ x.length) (hw : 1 ≤ w.length) : Txt.startswith3 (SX.S x) (SX.S w) (i : Int) = matchAt x w i := by
  have ef : fromIndex (SX.S x).length (i : Int) = i := by
    unfold fromIndex
    rw [if_neg (by omega)]
    omega
  unfold Txt.startswith3
  rw [ef, PySem.StrLaws.subAt_eq, SX.S_len, SX.S_len]
  show (decide (i + w.length ≤ x.length) && ((x.drop i).take w.length == w)) = matchAt x w i
  unfold matchAt
  cases c : ((x.drop i).take w.length == w) with
  | false => simp
  | true =>
    have := matchAt_le (x := x) (w := w) (i := i) c hi
    simp [this]
end J


set_option Elab.async false
set_option linter.all false
set_option maxRecDepth 100000
set_option maxHeartbeats 4000000
namespace J
open PySem L2
/-! ### rows that read or cover a text -/
/-- whether a text can be read from a state on; b: a row may end behind it -/
inductive Gd (as : List Arc) (b : Bool) : Nat → List Nat → Prop
  | nil {g : Nat} : Gd as b g []
  | go {g i : Nat} {a : Arc} {u : List Nat} (h : as[i]? = some a) (e : a.1 = g) (l : a.2.1.length < u.length) (p : a.2.1 <+: u) (r : Gd as b a.2.2 (u.drop a.2.1.length)) : Gd as b g u
  | fin {g i : Nat} {a : Arc} {u : List Nat} (h : as[i]? = some a) (e : a.1 = g) (l : u.length ≤ a.2.1.length) (n : u ≠ []) (p : u <+: a.2.1) (r : b = true ∨ a.2.1.length = u.length) : Gd as b g u
def Tk (as : List Arc) (b : Bool) (u : List Nat) (a : Arc) : Prop := (a.2.1.length < u.length ∧ a.2.1 <+: u ∧ Gd as b a.2.2 (u.drop a.2.1.length)) ∨ (u.length ≤ a.2.1.length ∧ u <+: a.2.1 ∧ (b = true ∨ a.2.1.length = u.length))
/-- an arc that leaves the state and leads to the text's end -/
def Lvv (as : List Arc) (b : Bool) (u : List Nat) (g i : Nat) : Prop := ∃ a, as[i]? = some a ∧ a.1 = g ∧ Tk as b u a
open Classical in
noncomputable def livI (as : List Arc) (b : Bool) (u : List Nat) (g n : Nat) : List Nat := (List.range n).filter fun i => decide (Lvv as b u g i)
noncomputable def liv (as : List Arc) (b : Bool) (u : List Nat) (g : Nat) : List Nat := livI as b u g as.length
theorem mem_livI {as : List Arc} {b : Bool} {u : List Nat} {g n i : Nat} : i ∈ livI as b u g n ↔ i < n ∧ Lvv as b u g i := by
  classical
  unfold livI
  rw [List.mem_filter, List.mem_range, decide_eq_true_iff]
theorem mem_liv {as : List Arc} {b : Bool} {u : List Nat} {g i : Nat} : i ∈ liv as b u g ↔ Lvv as b u g i := by
  unfold liv
  rw [mem_livI]
  exact ⟨fun h => h.2, fun h => ⟨by obtain ⟨a, e, _⟩ := h; exact (List.getElem?_eq_some_iff.mp e).1, h⟩⟩
theorem livI_succ {as : List Arc} {b : Bool} {u : List Nat} {g n : Nat} : (Lvv as b u g n → livI as b u g (n + 1) = livI as b u g n ++ [n]) ∧ (¬ Lvv as b u g n → livI as b u g (n + 1) = livI as b u g n) := by
  classical
  unfold livI
  rw [List.range_succ, List.filter_append]
  constructor
  · intro h
    rw [List.filter_cons_of_pos (by simpa using h)]
    rfl
  · intro h
    rw [List.filter_cons_of_neg (by simpa using h)]
    simp
theorem livI_len (as : List Arc) (b : Bool) (u : List Nat) (g n : Nat) : (livI as b u g n).length ≤ n := by
  unfold livI
  exact Nat.le_trans (List.length_filter_le _ _) (by simp)
theorem gd_tk {as : List Arc} {b : Bool} {u : List Nat} {g : Nat} (hu : u ≠ []) : Gd as b g u ↔ ∃ i, Lvv as b u g i := by
  constructor
  · intro h
    cases h with
    | nil => exact absurd rfl hu
    | @go _ i a _ h e l p r => exact ⟨i, a, h, e, .inl ⟨l, p, r⟩⟩
    | @fin _ i a _ h e l n p r => exact ⟨i, a, h, e, .inr ⟨l, p, r⟩⟩
  · rintro ⟨i, a, h, e, ⟨l, p, r⟩ | ⟨l, p, r⟩⟩
    · exact .go h e l p r
    · exact .fin h e l hu p r
theorem gd_liv {as : List Arc} {b : Bool} {u : List Nat} {g : Nat} (hu : u ≠ []) : Gd as b g u ↔ liv as b u g ≠ [] := by
  rw [gd_tk hu]
  constructor
  · rintro ⟨i, h⟩ z
    have := mem_liv.mpr h
    rw [z] at this
    cases this
  · intro h
    obtain ⟨i, hi⟩ := List.exists_mem_of_ne_nil _ h
    exact ⟨i, mem_liv.mp hi⟩
/-! ### the table: a dict for each place -/
def LivAt (H : Hp) (d : Addr) (as : List Arc) (b : Bool) (u : List Nat) (n : Nat) : Prop := ∃ (kvs : List (Key × V)) (at_ : Nat → Addr), H d = some (.dK kvs) ∧ kvs.length ≤ n ∧
  (∀ g, livI as b u g n = [] → valV kvs (.inl (g : Int)) = none) ∧
  (∀ g, livI as b u g n ≠ [] → valV kvs (.inl (g : Int)) = some (.ref (at_ g)) ∧ H (at_ g) = some (.lst ((livI as b u g n).map fun i : Nat => V.int (i : Int)))) ∧
  (∀ g g', livI as b u g n ≠ [] → livI as b u g' n ≠ [] → at_ g = at_ g' → g = g')
def LivsAt (H : Hp) (ds : List Addr) (as : List Arc) (b : Bool) (t : List Nat) (m : Nat) : Prop := ∀ k, m ≤ k → k < t.length → ∃ d, ds[k]? = some d ∧ LivAt H d as b (t.drop k) as.length
theorem LivAt.exd {H H' : Hp} {d e : Addr} {as : List Arc} {b : Bool} {u : List Nat} {n : Nat} {kv : List (Key × V)} (h : LivAt H d as b u n) (he : H e = some (.dK kv)) (ne : d ≠ e) (x : ∀ c o, c ≠ e → H c = some o → H' c = some o) : LivAt H' d as b u n := by
  obtain ⟨kvs, at_, h1, h2, h3, h4, h5⟩ := h
  refine ⟨kvs, at_, x _ _ ne h1, h2, h3, fun g hg => ?_, h5⟩
  obtain ⟨q1, q2⟩ := h4 g hg
  exact ⟨q1, x _ _ (fun z => by rw [z, he] at q2; cases q2) q2⟩
theorem LivAt.same {H H' : Hp} {d : Addr} {as : List Arc} {b : Bool} {u : List Nat} {n : Nat} (h : LivAt H d as b u n) (s : Same H H') : LivAt H' d as b u n := by
  obtain ⟨kvs, at_, h1, h2, h3, h4, h5⟩ := h
  exact ⟨kvs, at_, s _ _ h1, h2, h3, fun g hg => ⟨(h4 g hg).1, s _ _ (h4 g hg).2⟩, h5⟩
theorem pre_iff' {x w : List Nat} : pre x w = true ↔ w <+: x := by
  unfold pre
  rw [beq_iff_eq]
  exact ⟨fun h => List.prefix_iff_eq_take.mpr h.symm, fun h => (List.prefix_iff_eq_take.mp h).symm⟩
theorem matchAt_iff {x w : List Nat} {i : Nat} : matchAt x w i = true ↔ w <+: x.drop i := by
  unfold matchAt
  rw [beq_iff_eq]
  exact ⟨fun h => List.prefix_iff_eq_take.mpr h.symm, fun h => (List.prefix_iff_eq_take.mp h).symm⟩
def spGoes : Sp := fun vs H Q _ => ∃ (t : List Nat) (at_ : Nat) (ar lv : Addr) (b : Bool) (a : Arc) (ds : List Addr) (as : List Arc), vs = [.str (SX.S t), .int (at_ : Int), .ref ar, .ref lv, .bl b] ∧ at_ < t.length ∧ t.length ≤ 2000 ∧ H ar = some (arcHO a) ∧
  H lv = some (.lst (ds.map V.ref)) ∧ LivsAt H ds as b t (at_ + 1) ∧ 1 ≤ a.2.1.length ∧ a.2.1.length ≤ 12 ∧ ∀ r : Bool, (r = true ↔ Tk as b (t.drop at_) a) → Q (.bl r) H
section
variable {P : Program} {w : World} {K : PySem.W.Frag} {mg : Str → Option Value} {base : Heap}
theorem ok_goes_on (T : Tx K mg) : FnOk P w K mg base CX0 1 T.f_goes_on T.fd_goes_on P_goes_on spGoes := by
  refine T.F_goes_on.ok sc_goes_on (fun vs H Q E h => ?_) (fun cdv A outer s H vs Q E hr h => ?_)
  · obtain ⟨t, at_, ar, lv, b, a, ds, as, rfl, _⟩ := h
    rfl
  · obtain ⟨t, at_, ar, lv, b, a, ds, as, rfl, hat, ht, har, hlv, hls, w1, w12, k⟩ := h
    refine ⟨_, (pss_cons (ps_asg (pv 2) (pg_tup rfl (pgs_cons (pg_name (i := 5) sc_goes_on.nd rfl (Or.inl rfl)) (pgs_cons (pg_name (i := 6) sc_goes_on.nd rfl (Or.inl rfl)) (pgs_cons (pg_name (i := 7) sc_goes_on.nd rfl (Or.inl rfl)) pgs_nil)))))
        (pss_cons (ps_set (i := 8) sc_goes_on.nd rfl (Or.inl rfl) (pe_op op_add (pv 1) (pe_callB call_len_str rfl T.n_len (by decide +kernel) (pa_cons (pv 6) pa_nil))))
        (pss_cons (ps_if (pt_cmpR op_lt (pv 8) (pe_callB call_len_str rfl T.n_len (by decide +kernel) (pa_cons (pv 0) pa_nil)) (nomark _)) (pss_one (ps_ret (pe_and (pe_bm PySem.F.plainAttrs_str PySem.F.slot_str_startswith PySem.F.type_str_startswith mt_startswith3 (pv 0) (pa_cons (pv 6) (pa_cons (pv 1) pa_nil))) (pe_one (pe_cmp (pc_din (hu_of hr) (pv 7) (pe_ix (ix_listK (K := K) rfl) (pv 3) (pv 8) (fun _ _ => rfl))) rfl))))) pss_nil)
        (pss_one (ps_ret (pe_and (pe_or (pv 4) (pe_one (pe_cmpR op_eq (pv 8) (pe_callB call_len_str rfl T.n_len (by decide +kernel) (pa_cons (pv 0) pa_nil)) (nomark _)))) (pe_one (pe_bm PySem.F.plainAttrs_str PySem.F.slot_str_startswith PySem.F.type_str_startswith mt_startswith (pv 6) (pa_cons (pe_slice sl_str (pv 0) (po_some (pv 1)) po_none) pa_nil))))))))), ?_⟩
    have hwl : (SX.S a.2.1).length ≤ sizeLine := le_size (by rw [SX.S_len]; omega)
    have htl : (SX.S t).length ≤ sizeLine := le_size (by rw [SX.S_len]; omega)
    refine ⟨_, rfl, ar, _, rfl, SqT.of har, rfl, _, _, rfl, _, _, rfl, _, _, rfl, rfl, ?_⟩
    refine ⟨_, rfl, _, rfl, _, rfl, hwl, _, _, rfl, rfl, ?_⟩
    have e1 : ((at_ : Int) + ((SX.S a.2.1).length : Nat)) = ((at_ + a.2.1.length : Nat) : Int) := by rw [SX.S_len]; omega
    have dl : (t.drop at_).length = t.length - at_ := List.length_drop
    refine ⟨_, rfl, _, rfl, _, rfl, htl, _, _, rfl, rfl, _, rfl, ?_⟩
    refine ite2 (fun c => ?_) (fun c => ?_)
    · have hc : at_ + a.2.1.length < t.length := by have := of_decide_eq_true c; simp only [SX.S_len] at this; omega
      refine ⟨_, rfl, rfl, _, rfl, _, rfl, _, _, _, rfl, rfl, _, rfl, ?_⟩
      rw [starts_S (by omega) w1]
      refine ite2 (fun c2 => ?_) (fun c2 => ?_)
      · have hp := matchAt_iff.mp c2
        obtain ⟨d, hd, kvs, ad, hdd, hkl, hn, hs, hi⟩ := hls (at_ + a.2.1.length) (by omega) hc
        have hne : t.drop (at_ + a.2.1.length) ≠ [] := fun z => by
          have := congrArg List.length z
          rw [List.length_drop] at this
          simp at this
          omega
        have hg := gd_liv (as := as) (b := b) (g := a.2.2) hne
        refine ⟨_, rfl, _, rfl, _, rfl, lv, _, _, _, rfl, rfl, SqL.of hlv, by rw [e1]; exact atI_nat (by rw [List.getElem?_map, hd]; rfl), d, _, rfl, .inl ⟨kvs, Sum.inl (a.2.2 : Int), .inl hdd, rfl, rfl⟩, ?_⟩
        refine k _ ?_
        have hdr : (t.drop at_).drop a.2.1.length = t.drop (at_ + a.2.1.length) := by rw [List.drop_drop]
        have hgd : (valV kvs (Sum.inl (a.2.2 : Int))).isSome = true ↔ Gd as b a.2.2 (t.drop (at_ + a.2.1.length)) := by
          rw [hg]
          by_cases z : livI as b (t.drop (at_ + a.2.1.length)) a.2.2 as.length = []
          · rw [hn _ z]
            exact ⟨fun q => Bool.noConfusion q, fun q => absurd z q⟩
          · rw [(hs _ z).1]
            exact ⟨fun _ => z, fun _ => rfl⟩
        rw [hgd, ← hdr]
        constructor
        · intro h
          exact .inl ⟨by omega, hp, h⟩
        · rintro (⟨_, _, h⟩ | ⟨l, _, _⟩)
          · exact h
          · omega
      · refine k false ⟨fun z => Bool.noConfusion z, fun z => ?_⟩
        rcases z with ⟨l, p, _⟩ | ⟨l, p, _⟩
        · exact absurd (matchAt_iff.mpr p) c2
        · omega
    · have hc : ¬ at_ + a.2.1.length < t.length := fun z => c (decide_eq_true (by simp only [SX.S_len]; omega))
      have fin : ∀ r : Bool, (r = true ↔ b = true ∨ a.2.1.length = (t.drop at_).length) → Txt.startswith (SX.S a.2.1) (cutS (SX.S t) (some (at_ : Int)) none) = true → r = true → Q (.bl true) H := fun r hr h1 h2 => by
        rw [cutS_from, starts0_S] at h1
        exact k true ⟨fun _ => .inr ⟨by omega, pre_iff'.mp h1, hr.mp h2⟩, fun _ => rfl⟩
      have fin2 : ∀ r : Bool, (r = true ↔ b = true ∨ a.2.1.length = (t.drop at_).length) → r = true → Q (.bl (Txt.startswith (SX.S a.2.1) (cutS (SX.S t) (some (at_ : Int)) none))) H := fun r hr h2 => by
        cases e : Txt.startswith (SX.S a.2.1) (cutS (SX.S t) (some (at_ : Int)) none) with
        | true => exact fin r hr e h2
        | false =>
          rw [cutS_from, starts0_S] at e
          refine k false ⟨fun z => Bool.noConfusion z, fun z => ?_⟩
          rcases z with ⟨l, _⟩ | ⟨l, p, _⟩
          · omega
          · rw [pre_iff'.mpr p] at e
            cases e
      have non : ∀ r : Bool, (r = true ↔ b = true ∨ a.2.1.length = (t.drop at_).length) → r = false → Q (.bl false) H := fun r hr h2 => by
        refine k false ⟨fun z => Bool.noConfusion z, fun z => ?_⟩
        rcases z with ⟨l, _⟩ | ⟨l, p, q⟩
        · omega
        · rw [hr.mpr q] at h2
          cases h2
      refine ⟨_, rfl, b, rfl, ?_⟩
      cases b with
      | true =>
        refine iteT ⟨true, rfl, iteT ?_⟩
        exact ⟨_, rfl, rfl, _, rfl, _, rfl, _, rfl, _, rfl, htl, _, _, rfl, rfl, fin2 true (by simp) rfl⟩
      | false =>
        refine iteF ⟨_, rfl, _, rfl, _, rfl, htl, rfl, _, rfl, ?_⟩
        have ev : (V.int ((at_ : Int) + ((SX.S a.2.1).length : Nat)) = V.int ((SX.S t).length : Nat)) ↔ a.2.1.length = (t.drop at_).length := by
          rw [e1, SX.S_len, dl]
          constructor
          · intro z
            injection z with z
            omega
          · intro z
            congr 1
            omega
        refine ite2 (fun c3 => ?_) (fun c3 => ?_)
        · have q := ev.mp (of_decide_eq_true c3)
          exact ⟨_, rfl, rfl, _, rfl, _, rfl, _, rfl, _, rfl, htl, _, _, rfl, rfl, fin2 true (by simp [q]) rfl⟩
        · have q : ¬ a.2.1.length = (t.drop at_).length := fun z => c3 (decide_eq_true (ev.mpr z))
          exact non false (by simp only [Bool.false_eq_true, false_iff, false_or]; exact q) rfl
end
end J


set_option Elab.async false
set_option linter.all false
set_option maxRecDepth 100000
set_option maxHeartbeats 4000000
namespace J
open PySem L2
def OkAll (as : List Arc) : Prop := as.length ≤ 100000 ∧ ∀ a ∈ as, a.1 ≤ 63 ∧ 1 ≤ a.2.1.length ∧ a.2.1.length ≤ 12 ∧ a.2.2 ≤ 63
theorem OkW.all {sg : List Nat} {as : List Arc} (h : OkW sg as) : OkAll as := ⟨by have := h.2.1; omega, fun a ha => by
  obtain ⟨h1, h2, h3⟩ := h.2.2 a ha
  exact ⟨h1, h2.1, h2.2.1, h3⟩⟩
abbrev nats (l : List Nat) : List V := l.map fun n : Nat => V.int (n : Int)
theorem nats_map (l : List Nat) : nats l = (l.map fun n : Nat => (n : Int)).map V.int := by simp [nats, List.map_map, Function.comp_def]
/-- the states that can be come to from 0 -/
inductive Reach (as : List Arc) : Nat → Prop
  | zero : Reach as 0
  | step {a : Arc} : a ∈ as → Reach as a.1 → Reach as a.2.2
theorem Reach.le {as : List Arc} (h : OkAll as) {x : Nat} (r : Reach as x) : x ≤ 63 := by
  cases r with
  | zero => decide
  | step ha _ => exact (h.2 _ ha).2.2.2
theorem nodup_le : ∀ (n : Nat) (l : List Nat), l.Nodup → (∀ x ∈ l, x < n) → l.length ≤ n
  | 0, l, _, h => by
    cases l with
    | nil => simp
    | cons a r => exact absurd (h a (by simp)) (Nat.not_lt_zero _)
  | n + 1, l, hn, h => by
    have h1 : (l.erase n).length ≤ n := nodup_le n (l.erase n) (hn.erase n) fun x hx => by
      have q := h x (List.mem_of_mem_erase hx)
      have : x ≠ n := fun z => by
        subst z
        exact (List.Nodup.not_mem_erase hn) hx
      omega
    have h2 : l.length ≤ (l.erase n).length + 1 := by
      by_cases c : n ∈ l
      · rw [List.length_erase_of_mem c]; omega
      · rw [List.erase_of_not_mem c]; omega
    omega
theorem upd_upd {H : Hp} {a : Addr} {x y : HO} : upd (upd H a x) a y = upd H a y := by
  funext c
  by_cases c1 : c = a
  · subst c1; rw [upd_same, upd_same]
  · rw [upd_ne c1, upd_ne c1, upd_ne c1]
/-- what stands while the program's met goes: what was seen, what waits, what is at hand -/
structure MetG (as : List Arc) (fs ws : List Nat) : Prop where
  nd : fs.Nodup
  zero : 0 ∈ fs
  reach : ∀ x ∈ fs, Reach as x
  sub : ∀ x ∈ ws, x ∈ fs
  len : ws.length ≤ fs.length
  done : ∀ g ∈ fs, g ∉ ws → ∀ a ∈ as, a.1 = g → a.2.2 ∈ fs
theorem MetG.all {as : List Arc} {fs : List Nat} (h : MetG as fs []) (x : Nat) : x ∈ fs ↔ Reach as x := by
  refine ⟨h.reach x, fun r => ?_⟩
  induction r with
  | zero => exact h.zero
  | step ha _ ih => exact h.done _ ih (by simp) _ ha rfl
def setOf (fs : List Nat) : Int → Bool := fun k => decide (k ∈ fs.map fun n : Nat => (n : Int))
theorem setOf_nat (fs : List Nat) (n : Nat) : setOf fs (n : Int) = decide (n ∈ fs) := by
  unfold setOf
  congr 1
  simp only [List.mem_map, eq_iff_iff]
  constructor
  · rintro ⟨m, h, e⟩
    have : m = n := by omega
    exact this ▸ h
  · intro h
    exact ⟨n, h, rfl⟩
theorem setOf_zero : setOf [0] = fun j : Int => decide (j = 0) := by
  funext j
  unfold setOf
  simp
theorem setOf_add {fs : List Nat} {n : Nat} : (fun j : Int => setOf fs j || decide (j = (n : Int))) = setOf (fs ++ [n]) := by
  funext j
  unfold setOf
  rw [List.map_append, ← Bool.decide_or]
  congr 1
  simp [List.mem_append]
theorem nats_isEmpty (l : List Nat) : (nats l).isEmpty = l.isEmpty := by cases l <;> rfl
theorem nats_append (a b : List Nat) : nats (a ++ b) = nats a ++ nats b := by simp [nats]
theorem snoc_of {l : List Nat} (h : l ≠ []) : ∃ r x, l = r ++ [x] := ⟨l.dropLast, l.getLast h, (List.dropLast_concat_getLast h).symm⟩
/-- the same in the middle of a turn: place is at hand, the arcs before i are done -/
structure MetI (as : List Arc) (fs ws : List Nat) (place i : Nat) : Prop where
  nd : fs.Nodup
  zero : 0 ∈ fs
  here : place ∈ fs
  reach : ∀ x ∈ fs, Reach as x
  sub : ∀ x ∈ ws, x ∈ fs
  len : ws.length + 1 ≤ fs.length
  done : ∀ g ∈ fs, g ∉ ws → g ≠ place → ∀ a ∈ as, a.1 = g → a.2.2 ∈ fs
  turn : ∀ j a, j < i → as[j]? = some a → a.1 = place → a.2.2 ∈ fs
theorem MetG.begin {as : List Arc} {fs r : List Nat} {p : Nat} (h : MetG as fs (r ++ [p])) : MetI as fs r p 0 :=
  ⟨h.nd, h.zero, h.sub p (by simp), h.reach, fun x hx => h.sub x (by simp [hx]), by have := h.len; simp at this; omega,
    fun g hg hn hp => h.done g hg (by simp [hn, hp]), fun j a hj => absurd hj (Nat.not_lt_zero _)⟩
theorem MetI.end {as : List Arc} {fs ws : List Nat} {p : Nat} (h : MetI as fs ws p as.length) : MetG as fs ws :=
  ⟨h.nd, h.zero, h.reach, h.sub, by have := h.len; omega, fun g hg hn a ha e => by
    by_cases c : g = p
    · obtain ⟨j, hj, q⟩ := List.mem_iff_getElem.mp ha
      exact h.turn j a hj (by rw [List.getElem?_eq_getElem hj, q]) (e.trans c)
    · exact h.done g hg hn c a ha e⟩
theorem MetI.skip {as : List Arc} {fs ws : List Nat} {p i : Nat} (h : MetI as fs ws p i) (q : ∀ a, as[i]? = some a → a.1 = p → a.2.2 ∈ fs) : MetI as fs ws p (i + 1) :=
  ⟨h.nd, h.zero, h.here, h.reach, h.sub, h.len, h.done, fun j a hj ha e => by
    by_cases c : j < i
    · exact h.turn j a c ha e
    · have : j = i := by omega
      subst this
      exact q a ha e⟩
theorem MetI.more {as : List Arc} {fs ws : List Nat} {p i : Nat} {b : Arc} (h : MetI as fs ws p i) (hb : as[i]? = some b) (e : b.1 = p) (n : b.2.2 ∉ fs) : MetI as (fs ++ [b.2.2]) (ws ++ [b.2.2]) p (i + 1) := by
  have hm : b ∈ as := List.mem_of_getElem? hb
  have hr : Reach as b.2.2 := .step hm (by rw [e]; exact h.reach _ h.here)
  refine ⟨?_, by simp [h.zero], by simp [h.here], ?_, ?_, ?_, ?_, ?_⟩
  · rw [List.nodup_append]
    exact ⟨h.nd, by simp, fun x hx y hy => by rw [List.mem_singleton.mp hy]; exact fun z => n (z ▸ hx)⟩
  · intro x hx
    rcases List.mem_append.mp hx with q | q
    · exact h.reach x q
    · rw [List.mem_singleton.mp q]; exact hr
  · intro x hx
    rcases List.mem_append.mp hx with q | q
    · exact List.mem_append_left _ (h.sub x q)
    · exact List.mem_append_right _ q
  · have := h.len
    simp
    omega
  · intro g hg hn hp a ha q
    rcases List.mem_append.mp hg with z | z
    · exact List.mem_append_left _ (h.done g z (fun y => hn (List.mem_append_left _ y)) hp a ha q)
    · exact absurd (List.mem_append_right _ z) hn
  · intro j a hj ha q
    by_cases c : j < i
    · exact List.mem_append_left _ (h.turn j a c ha q)
    · have : j = i := by omega
      subst this
      rw [hb] at ha
      cases ha
      simp
/-- the sorted ints of a set of naturals -/
theorem set_nats {fs : List Nat} {ns : List Int} (h : ns.Pairwise (· < ·)) (hm : ∀ k : Int, k ∈ ns ↔ setOf fs k = true) : ∃ ms : List Nat, ns.map V.int = nats ms ∧ ms.Pairwise (· < ·) ∧ ∀ x, x ∈ ms ↔ x ∈ fs := by
  have hnn : ∀ i ∈ ns, ∃ n : Nat, i = (n : Int) := fun i hi => by
    have q := (hm i).mp hi
    unfold setOf at q
    obtain ⟨n, _, e⟩ := List.mem_map.mp (of_decide_eq_true q)
    exact ⟨n, e.symm⟩
  have e : ns = (ns.map Int.toNat).map fun n : Nat => (n : Int) := by
    rw [List.map_map]
    conv => lhs; rw [← List.map_id ns]
    refine List.map_congr_left fun i hi => ?_
    obtain ⟨n, rfl⟩ := hnn i hi
    rfl
  refine ⟨ns.map Int.toNat, by rw [nats_map, ← e], ?_, fun x => ?_⟩
  · rw [List.pairwise_map]
    refine List.Pairwise.imp_of_mem (fun {a b} ha hb h => ?_) h
    obtain ⟨n, rfl⟩ := hnn a ha
    obtain ⟨m, rfl⟩ := hnn b hb
    omega
  · rw [List.mem_map]
    constructor
    · rintro ⟨i, hi, rfl⟩
      obtain ⟨n, rfl⟩ := hnn i hi
      have q := (hm n).mp hi
      rw [setOf_nat] at q
      exact of_decide_eq_true q
    · intro hx
      exact ⟨(x : Int), (hm x).mpr (by rw [setOf_nat]; exact decide_eq_true hx), by simp⟩
def spPMet (C : Addr) : Sp := fun vs H Q _ => ∃ (q : Addr) (sg : List Nat) (us : List V) (as : List Arc), vs = [.ref q] ∧ LoomAt C H q sg us as ∧
  ∀ (H' : Hp) (p : Addr) (ms : List Nat), Same H H' → H p = none → H' p = some (.lst (nats ms)) → ms.Pairwise (· < ·) → (∀ x, x ∈ ms ↔ Reach as x) → Q (.ref p) H'
section
variable {P : Program} {w : World} {K : PySem.W.Frag} {mg : Str → Option Value} {base : Heap}
theorem ok_met (T : Tx K mg) : FnOk P w K mg base CX0 1 T.f_met T.fd_met P_met (spPMet T.C_Loom) := by
  refine T.F_met.okC sc_met (fun vs H Q E h => ?_) (fun cdv A outer s H vs Q E hcd hr h => ?_)
  · obtain ⟨q, sg, us, as, rfl, _⟩ := h
    rfl
  · obtain ⟨q, sg, us, as, rfl, ⟨dx, TT, hq, hT, harc, hok, hsg⟩, k⟩ := h
    refine ⟨_, (pss_cons (ps_set (i := 1) sc_met.nd rfl (Or.inl rfl) (pe_set1 (kdsCode_of hcd) pe_int))
        (pss_cons (ps_set (i := 2) sc_met.nd rfl (Or.inl rfl) (pe_lst (pa_cons pe_int pa_nil)))
        (pss_cons (ps_while PassesOwn.never (pt_truth (pv 2) (by intro _; rfl)) (pss_cons (ps_set (i := 3) sc_met.nd rfl (Or.inl rfl) (pe_bm0 PySem.F.plainAttrs_list PySem.F.slot_list_pop PySem.F.type_list_pop mt_pop (pv 2)))
        (pss_one (ps_for PassesOwn.never rfl (pi_tup (pe_fld (pv 0) rfl)) (pg_tup rfl (pgs_cons (pg_name (i := 4) sc_met.nd rfl (Or.inl rfl)) (pgs_cons (pg_name (i := 5) sc_met.nd rfl (Or.inl rfl)) (pgs_cons (pg_name (i := 6) sc_met.nd rfl (Or.inl rfl)) pgs_nil)))) (pss_one (ps_if (PW.pt (pw_and (pt_cmpR op_eq (pv 4) (pv 3) (nomark _)) (pw_and1 (pt_cmpR or_snotin (pv 6) (pv 1) rfl)))) (pss_cons (ps_expr (pe_sadd (pv 1) (pa_cons (pv 6) pa_nil)))
        (pss_one (ps_expr (pe_bm PySem.F.plainAttrs_list PySem.F.slot_list_append PySem.F.type_list_append mt_append (pv 2) (pa_cons (pv 6) pa_nil))))) pss_nil))))))
        (pss_one (ps_ret (pe_callB (cr_sortedSetN rfl) rfl T.n_sorted (by decide +kernel) (pa_cons (pv 1) pa_nil))))))), ?_⟩
    intro S hS
    refine ⟨_, rfl, upd_same, le_size (by decide), fun F hF0 => ?_⟩
    rw [upd_upd] at hF0 ⊢
    have nFS : F ≠ S := hp_ne upd_same hF0
    have hF : H F = none := by rw [upd_ne nFS] at hF0; exact hF0
    have oka := hok.all
    have s0 : Same H (upd (upd H S (SetO w S (fun j : Int => decide (j = 0)) 1)) F (.lst [V.int 0])) := (Same.new _ hS).trans (Same.new _ hF0)
    refine ⟨fun m σ H' => ∃ (fs ws : List Nat) (v3 v4 v5 v6 : Option V), m = 2 * (64 - fs.length) + ws.length ∧ σ = [some (.ref q), some (.ref S), some (.ref F), v3, v4, v5, v6] ∧ H' S = some (SetO w S (setOf fs) fs.length) ∧ H' F = some (.lst (nats ws)) ∧ Same H H' ∧ MetG as fs ws, ⟨_, [0], [0], none, none, none, none, rfl, rfl, ?_, upd_same, s0, ?_⟩, ?_⟩
    · rw [upd_ne nFS.symm, upd_same, setOf_zero]; rfl
    · exact ⟨by simp, by simp, fun x hx => by rw [List.mem_singleton.mp hx]; exact .zero, fun x hx => hx, Nat.le_refl _, fun g hg hn => absurd hg hn⟩
    · rintro m σ H1 ⟨fs, ws, v3, v4, v5, v6, rfl, rfl, hS1, hF1, sm, G⟩
      have hlen : fs.length ≤ 64 := nodup_le 64 fs G.nd fun x hx => by have := (G.reach x hx).le oka; omega
      refine ⟨_, rfl, !(nats ws).isEmpty, .inl ⟨_, SqL.of hF1, rfl⟩, ?_⟩
      rw [nats_isEmpty]
      refine ite2 (fun c => ?_) (fun c => ?_)
      · have wne : ws ≠ [] := fun z => by rw [z] at c; cases c
        obtain ⟨r, x, rfl⟩ := snoc_of wne
        refine ⟨fun σ' H' => ∃ (fs' ws' : List Nat) (v3 v4 v5 v6 : Option V), 2 * (64 - fs'.length) + ws'.length < 2 * (64 - fs.length) + (r ++ [x]).length ∧ σ' = [some (.ref q), some (.ref S), some (.ref F), v3, v4, v5, v6] ∧ H' S = some (SetO w S (setOf fs') fs'.length) ∧ H' F = some (.lst (nats ws')) ∧ Same H H' ∧ MetG as fs' ws', ?_, ?_⟩
        · rintro σ' H' ⟨fs', ws', w3, w4, w5, w6, lt, r1, r2, r3, r4, r5⟩
          exact ⟨_, lt, fs', ws', w3, w4, w5, w6, rfl, r1, r2, r3, r4, r5⟩
        refine ⟨_, rfl, .inl ⟨rfl, _, SqL.of hF1⟩, F, _, V.int (x : Int), rfl, rfl, hF1, by rw [nats_append]; simp [nats], ?_⟩
        have hdl : (nats (r ++ [x])).dropLast = nats r := by rw [nats_append]; simp [nats]
        rw [hdl]
        have sm2 : Same H (upd H1 F (.lst (nats r))) := sm.updNew hF
        refine ⟨_, rfl, q, _, dx, _, _, rfl, sm2 _ _ hq, T.cl_Loom, T.na_Loom_arcs, lf_arcs _ _, TT, rfl, ⟨_, SqT.of (sm2 _ _ hT)⟩, for_tup (K := K) (a := TT) (xs := us) (fun i σ H' => ∃ (gs vs : List Nat) (v4 v5 v6 : Option V), σ = [some (.ref q), some (.ref S), some (.ref F), some (.int (x : Int)), v4, v5, v6] ∧ 2 * (64 - gs.length) + vs.length < 2 * (64 - fs.length) + (r ++ [x]).length ∧ H' S = some (SetO w S (setOf gs) gs.length) ∧ H' F = some (.lst (nats vs)) ∧ Same H H' ∧ MetI as gs vs x i) ?_ ?_ ?_ ?_⟩
        · exact ⟨fs, r, v4, v5, v6, rfl, by simp, by rw [upd_ne nFS.symm]; exact hS1, upd_same, sm2, G.begin⟩
        · rintro i σ H' _ ⟨_, _, _, _, _, _, _, _, _, sm3, _⟩
          exact SqT.of (sm3 _ _ hT)
        · rintro i y σ H3 hy ⟨gs, vs, u4, u5, u6, rfl, lt, hS3, hF3, sm3, M⟩
          have hi : i < as.length := by
            have z := (List.getElem?_eq_some_iff.mp hy).1
            have := harc.1
            omega
          have hai : as[i]? = some as[i] := List.getElem?_eq_getElem hi
          obtain ⟨t, hut, htt⟩ := harc.2 i as[i] hai
          rw [hut] at hy
          cases hy
          have hg64 : gs.length ≤ 64 := nodup_le 64 gs M.nd fun z hz => by have := (M.reach z hz).le oka; omega
          refine ⟨t, _, rfl, SqT.of (sm3 _ _ htt), rfl, _, _, rfl, _, _, rfl, _, _, rfl, rfl, _, rfl, _, rfl, rfl, _, rfl, ?_⟩
          have skip : ∀ (u4 u5 u6 : Option V), MetI as gs vs x (i + 1) → ∃ (gs' vs' : List Nat) (w4 w5 w6 : Option V), [some (V.ref q), some (.ref S), some (.ref F), some (.int (x : Int)), u4, u5, u6] = [some (V.ref q), some (.ref S), some (.ref F), some (.int (x : Int)), w4, w5, w6] ∧ 2 * (64 - gs'.length) + vs'.length < 2 * (64 - fs.length) + (r ++ [x]).length ∧ H3 S = some (SetO w S (setOf gs') gs'.length) ∧ H3 F = some (.lst (nats vs')) ∧ Same H H3 ∧ MetI as gs' vs' x (i + 1) :=
            fun u4 u5 u6 m => ⟨gs, vs, u4, u5, u6, rfl, lt, hS3, hF3, sm3, m⟩
          refine ite2 (fun c => ?_) (fun c => ?_)
          · have c1 : as[i].1 = x := by
              have q := of_decide_eq_true c
              injection q with q
              omega
            refine ⟨_, rfl, _, rfl, _, S, _, _, rfl, rfl, hS3, _, rfl, ?_⟩
            rw [setOf_nat]
            refine ite2 (fun c2 => ?_) (fun c2 => ?_)
            · have cn : as[i].2.2 ∉ gs := by simpa using c2
              have M2 := M.more hai c1 cn
              have hS0 : setOf gs (as[i].2.2 : Int) = false := by rw [setOf_nat]; simpa using cn
              have g65 : (gs ++ [as[i].2.2]).length ≤ 64 := nodup_le 64 _ M2.nd fun z hz => by have := (M2.reach z hz).le oka; omega
              simp at g65
              refine ⟨_, rfl, ⟨S, _, _, rfl, hS3⟩, _, rfl, S, _, _, _, rfl, rfl, hS3, Nat.lt_of_le_of_lt (m := 64) (by omega) (by decide), ?_⟩
              rw [setOf_add, hS0]
              have hF4 : ∀ o, upd H3 S o F = some (.lst (nats vs)) := fun o => (upd_ne nFS).trans hF3
              refine ⟨_, rfl, .inl ⟨rfl, _, SqL.of (hF4 _)⟩, _, rfl, F, _, _, rfl, rfl, hF4 _, lt_size (by have := M.len; simp [nats]; omega), ?_⟩
              refine ⟨gs ++ [as[i].2.2], vs ++ [as[i].2.2], _, _, _, rfl, ?_, by rw [upd_ne nFS.symm, upd_same, List.length_append]; rfl, by rw [upd_same, nats_append]; rfl, (sm3.updNew hS).updNew hF, M2⟩
              simp at lt ⊢
              omega
            · have cn : as[i].2.2 ∈ gs := by simpa using c2
              exact skip _ _ _ (M.skip fun a ha _ => by rw [hai] at ha; cases ha; exact cn)
          · have c1 : ¬ as[i].1 = x := fun z => c (decide_eq_true (by rw [z]))
            exact skip _ _ _ (M.skip fun a ha e => by rw [hai] at ha; cases ha; exact absurd e c1)
        · rintro σ H3 ⟨gs, vs, u4, u5, u6, rfl, lt, hS3, hF3, sm3, M⟩
          rw [harc.1] at M
          exact ⟨gs, vs, _, u4, u5, u6, lt, rfl, hS3, hF3, sm3, M.end⟩
      · have wn : ws = [] := by
          cases ws with
          | nil => rfl
          | cons a r => exact absurd rfl c
        subst wn
        refine ⟨_, rfl, S, _, _, rfl, hS1, Nat.le_trans hlen (by decide), fun ns p hpw hmem hl hp => ?_⟩
        obtain ⟨ms, e, hlt, hms⟩ := set_nats hpw hmem
        exact k _ p ms (sm.trans (Same.new _ hp)) (sm.free hp) (by rw [upd_same, e]) hlt fun x => (hms x).trans (G.all x)
end
end J


set_option Elab.async false
set_option linter.all false
set_option maxRecDepth 100000
set_option maxHeartbeats 4000000
namespace J
open PySem L2
/-- a place's dict, while it is filled: its lists are new since Hs -/
def LivN (Hs H : Hp) (d : Addr) (as : List Arc) (b : Bool) (u : List Nat) (n : Nat) : Prop := ∃ (kvs : List (Key × V)) (at_ : Nat → Addr), H d = some (.dK kvs) ∧ kvs.length ≤ n ∧
  (∀ g, livI as b u g n = [] → valV kvs (.inl (g : Int)) = none) ∧
  (∀ g, livI as b u g n ≠ [] → valV kvs (.inl (g : Int)) = some (.ref (at_ g)) ∧ Hs (at_ g) = none ∧ H (at_ g) = some (.lst ((livI as b u g n).map fun i : Nat => V.int (i : Int)))) ∧
  (∀ g g', livI as b u g n ≠ [] → livI as b u g' n ≠ [] → at_ g = at_ g' → g = g')
theorem LivN.at {Hs H : Hp} {d : Addr} {as : List Arc} {b : Bool} {u : List Nat} {n : Nat} (h : LivN Hs H d as b u n) : LivAt H d as b u n := by
  obtain ⟨kvs, at_, h1, h2, h3, h4, h5⟩ := h
  exact ⟨kvs, at_, h1, h2, h3, fun g hg => ⟨(h4 g hg).1, (h4 g hg).2.2⟩, h5⟩
theorem LivN.same {Hs H H' : Hp} {d : Addr} {as : List Arc} {b : Bool} {u : List Nat} {n : Nat} (h : LivN Hs H d as b u n) (s : Same H H') : LivN Hs H' d as b u n := by
  obtain ⟨kvs, at_, h1, h2, h3, h4, h5⟩ := h
  exact ⟨kvs, at_, s _ _ h1, h2, h3, fun g hg => ⟨(h4 g hg).1, (h4 g hg).2.1, s _ _ (h4 g hg).2.2⟩, h5⟩
/-- all but one object stays -/
def ExD (d : Addr) (H H' : Hp) : Prop := ∀ c o, c ≠ d → H c = some o → H' c = some o
theorem ExD.trans {d : Addr} {H H1 H2 : Hp} (a : ExD d H H1) (b : Same H1 H2) : ExD d H H2 := fun c o n h => b c o (a c o n h)
theorem ExD.free {d q : Addr} {H H' : Hp} (x : ExD d H H') (hq : H' q = none) (n : q ≠ d) : H q = none := by
  cases e : H q with
  | none => rfl
  | some o => rw [x _ _ n e] at hq; cases hq
theorem ExD.updNew {d q : Addr} {H H' : Hp} {o : HO} (x : ExD d H H') (hq : H q = none) : ExD d H (L2.upd H' q o) := fun b u n e => by
  rw [upd_ne (ne_of_none e hq)]; exact x b u n e
theorem ExD.updD {d : Addr} {H H' : Hp} {o : HO} (x : ExD d H H') : ExD d H (L2.upd H' d o) := fun b u n e => by
  rw [upd_ne n]; exact x b u n e
def spLive (C : Addr) : Sp := fun vs H Q _ => ∃ (q : Addr) (sg : List Nat) (us : List V) (as : List Arc) (t : List Nat) (b : Bool), vs = [.ref q, .str (SX.S t), .bl b] ∧ LoomAt C H q sg us as ∧ t.length ≤ 2000 ∧
  ∀ (H' : Hp) (lv : Addr) (ds : List Addr), Same H H' → H lv = none → H' lv = some (.lst (ds.map V.ref)) → ds.length = t.length → LivsAt H' ds as b t 0 → Q (.ref lv) H'
section
variable {P : Program} {w : World} {K : PySem.W.Frag} {mg : Str → Option Value} {base : Heap}
theorem ok_live_arcs (T : Tx K mg) : FnOk P w K mg base CX0 2 T.f_live_arcs T.fd_live_arcs P_live_arcs (spLive T.C_Loom) := by
  have G_goes_on : FnOk P w K mg base CX0 1 T.f_goes_on T.fd_goes_on P_goes_on spGoes := ok_goes_on T
  refine T.F_live_arcs.ok sc_live_arcs (fun vs H Q E h => ?_) (fun cdv A outer s H vs Q E hr h => ?_)
  · obtain ⟨q, sg, us, as, t, b, rfl, _⟩ := h
    rfl
  · obtain ⟨q, sg, us, as, t, b, rfl, ⟨dx, TT, hq, hT, harc, hok, hsg⟩, ht, k⟩ := h
    refine ⟨_, (pss_cons (ps_setLc (i := 3) (own := [("_", 7)]) (g := (gName 7)) rfl sc_live_arcs.nd rfl rfl (sw_true rfl rfl rfl (by decide +kernel)) (pi_str (pv 1)) (blkOk_by (N := N_live_arcs) (sc := defScope s_live_arcs) (by decide +kernel)) (fun _ _ _ _ _ => (pg_name (i := 7) sc_live_arcs.nd rfl (Or.inl rfl))) (fun _ _ _ _ _ => pts_nil) (fun _ _ _ _ _ => pe_dnewK))
        (pss_cons (ps_for PassesOwn.never rfl (pi_revR rfl T.n_reversed (prg_1 rfl T.n_range (pe_callB call_len_str rfl T.n_len (by decide +kernel) (pa_cons (pv 1) pa_nil)))) (pg_name (i := 4) sc_live_arcs.nd rfl (Or.inl rfl)) (pss_one (ps_for PassesOwn.never rfl (pi_enumT rfl T.n_enumerate (pa_cons (pe_fld (pv 0) rfl) pa_nil)) (pg_tup rfl (pgs_cons (pg_name (i := 5) sc_live_arcs.nd rfl (Or.inl rfl)) (pgs_cons (pg_name (i := 6) sc_live_arcs.nd rfl (Or.inl rfl)) pgs_nil))) (pss_one (ps_if (pt_val (pe_call G_goes_on (hr.mono (by decide)) rfl T.m_goes_on T.F_goes_on.kp T.b_goes_on .nil pass0 (pa_cons (pv 1) (pa_cons (pv 4) (pa_cons (pv 6) (pa_cons (pv 3) (pa_cons (pv 2) pa_nil))))))) (pss_one (ps_expr (pe_bm PySem.F.plainAttrs_list PySem.F.slot_list_append PySem.F.type_list_append mt_append (pe_dsetd (pe_ix (ix_listK (K := K) rfl) (pv 3) (pv 4) (fun _ _ => rfl)) (pe_ix (ix_tupK (K := K) rfl) (pv 6) pe_int (fun _ _ => rfl)) (pe_lst pa_nil) ⟨rfl, rfl, rfl, rfl⟩) (pa_cons (pv 5) pa_nil)))) pss_nil)))))
        (pss_one (ps_ret (pv 3))))), ?_⟩
    have oka := hok.all
    have hl200 := hok.2.1
    have htl : (SX.S t).length ≤ sizeLine := le_size (by rw [SX.S_len]; omega)
    refine ⟨_, rfl, _, rfl, fun D hD => lc_it (walk_str (z := SX.S t)) (fun i H' => ∃ ds : List Addr, ds.length = i ∧ ds.Nodup ∧ H' D = some (.lst (ds.map V.ref)) ∧ (∀ d ∈ ds, H' d = some (.dK []) ∧ H d = none ∧ d ≠ D) ∧ Same H H') ?_ (fun _ _ _ _ => trivial) ?_ ?_⟩
    · exact ⟨[], rfl, by simp, upd_same, fun d hd => absurd hd List.not_mem_nil, Same.new _ hD⟩
    · rintro i x H2 H3 hi ⟨ds, rfl, nd, hDl, hds, s2⟩ ⟨rfl, _⟩
      rw [show (SX.S t).cps.size = t.length from SX.S_len t] at hi
      refine ⟨rfl, fun d hd => ?_⟩
      have nDd : D ≠ d := (hp_ne hDl hd).symm
      have hd0 : H d = none := s2.free hd
      refine ⟨_, by rw [upd_ne nDd]; exact hDl, lt_size (by simp; omega), ds ++ [d], by simp, ?_, by rw [upd_same]; simp, fun c hc => ?_, (s2.trans (Same.new _ hd)).updNew hD⟩
      · rw [List.nodup_append]
        exact ⟨nd, by simp, fun a ha b hb => by
          rw [List.mem_singleton.mp hb]
          exact fun z => hp_ne (hds a ha).1 hd z.symm⟩
      · rcases List.mem_append.mp hc with z | z
        · obtain ⟨q1, q2, q3⟩ := hds c z
          exact ⟨by rw [upd_ne q3, upd_ne (hp_ne q1 hd).symm]; exact q1, q2, q3⟩
        · rw [List.mem_singleton.mp z]
          exact ⟨by rw [upd_ne nDd.symm]; exact upd_same, hd0, nDd.symm⟩
    rintro H1 ⟨ds, hdl, nd, hDl, hds, s1⟩
    rw [show (SX.S t).cps.size = t.length from SX.S_len t] at hdl
    refine ⟨_, rfl, _, rfl, htl, _, rfl, by decide, by decide, by rw [SX.S_len]; omega, by rw [SX.S_len]; omega, ?_⟩
    have hn : ((0 : Int) + (((((SX.S t).length : Nat) : Int) - 0).toNat : Nat) - 1) = (t.length : Int) - 1 := by rw [SX.S_len]; omega
    have hn2 : ((((SX.S t).length : Nat) : Int) - 0).toNat = t.length := by rw [SX.S_len]; omega
    rw [hn, hn2]
    refine for_it (walk_rangeC (lo := (t.length : Int) - 1) (c := -1) (n := t.length)) (fun i σ H' => ∃ v4 v5 v6 : Option V, σ = [some (.ref q), some (.str (SX.S t)), some (.bl b), some (.ref D), v4, v5, v6, none] ∧ H' D = some (.lst (ds.map V.ref)) ∧ Same H H' ∧
      LivsAt H' ds as b t (t.length - i) ∧ ∀ k d, k < t.length - i → ds[k]? = some d → H' d = some (.dK [])) ?_ (fun _ _ _ _ _ => trivial) ?_ ?_
    · exact ⟨_, _, _, rfl, hDl, s1, fun k h1 h2 => absurd h2 (by omega), fun k d _ hd => (hds d (List.mem_of_getElem? hd)).1⟩
    · rintro i x σ H9 H2 hi ⟨v4, v5, v6, rfl, hD2, s2, hls, hfr⟩ ⟨rfl, ex⟩
      replace ex : x = V.int ((t.length - 1 - i : Nat) : Int) := by
        rw [ex]
        show V.int ((t.length : Int) - 1 + (i : Int) * -1) = _
        congr 1
        omega
      subst ex
      have hat : t.length - 1 - i < t.length := by omega
      have hat1 : t.length - i = t.length - 1 - i + 1 := by omega
      rw [hat1] at hls hfr
      have hat2 : t.length - (i + 1) = t.length - 1 - i := by omega
      rw [hat2]
      generalize t.length - 1 - i = at_ at *
      clear hat1 hat2
      obtain ⟨d, hd⟩ : ∃ d, ds[at_]? = some d := ⟨ds[at_]'(by omega), List.getElem?_eq_getElem (by omega)⟩
      have hd2 : H2 d = some (.dK []) := hfr at_ d (Nat.lt_succ_self _) hd
      have hd0 : H d = none := (hds d (List.mem_of_getElem? hd)).2.1
      have ndD : d ≠ D := (hds d (List.mem_of_getElem? hd)).2.2
      have dne : ∀ k c, ds[k]? = some c → k ≠ at_ → c ≠ d := fun k c hc hk z => by
        subst z
        have e1 := List.getElem?_eq_some_iff.mp hc
        have e2 := List.getElem?_eq_some_iff.mp hd
        exact hk ((List.getElem_inj nd).mp (e1.2.trans e2.2.symm))
      have hune : t.drop at_ ≠ [] := fun z => by
        have := congrArg List.length z
        rw [List.length_drop] at this
        simp at this
        omega
      refine ⟨_, rfl, q, _, dx, _, _, rfl, s2 _ _ hq, T.cl_Loom, T.na_Loom_arcs, lf_arcs _ _, TT, us, rfl, SqT.of (s2 _ _ hT), for_it (walk_enumT (K := K) (a := TT) (xs := us)) (fun j σ H' => ∃ v5 v6 : Option V, σ = [some (.ref q), some (.str (SX.S t)), some (.bl b), some (.ref D), some (.int (at_ : Int)), v5, v6, none] ∧ ExD d H2 H' ∧ LivN H2 H' d as b (t.drop at_) j) ?_ ?_ ?_ ?_⟩
      · refine ⟨_, _, rfl, fun _ _ _ h => h, [], fun _ => 0, hd2, Nat.zero_le _, fun g _ => rfl, fun g h => absurd rfl h, fun g g' h => absurd rfl h⟩
      · rintro j σ H' _ ⟨_, _, _, x, _⟩
        exact SqT.of (x _ _ (fun z => by rw [z] at hT; rw [hT] at hd0; cases hd0) (s2 _ _ hT))
      · rintro j x σ H3 H4 hj ⟨v5, v6, rfl, x3, hN⟩ ⟨tp, x1, y1, rfl, htp, rfl, hx1, hy1⟩
        cases hx1
        have hja : j < as.length := by rw [← harc.1]; exact hj
        have hai : as[j]? = some as[j] := List.getElem?_eq_getElem hja
        obtain ⟨ta, hut, htt⟩ := harc.2 j as[j] hai
        replace hy1 : us[j]? = some y1 := hy1
        rw [hut] at hy1
        cases hy1
        have sn := Same.new (.tup [V.int (j : Int), .ref ta]) htp
        have nd3 : ∀ o c, H c = some o → c ≠ d := fun o c h z => by rw [z, hd0] at h; cases h
        have nd2 : ∀ c o, H2 c = some o → (∀ kv, o ≠ .dK kv) → c ≠ d := fun c o h hk z => by rw [z, hd2] at h; exact hk _ (Option.some.inj h).symm
        have hta4 : upd H3 tp (.tup [V.int (j : Int), .ref ta]) ta = some (arcHO as[j]) := sn _ _ (x3 _ _ (nd3 _ _ htt) (s2 _ _ htt))
        have hD4 : upd H3 tp (.tup [V.int (j : Int), .ref ta]) D = some (.lst (ds.map V.ref)) := sn _ _ (x3 _ _ ndD.symm hD2)
        have hN4 := hN.same sn
        have x4 := x3.trans sn
        have hls4 : LivsAt (upd H3 tp (.tup [V.int (j : Int), .ref ta])) ds as b t (at_ + 1) := fun k h1 h2 => by
          obtain ⟨c, e1, e2⟩ := hls k h1 h2
          exact ⟨c, e1, e2.exd hd2 (dne k c e1 (by omega)) x4⟩
        obtain ⟨o1, o2, o3, o4⟩ := oka.2 as[j] (List.getElem_mem hja)
        refine ⟨tp, _, rfl, SqT.of upd_same, rfl, _, _, rfl, _, _, rfl, rfl, ?_⟩
        generalize upd H3 tp (.tup [V.int (j : Int), .ref ta]) = H4 at *
        refine ⟨_, rfl, _, rfl, _, rfl, _, rfl, _, rfl, t, at_, ta, D, b, as[j], ds, as, rfl, hat, ht, hta4, hD4, hls4, o2, o3, fun r hr => ⟨r, rfl, ?_⟩⟩
        obtain ⟨kvs, ad, hd4, hkl, hnone, hsome, hinj⟩ := hN4
        have hkey : ∀ g, as[j].1 ≠ g → livI as b (t.drop at_) g (j + 1) = livI as b (t.drop at_) g j := fun g c => livI_succ.2 fun ⟨a, e1, e2, _⟩ => by
          rw [hai] at e1
          cases e1
          exact c e2
        cases r with
        | false =>
          have hno : ∀ g, livI as b (t.drop at_) g (j + 1) = livI as b (t.drop at_) g j := fun g => livI_succ.2 fun ⟨a, e1, _, e3⟩ => by
            rw [hai] at e1
            cases e1
            exact Bool.noConfusion (hr.mpr e3)
          refine iteF ⟨_, _, rfl, x4, kvs, ad, hd4, by omega, fun g hg => hnone g (by rw [← hno]; exact hg), fun g hg => ?_, fun g g' h1 h2 => hinj g g' (by rw [← hno]; exact h1) (by rw [← hno]; exact h2)⟩
          rw [hno] at hg ⊢
          exact hsome g hg
        | true =>
          have htk := hr.mp rfl
          have own : livI as b (t.drop at_) as[j].1 (j + 1) = livI as b (t.drop at_) as[j].1 j ++ [j] := livI_succ.1 ⟨as[j], hai, rfl, htk⟩
          refine iteT ⟨_, rfl, _, rfl, D, _, _, _, rfl, rfl, SqL.of hD4, atI_nat (by rw [List.getElem?_map, hd]; rfl), d, rfl, .inl ⟨kvs, .inl hd4⟩, _, rfl, ta, _, _, _, rfl, rfl, SqT.of hta4, rfl, le_size (by simp), fun l' hl' => ?_⟩
          have s5 : Same H4 (upd H4 l' (.lst [])) := Same.new _ hl'
          have gl' : upd H4 l' (.lst []) l' = some (.lst []) := upd_same
          have hd5 := s5 _ _ hd4
          have nl'd : l' ≠ d := hp_ne hd4 hl'
          refine ⟨kvs, .inl (as[j].1 : Int), hd5, rfl, lt_size (by omega), fun v hv => ?_, fun hn => ?_⟩
          · have hne : livI as b (t.drop at_) as[j].1 j ≠ [] := fun z => by rw [hnone _ z] at hv; cases hv
            obtain ⟨e1, e2, e3⟩ := hsome _ hne
            rw [e1] at hv
            cases hv
            have hnd : ad as[j].1 ≠ d := fun z => by rw [z, hd4] at e3; cases e3
            have ll := livI_len as b (t.drop at_) as[j].1 j
            refine ⟨.inl ⟨rfl, _, SqL.of (s5 _ _ e3)⟩, _, rfl, ad as[j].1, _, _, rfl, rfl, s5 _ _ e3, lt_size (by rw [List.length_map]; omega), ?_⟩
            have e3' := s5 _ _ e3
            refine ⟨_, _, rfl, (x4.trans s5).updNew e2, kvs, ad, by rw [upd_ne hnd.symm]; exact hd5, by omega, fun g hg => ?_, fun g hg => ?_, fun g g' hg hg' => ?_⟩
            · by_cases c : as[j].1 = g
              · subst c; rw [own] at hg; simp at hg
              · exact hnone g (by rw [← hkey g c]; exact hg)
            · by_cases c : as[j].1 = g
              · subst c
                rw [own]
                exact ⟨e1, e2, by rw [upd_same, List.map_append]; rfl⟩
              · rw [hkey g c] at hg ⊢
                obtain ⟨f1, f2, f3⟩ := hsome g hg
                exact ⟨f1, f2, by rw [upd_ne (fun z => c (hinj _ _ hg hne z).symm)]; exact s5 _ _ f3⟩
            · have back : ∀ g, livI as b (t.drop at_) g (j + 1) ≠ [] → livI as b (t.drop at_) g j ≠ [] := fun g hg => by
                by_cases c : as[j].1 = g
                · subst c; exact hne
                · rw [← hkey g c]; exact hg
              exact hinj g g' (back g hg) (back g' hg')
          · have hemp : livI as b (t.drop at_) as[j].1 j = [] := by
              by_cases z : livI as b (t.drop at_) as[j].1 j = []
              · exact z
              · rw [(hsome _ z).1] at hn
                cases hn
            have hHl' : H2 l' = none := x4.free hl' nl'd
            have gd6 : upd (upd H4 l' (.lst [])) d (.dK (putK kvs (.inl (as[j].1 : Int)) (.ref l'))) d = some (.dK (putK kvs (.inl (as[j].1 : Int)) (.ref l'))) := upd_same
            have gl6 : upd (upd H4 l' (.lst [])) d (.dK (putK kvs (.inl (as[j].1 : Int)) (.ref l'))) l' = some (.lst []) := by rw [upd_ne nl'd]; exact gl'
            have x6 : ExD d H2 (upd (upd H4 l' (.lst [])) d (.dK (putK kvs (.inl (as[j].1 : Int)) (.ref l')))) := (x4.trans s5).updD
            have k6 : ∀ c o, c ≠ d → H4 c = some o → upd (upd H4 l' (.lst [])) d (.dK (putK kvs (.inl (as[j].1 : Int)) (.ref l'))) c = some o := fun c o n h => by rw [upd_ne n]; exact s5 _ _ h
            generalize upd (upd H4 l' (.lst [])) d (.dK (putK kvs (.inl (as[j].1 : Int)) (.ref l'))) = H6 at *
            refine ⟨.inl ⟨rfl, _, SqL.of gl6⟩, _, rfl, l', [], _, rfl, rfl, gl6, by decide, ?_⟩
            have k8 : ∀ c o, c ≠ d → c ≠ l' → H4 c = some o → upd H6 l' (.lst ([] ++ [V.int (j : Int)])) c = some o := fun c o n1 n2 h => by rw [upd_ne n2]; exact k6 c o n1 h
            have kne : ∀ g, as[j].1 ≠ g → ¬ ((Sum.inl (g : Int) : Key) = Sum.inl (as[j].1 : Int)) := fun g c z => by
              injection z with z
              exact c (by omega)
            obtain ⟨f, fown, fne⟩ : ∃ f : Nat → Addr, f as[j].1 = l' ∧ ∀ g, as[j].1 ≠ g → f g = ad g := ⟨fun g => if g = as[j].1 then l' else ad g, if_pos rfl, fun g c => if_neg fun z => c z.symm⟩
            refine ⟨_, _, rfl, x6.updNew hHl', putK kvs (.inl (as[j].1 : Int)) (.ref l'), f, by rw [upd_ne nl'd.symm]; exact gd6, ?_, fun g hg => ?_, fun g hg => ?_, fun g g' hg hg' e => ?_⟩
            · have := length_putK kvs (.inl (as[j].1 : Int)) (.ref l')
              omega
            · by_cases c : as[j].1 = g
              · subst c; rw [own] at hg; simp at hg
              · rw [valV_put, if_neg (kne g c)]
                rw [hkey g c] at hg
                exact hnone g hg
            · by_cases c : as[j].1 = g
              · subst c
                rw [own, valV_put, if_pos rfl, fown, hemp]
                exact ⟨rfl, hHl', upd_same⟩
              · rw [hkey g c] at hg ⊢
                rw [valV_put, if_neg (kne g c), fne g c]
                obtain ⟨f1, f2, f3⟩ := hsome g hg
                exact ⟨f1, f2, k8 _ _ (fun z => by rw [z, hd4] at f3; cases f3) (fun z => by rw [z, hl'] at f3; cases f3) f3⟩
            · have far : ∀ g, as[j].1 ≠ g → livI as b (t.drop at_) g (j + 1) ≠ [] → ad g ≠ l' := fun g c h z => by
                rw [hkey g c] at h
                obtain ⟨_, _, f3⟩ := hsome g h
                rw [z, hl'] at f3
                cases f3
              by_cases c : as[j].1 = g
              · by_cases c' : as[j].1 = g'
                · exact c.symm.trans c'
                · subst c
                  have e' : l' = ad g' := by rw [← fown, ← fne g' c']; exact e
                  exact absurd e'.symm (far g' c' hg')
              · by_cases c' : as[j].1 = g'
                · subst c'
                  have e' : ad g = l' := by rw [← fown, ← fne g c]; exact e
                  exact absurd e' (far g c hg)
                · have e' : ad g = ad g' := by rw [← fne g c, ← fne g' c']; exact e
                  exact hinj g g' (by rw [← hkey g c]; exact hg) (by rw [← hkey g' c']; exact hg') e'
      · rintro σ H3 ⟨v5, v6, rfl, x3, hN⟩
        rw [harc.1] at hN
        refine ⟨_, _, _, rfl, x3 _ _ ndD.symm hD2, fun c o h => x3 c o (fun z => by rw [z, hd0] at h; cases h) (s2 _ _ h), fun k h1 h2 => ?_, fun k c h1 hc => ?_⟩
        · by_cases e : k = at_
          · subst e
            exact ⟨d, hd, hN.at⟩
          · obtain ⟨c, e1, e2⟩ := hls k (by omega) h2
            exact ⟨c, e1, e2.exd hd2 (dne k c e1 e) x3⟩
        · exact x3 _ _ (dne k c hc (by omega)) (hfr k c (by omega) hc)
    · rintro σ H2 ⟨v4, v5, v6, rfl, hD2, s2, hls, _⟩
      rw [Nat.sub_self] at hls
      exact ⟨_, rfl, k H2 D ds s2 hD hD2 hdl hls⟩
end
end J


set_option Elab.async false
set_option linter.all false
set_option maxRecDepth 100000
set_option maxHeartbeats 4000000
namespace J
open PySem L2
/-! ### all rows that read a text -/
open Classical in
noncomputable def rdgF (as : List Arc) : Nat → Nat → List Nat → List (List Nat)
  | 0, _, u => if u = [] then [[]] else []
  | n + 1, g, u => if u = [] then [[]] else (liv as false u g).flatMap fun i => match as[i]? with
    | some a => (rdgF as n a.2.2 (u.drop a.2.1.length)).map fun r => i :: r
    | none => []
noncomputable def rdg (as : List Arc) (g : Nat) (u : List Nat) : List (List Nat) := rdgF as u.length g u
def Wd (as : List Arc) : Prop := ∀ a ∈ as, 1 ≤ a.2.1.length
theorem rdgF_nil (as : List Arc) (n g : Nat) : rdgF as n g [] = [[]] := by cases n <;> simp [rdgF]
theorem rdgF_step (as : List Arc) (n g : Nat) {u : List Nat} (h : u ≠ []) : rdgF as (n + 1) g u = (liv as false u g).flatMap fun i => match as[i]? with
    | some a => (rdgF as n a.2.2 (u.drop a.2.1.length)).map fun r => i :: r
    | none => [] := by
  conv => lhs; unfold rdgF
  rw [if_neg h]
theorem flat_congr {α β : Type} {f g : α → List β} : ∀ {l : List α}, (∀ x ∈ l, f x = g x) → l.flatMap f = l.flatMap g
  | [], _ => rfl
  | a :: l, h => by
    rw [List.flatMap_cons, List.flatMap_cons, h a List.mem_cons_self, flat_congr fun x hx => h x (List.mem_cons_of_mem _ hx)]
theorem rdgF_ge {as : List Arc} (hw : Wd as) : ∀ (n m g : Nat) (u : List Nat), u.length ≤ n → u.length ≤ m → rdgF as n g u = rdgF as m g u
  | 0, m, g, u, h1, _ => by
    have : u = [] := List.length_eq_zero_iff.mp (by omega)
    subst this
    rw [rdgF_nil, rdgF_nil]
  | n + 1, 0, g, u, _, h2 => by
    have : u = [] := List.length_eq_zero_iff.mp (by omega)
    subst this
    rw [rdgF_nil, rdgF_nil]
  | n + 1, m + 1, g, u, h1, h2 => by
    by_cases c : u = []
    · subst c
      rw [rdgF_nil, rdgF_nil]
    · rw [rdgF_step as n g c, rdgF_step as m g c]
      refine flat_congr fun i hi => ?_
      obtain ⟨a, ha, _⟩ := mem_liv.mp hi
      rw [ha]
      have := hw a (List.mem_of_getElem? ha)
      dsimp only
      rw [rdgF_ge hw n m a.2.2 (u.drop a.2.1.length) (by rw [List.length_drop]; omega) (by rw [List.length_drop]; omega)]
theorem rdg_nil (as : List Arc) (g : Nat) : rdg as g [] = [[]] := rdgF_nil as _ g
theorem rdg_step {as : List Arc} (hw : Wd as) (g : Nat) {u : List Nat} (h : u ≠ []) : rdg as g u = (liv as false u g).flatMap fun i => match as[i]? with
    | some a => (rdg as a.2.2 (u.drop a.2.1.length)).map fun r => i :: r
    | none => [] := by
  unfold rdg
  have hl : 1 ≤ u.length := List.length_pos_iff.mpr h
  obtain ⟨n, hn⟩ : ∃ n, u.length = n + 1 := ⟨u.length - 1, by omega⟩
  rw [hn, rdgF_step as n g h]
  refine flat_congr fun i hi => ?_
  obtain ⟨a, ha, _⟩ := mem_liv.mp hi
  rw [ha]
  have := hw a (List.mem_of_getElem? ha)
  dsimp only
  rw [rdgF_ge hw n _ a.2.2 (u.drop a.2.1.length) (by rw [List.length_drop]; omega) (Nat.le_refl _)]
/-- a row that reads a text from a state on -/
inductive Rd (as : List Arc) : Nat → List Nat → List Nat → Prop
  | nil {g : Nat} : Rd as g [] []
  | cons {g i : Nat} {a : Arc} {u r : List Nat} (h : as[i]? = some a) (e : a.1 = g) (p : a.2.1 <+: u) (t : Rd as a.2.2 (u.drop a.2.1.length) r) : Rd as g u (i :: r)
theorem rd_gd {as : List Arc} (hw : Wd as) {g : Nat} {u r : List Nat} (h : Rd as g u r) : Gd as false g u := by
  induction h with
  | nil => exact .nil
  | @cons g i a u r h e p t ih =>
    have w1 := hw a (List.mem_of_getElem? h)
    have hl := p.length_le
    by_cases c : a.2.1.length < u.length
    · exact .go h e c p ih
    · have e2 : a.2.1 = u := p.eq_of_length (by omega)
      exact .fin h e (by omega) (fun z => by rw [z, List.length_nil] at hl; omega) (by rw [e2]; exact List.prefix_refl _) (.inr (by rw [e2]))
theorem gd_rd {as : List Arc} {g : Nat} {u : List Nat} (h : Gd as false g u) : ∃ r, Rd as g u r := by
  induction h with
  | nil => exact ⟨[], .nil⟩
  | @go g i a u h e l p r ih =>
    obtain ⟨r, hr⟩ := ih
    exact ⟨i :: r, .cons h e p hr⟩
  | @fin g i a u h e l n p r =>
    have hl : a.2.1.length = u.length := r.elim (fun z => Bool.noConfusion z) id
    have e2 : u = a.2.1 := p.eq_of_length hl.symm
    refine ⟨[i], .cons h e (by rw [e2]; exact List.prefix_refl _) ?_⟩
    rw [List.drop_of_length_le (by omega)]
    exact .nil
theorem tk_false {as : List Arc} {u : List Nat} {a : Arc} : Tk as false u a ↔ a.2.1 <+: u ∧ (Gd as false a.2.2 (u.drop a.2.1.length)) := by
  constructor
  · rintro (⟨l, p, h⟩ | ⟨l, p, h⟩)
    · exact ⟨p, h⟩
    · have hl : a.2.1.length = u.length := h.elim (fun z => Bool.noConfusion z) id
      have e2 : u = a.2.1 := p.eq_of_length hl.symm
      refine ⟨by rw [e2]; exact List.prefix_refl _, ?_⟩
      rw [List.drop_of_length_le (by omega)]
      exact .nil
  · rintro ⟨p, h⟩
    by_cases c : a.2.1.length < u.length
    · exact .inl ⟨c, p, h⟩
    · have e2 : a.2.1 = u := p.eq_of_length (by have := p.length_le; omega)
      exact .inr ⟨by omega, by rw [e2]; exact List.prefix_refl _, .inr (by rw [e2])⟩
theorem mem_rdg {as : List Arc} (hw : Wd as) : ∀ (n g : Nat) (u r : List Nat), u.length ≤ n → (r ∈ rdg as g u ↔ Rd as g u r)
  | 0, g, u, r, h => by
    have : u = [] := List.length_eq_zero_iff.mp (by omega)
    subst this
    rw [rdg_nil, List.mem_singleton]
    constructor
    · rintro rfl; exact .nil
    · intro h
      cases h with
      | nil => rfl
      | cons h e p t =>
        have w1 := hw _ (List.mem_of_getElem? h)
        have := p.length_le
        rw [List.length_nil] at this
        omega
  | n + 1, g, u, r, h => by
    by_cases c : u = []
    · subst c
      exact mem_rdg hw 0 g [] r (Nat.le_refl _)
    · rw [rdg_step hw g c, List.mem_flatMap]
      constructor
      · rintro ⟨i, hi, hr⟩
        obtain ⟨a, ha, e, tk⟩ := mem_liv.mp hi
        rw [ha] at hr
        obtain ⟨r', hr', rfl⟩ := List.mem_map.mp hr
        have w1 := hw a (List.mem_of_getElem? ha)
        exact .cons ha e (tk_false.mp tk).1 ((mem_rdg hw n _ _ _ (by rw [List.length_drop]; omega)).mp hr')
      · intro h
        cases h with
        | nil => exact absurd rfl c
        | @cons _ i a _ r ha e p t =>
          have w1 := hw a (List.mem_of_getElem? ha)
          refine ⟨i, mem_liv.mpr ⟨a, ha, e, tk_false.mpr ⟨p, rd_gd hw t⟩⟩, ?_⟩
          rw [ha]
          exact List.mem_map.mpr ⟨r, (mem_rdg hw n _ _ _ (by rw [List.length_drop]; omega)).mpr t, rfl⟩
theorem rdg_ne {as : List Arc} (hw : Wd as) {g : Nat} {u : List Nat} : rdg as g u ≠ [] ↔ Gd as false g u := by
  constructor
  · intro h
    obtain ⟨r, hr⟩ := List.exists_mem_of_ne_nil _ h
    exact rd_gd hw ((mem_rdg hw u.length g u r (Nat.le_refl _)).mp hr)
  · intro h z
    obtain ⟨r, hr⟩ := gd_rd h
    have := (mem_rdg hw u.length g u r (Nat.le_refl _)).mpr hr
    rw [z] at this
    cases this
/-! ### what waits -/
abbrev Ent := Nat × Nat × Nat
/-- a row that reads the text up to a place, and the state where it ends -/
inductive Wk (as : List Arc) (t : List Nat) : Nat → Nat → List Nat → Nat → Nat → Prop
  | nil {g k : Nat} : Wk as t g k [] g k
  | snoc {g k : Nat} {r : List Nat} {h m i : Nat} {a : Arc} (w : Wk as t g k r h m) (e : as[i]? = some a) (s : a.1 = h) (p : a.2.1 <+: t.drop m) : Wk as t g k (r ++ [i]) a.2.2 (m + a.2.1.length)
/-- the rows that an entry stands for -/
noncomputable def expE (as : List Arc) (t : List Nat) (R : List Nat) (e : Ent) : List (List Nat) := match as[e.2.2]? with
  | some a => (rdg as a.2.2 (t.drop (e.2.1 + a.2.1.length))).map fun r => R.take e.1 ++ e.2.2 :: r
  | none => []
/-- an entry that fits: it goes on behind a beginning of the row -/
def EntOk (as : List Arc) (t : List Nat) (R : List Nat) (e : Ent) : Prop := e.1 ≤ R.length ∧ e.1 ≤ e.2.1 ∧ e.2.1 < t.length ∧ ∃ g, e.2.2 ∈ liv as false (t.drop e.2.1) g
structure RdI (as : List Arc) (t : List Nat) (all : List (List Nat)) (R : List Nat) (W : List Ent) (F : List (List Nat)) : Prop where
  ok : ∀ e ∈ W, EntOk as t R e
  asc : W.Pairwise fun a b => a.1 ≤ b.1
  sum : F ++ W.reverse.flatMap (expE as t R) = all
theorem exp_ne {as : List Arc} (hw : Wd as) {t R : List Nat} {e : Ent} (h : EntOk as t R e) : expE as t R e ≠ [] := by
  obtain ⟨_, _, h2, g, hg⟩ := h
  obtain ⟨a, ha, _, tk⟩ := mem_liv.mp hg
  unfold expE
  rw [ha]
  have := rdg_ne hw |>.mpr (tk_false.mp tk).2
  rw [List.drop_drop] at this
  exact fun z => this (List.map_eq_nil_iff.mp z)
theorem flat_ge {α β : Type} {f : α → List β} : ∀ {l : List α}, (∀ x ∈ l, f x ≠ []) → l.length ≤ (l.flatMap f).length
  | [], _ => Nat.le_refl _
  | a :: l, h => by
    have h1 := flat_ge (f := f) (l := l) fun x hx => h x (List.mem_cons_of_mem _ hx)
    have h2 := List.length_pos_iff.mpr (h a List.mem_cons_self)
    rw [List.flatMap_cons, List.length_append, List.length_cons]
    omega
theorem RdI.few {as : List Arc} (hw : Wd as) {t : List Nat} {all : List (List Nat)} {R : List Nat} {W : List Ent} {F : List (List Nat)} (h : RdI as t all R W F) : F.length + W.length ≤ all.length := by
  have h1 := flat_ge (f := expE as t R) (l := W.reverse) fun e he => exp_ne hw (h.ok e (List.mem_reverse.mp he))
  rw [List.length_reverse] at h1
  rw [← h.sum, List.length_append]
  omega
theorem exp_take {as : List Arc} {t R R' : List Nat} {e : Ent} (h : R.take e.1 = R'.take e.1) : expE as t R e = expE as t R' e := by
  unfold expE
  rw [h]
theorem RdI.init {as : List Arc} (hw : Wd as) {t : List Nat} {g : Nat} (ht : t ≠ []) : RdI as t (rdg as g t) [] ((liv as false t g).reverse.map fun c => (0, 0, c)) [] := by
  have hl : 0 < t.length := List.length_pos_iff.mpr ht
  refine ⟨fun e he => ?_, List.pairwise_map.mpr (List.pairwise_iff_getElem.mpr fun _ _ _ _ _ => Nat.le_refl _), ?_⟩
  · obtain ⟨c, hc, rfl⟩ := List.mem_map.mp he
    exact ⟨Nat.zero_le _, Nat.zero_le _, hl, g, List.mem_reverse.mp hc⟩
  · rw [List.nil_append, ← List.map_reverse, List.reverse_reverse, rdg_step hw g ht, List.flatMap_map]
    refine flat_congr fun c hc => ?_
    unfold expE
    dsimp only
    cases as[c]? with
    | none => rfl
    | some a =>
      dsimp only
      rw [Nat.zero_add]
      rfl
/-- an entry is taken from the end -/
theorem RdI.pop {as : List Arc} (hw : Wd as) {t : List Nat} {all : List (List Nat)} {R : List Nat} {W : List Ent} {e : Ent} {F : List (List Nat)} (h : RdI as t all R (W ++ [e]) F) {a : Arc} (ha : as[e.2.2]? = some a) :
    (e.2.1 + a.2.1.length = t.length → RdI as t all (R.take e.1 ++ [e.2.2]) W (F ++ [R.take e.1 ++ [e.2.2]])) ∧
    (e.2.1 + a.2.1.length ≠ t.length → e.2.1 + a.2.1.length < t.length ∧ RdI as t all (R.take e.1 ++ [e.2.2]) (W ++ (liv as false (t.drop (e.2.1 + a.2.1.length)) a.2.2).reverse.map fun c => (e.1 + 1, e.2.1 + a.2.1.length, c)) F) := by
  obtain ⟨k, at_, i⟩ := e
  dsimp only at *
  have hok := h.ok (k, at_, i) (by simp)
  obtain ⟨h1, hka, h2, g, hg⟩ := hok
  dsimp only at h1 hka h2 hg
  have hw1 := hw a (List.mem_of_getElem? ha)
  obtain ⟨a', ha', _, tk⟩ := mem_liv.mp hg
  rw [ha] at ha'
  cases ha'
  have hp := (tk_false.mp tk).1
  have hle := hp.length_le
  rw [List.length_drop] at hle
  have hasc := List.pairwise_append.mp h.asc
  have low : ∀ e ∈ W, e.1 ≤ k := fun e he => hasc.2.2 e he _ (List.mem_singleton.mpr rfl)
  have tkk : ∀ m, m ≤ k → (R.take k ++ [i]).take m = R.take m := fun m hm => by
    rw [List.take_append_of_le_length (by rw [List.length_take]; omega), List.take_take, Nat.min_eq_left hm]
  have hRl : (R.take k ++ [i]).length = k + 1 := by rw [List.length_append, List.length_take, List.length_singleton]; omega
  have okW : ∀ e ∈ W, EntOk as t (R.take k ++ [i]) e := fun e he => by
    obtain ⟨q1, q2, q3, q4⟩ := h.ok e (List.mem_append_left _ he)
    exact ⟨by rw [hRl]; have := low e he; omega, q2, q3, q4⟩
  have expW : W.reverse.flatMap (expE as t R) = W.reverse.flatMap (expE as t (R.take k ++ [i])) := flat_congr fun e he => exp_take (tkk _ (low e (List.mem_reverse.mp he))).symm
  have hsum := h.sum
  rw [List.reverse_append, List.reverse_singleton, List.flatMap_append, List.flatMap_singleton] at hsum
  have he0 : expE as t R (k, at_, i) = (rdg as a.2.2 (t.drop (at_ + a.2.1.length))).map fun r => R.take k ++ i :: r := by
    unfold expE
    dsimp only
    rw [ha]
  rw [he0, expW] at hsum
  constructor
  · intro hend
    refine ⟨okW, hasc.1, ?_⟩
    rw [← hsum, hend, List.drop_of_length_le (Nat.le_refl _), rdg_nil]
    simp
  · intro hend
    have hlt : at_ + a.2.1.length < t.length := by omega
    refine ⟨hlt, fun e he => ?_, ?_, ?_⟩
    · rcases List.mem_append.mp he with z | z
      · exact okW e z
      · obtain ⟨c, hc, rfl⟩ := List.mem_map.mp z
        exact ⟨by rw [hRl]; exact Nat.le_refl _, (show k + 1 ≤ at_ + a.2.1.length by omega), hlt, a.2.2, List.mem_reverse.mp hc⟩
    · refine List.pairwise_append.mpr ⟨hasc.1, List.pairwise_map.mpr (List.pairwise_iff_getElem.mpr fun _ _ _ _ _ => Nat.le_refl _), fun x hx y hy => ?_⟩
      obtain ⟨c, hc, rfl⟩ := List.mem_map.mp hy
      have := low x hx
      show x.1 ≤ k + 1
      omega
    · rw [← hsum, List.reverse_append, List.flatMap_append]
      congr 2
      rw [← List.map_reverse, List.reverse_reverse, rdg_step hw _ (by
        intro z
        have := congrArg List.length z
        rw [List.length_drop] at this
        simp at this
        omega), List.flatMap_map, List.map_flatMap]
      refine flat_congr fun c hc => ?_
      unfold expE
      dsimp only
      cases hcc : as[c]? with
      | none => rfl
      | some a2 =>
        dsimp only
        rw [List.map_map, List.drop_drop]
        refine List.map_congr_left fun r _ => ?_
        rw [← hRl, List.take_length]
        simp
end J


set_option Elab.async false
set_option linter.all false
set_option maxRecDepth 100000
set_option maxHeartbeats 4000000
namespace J
open PySem L2
def entO (e : Ent) : HO := .tup [.int (e.1 : Int), .int (e.2.1 : Int), .int (e.2.2 : Int)]
def EntsAt (H : Hp) (vs : List V) (es : List Ent) : Prop := vs.length = es.length ∧ ∀ (i : Nat) e, es[i]? = some e → ∃ t, vs[i]? = some (.ref t) ∧ H t = some (entO e)
def TupP (H H' : Hp) : Prop := ∀ t xs, H t = some (.tup xs) → H' t = some (.tup xs)
theorem TupP.same {H H' : Hp} (s : Same H H') : TupP H H' := fun _ _ h => s _ _ h
theorem TupP.trans {H H1 H2 : Hp} (a : TupP H H1) (b : TupP H1 H2) : TupP H H2 := fun t xs h => b t xs (a t xs h)
theorem TupP.upd {H : Hp} {a : Addr} {xs : List V} {o : HO} (h : H a = some (.lst xs)) : TupP H (upd H a o) := fun t ys e => by
  rw [upd_ne (fun z => by rw [z, h] at e; cases e)]; exact e
theorem EntsAt.to {H H' : Hp} {vs : List V} {es : List Ent} (h : EntsAt H vs es) (s : TupP H H') : EntsAt H' vs es := ⟨h.1, fun i e he => by
  obtain ⟨t, h1, h2⟩ := h.2 i e he
  exact ⟨t, h1, s _ _ h2⟩⟩
theorem EntsAt.nil (H : Hp) : EntsAt H [] [] := ⟨rfl, fun i e h => by simp at h⟩
theorem EntsAt.append {H : Hp} {us vs : List V} {es fs : List Ent} (h : EntsAt H us es) (g : EntsAt H vs fs) : EntsAt H (us ++ vs) (es ++ fs) := by
  refine ⟨by simp [h.1, g.1], fun i a e => ?_⟩
  by_cases hi : i < es.length
  · rw [List.getElem?_append_left hi] at e
    rw [List.getElem?_append_left (by rw [h.1]; exact hi)]
    exact h.2 i a e
  · rw [List.getElem?_append_right (by omega)] at e
    rw [List.getElem?_append_right (by rw [h.1]; omega), h.1]
    exact g.2 _ a e
theorem EntsAt.one {H : Hp} {t : Addr} {e : Ent} (h : H t = some (entO e)) : EntsAt H [.ref t] [e] := ⟨rfl, fun i f hf => by
  cases i with
  | zero => simp at hf; subst hf; exact ⟨t, rfl, h⟩
  | succ j => simp at hf⟩
theorem EntsAt.unsnoc {H : Hp} {vs : List V} {es : List Ent} {e : Ent} (h : EntsAt H vs (es ++ [e])) : ∃ us t, vs = us ++ [.ref t] ∧ EntsAt H us es ∧ H t = some (entO e) := by
  have hl := h.1
  rw [List.length_append, List.length_singleton] at hl
  obtain ⟨t, h1, h2⟩ := h.2 es.length e (by simp)
  have hne : vs ≠ [] := fun z => by rw [z] at hl; simp at hl
  refine ⟨vs.dropLast, t, ?_, ⟨by rw [List.length_dropLast]; omega, fun i f hf => ?_⟩, h2⟩
  · have e1 := List.dropLast_concat_getLast hne
    have e2 : vs.getLast hne = .ref t := by
      rw [List.getLast_eq_getElem]
      have : vs[vs.length - 1]? = some (.ref t) := by rw [hl]; exact h1
      rw [List.getElem?_eq_getElem (by omega)] at this
      exact Option.some.inj this
    rw [e2] at e1
    exact e1.symm
  · have hi := (List.getElem?_eq_some_iff.mp hf).1
    obtain ⟨u, q1, q2⟩ := h.2 i f (by rw [List.getElem?_append_left hi]; exact hf)
    refine ⟨u, ?_, q2⟩
    rw [List.getElem?_dropLast, if_pos (by omega)]
    exact q1
/-- rows as lists: each list is new -/
def RowsAt (H : Hp) (P : Addr → Prop) (vs : List V) (rs : List (List Nat)) : Prop := vs.length = rs.length ∧ ∀ (i : Nat) r, rs[i]? = some r → ∃ a, vs[i]? = some (.ref a) ∧ H a = some (.lst (nats r)) ∧ P a
theorem RowsAt.nil (H : Hp) (P : Addr → Prop) : RowsAt H P [] [] := ⟨rfl, fun i e h => by simp at h⟩
theorem RowsAt.snoc {H : Hp} {P : Addr → Prop} {us : List V} {rs : List (List Nat)} (h : RowsAt H P us rs) {a : Addr} {r : List Nat} (ha : H a = some (.lst (nats r))) (p : P a) : RowsAt H P (us ++ [.ref a]) (rs ++ [r]) := by
  refine ⟨by simp [h.1], fun i x e => ?_⟩
  by_cases hi : i < rs.length
  · rw [List.getElem?_append_left hi] at e
    rw [List.getElem?_append_left (by rw [h.1]; exact hi)]
    exact h.2 i x e
  · rw [List.getElem?_append_right (by omega)] at e
    rw [List.getElem?_append_right (by rw [h.1]; omega), h.1]
    have h0 : i - rs.length = 0 := by
      have := (List.getElem?_eq_some_iff.mp e).1
      rw [List.length_singleton] at this
      omega
    rw [h0] at e ⊢
    simp at e
    subst e
    exact ⟨a, rfl, ha, p⟩
theorem RowsAt.to {H H' : Hp} {P : Addr → Prop} {us : List V} {rs : List (List Nat)} (h : RowsAt H P us rs) (s : ∀ a o, P a → H a = some o → H' a = some o) : RowsAt H' P us rs := ⟨h.1, fun i r e => by
  obtain ⟨a, h1, h2, h3⟩ := h.2 i r e
  exact ⟨a, h1, s _ _ h3 h2, h3⟩⟩
theorem RowsAt.weak {H : Hp} {P P' : Addr → Prop} {us : List V} {rs : List (List Nat)} (h : RowsAt H P us rs) (s : ∀ a, P a → P' a) : RowsAt H P' us rs := ⟨h.1, fun i r e => by
  obtain ⟨a, h1, h2, h3⟩ := h.2 i r e
  exact ⟨a, h1, h2, s _ h3⟩⟩
def entM (n : Nat) (W : List Ent) : Nat := (W.map fun e => 201 ^ (n - e.2.1)).sum
theorem entM_append (n : Nat) (W W' : List Ent) : entM n (W ++ W') = entM n W + entM n W' := by
  unfold entM
  rw [List.map_append, List.sum_append]
theorem entM_const (n k end_ : Nat) (l : List Nat) : entM n (l.map fun c => (k, end_, c)) = l.length * 201 ^ (n - end_) := by
  induction l with
  | nil => simp [entM]
  | cons a l ih =>
    have : entM n ((a :: l).map fun c => (k, end_, c)) = 201 ^ (n - end_) + entM n (l.map fun c => (k, end_, c)) := rfl
    rw [this, ih, List.length_cons, Nat.succ_mul]
    omega
theorem entM_less {n at_ end_ k m : Nat} {l : List Nat} (hl : l.length ≤ 200) (h1 : at_ < end_) (h2 : end_ ≤ n) (W : List Ent) (i : Nat) : entM n (W ++ l.map fun c => (k, end_, c)) < entM n (W ++ [(m, at_, i)]) := by
  rw [entM_append, entM_append, entM_const]
  have e1 : entM n [(m, at_, i)] = 201 ^ (n - at_) := by simp [entM]
  rw [e1]
  have e2 : 201 ^ (n - at_) = 201 ^ (n - at_ - 1) * 201 := by
    rw [← Nat.pow_succ]
    congr 1
    omega
  have e3 : 201 ^ (n - end_) ≤ 201 ^ (n - at_ - 1) := Nat.pow_le_pow_right (by omega) (by omega)
  have e4 : 0 < 201 ^ (n - at_ - 1) := Nat.pow_pos (by omega)
  have e5 : l.length * 201 ^ (n - end_) ≤ 200 * 201 ^ (n - at_ - 1) := Nat.mul_le_mul hl e3
  omega
theorem OkW.wd {sg : List Nat} {as : List Arc} (h : OkW sg as) : Wd as := fun a ha => (h.all.2 a ha).2.1
def spReadings (C : Addr) : Sp := fun vs H Q _ => ∃ (q : Addr) (sg : List Nat) (us : List V) (as : List Arc) (g : Nat) (t : List Nat), vs = [.ref q, .int (g : Int), .str (SX.S t)] ∧ LoomAt C H q sg us as ∧ g ≤ 63 ∧ t.length ≤ 2000 ∧ (∀ c ∈ t, c ∈ sg) ∧ (rdg as g t).length ≤ 200 ∧
  ∀ (H' : Hp) (fr : Addr) (vs : List V), Same H H' → H fr = none → H' fr = some (.lst vs) → RowsAt H' (fun a => a ≠ fr ∧ H a = none) vs (rdg as g t) → Q (.ref fr) H'
section
variable {P : Program} {w : World} {K : PySem.W.Frag} {mg : Str → Option Value} {base : Heap}
theorem ok_check_stateR (T : Tx K mg) : FnOk P w K mg base CX0 2 T.f_check_state T.fd_check_state P_check_state spState1 := by
  have G_is_number : FnOk P w K mg base CX0 1 T.f_is_number T.fd_is_number P_is_number spNumber := ok_is_number T
  refine T.F_check_state.ok sc_check_state (fun vs H Q E h => ?_) (fun cdv A outer s H vs Q E hr h => ?_)
  · obtain ⟨i, rfl, _⟩ := h
    rfl
  · obtain ⟨i, rfl, h1, h2, k⟩ := h
    refine ⟨_, (pss_one (ps_if (pt_not (pt_val (pe_call G_is_number (hr.mono (by decide)) rfl T.m_is_number T.F_is_number.kp T.b_is_number .nil pass0 (pa_cons (pv 0) (pa_cons pe_int (pa_cons (pe_glob (v := V.int 63) rfl T.g_LAST_STATE ⟨_, rfl⟩) pa_nil)))))) (pss_one ps_never) pss_nil)), ?_⟩
    refine ⟨_, rfl, i, 0, 63, rfl, fun b hb => ⟨b, rfl, ?_⟩⟩
    rw [hb.mpr ⟨h1, h2⟩]
    exact k
theorem ok_check_textR (T : Tx K mg) : FnOk P w K mg base CX0 2 T.f_check_text T.fd_check_text P_check_text spText1 := by
  have G_is_string_over : FnOk P w K mg base CX0 1 T.f_is_string_over T.fd_is_string_over P_is_string_over spOver := ok_is_string_over T
  refine T.F_check_text.ok sc_check_text (fun vs H Q E h => ?_) (fun cdv A outer s H vs Q E hr h => ?_)
  · obtain ⟨sg, u, rfl, _⟩ := h
    rfl
  · obtain ⟨sg, u, rfl, h1, h2, k⟩ := h
    refine ⟨_, (pss_one (ps_if (pt_not (pt_val (pe_call G_is_string_over (hr.mono (by decide)) rfl T.m_is_string_over T.F_is_string_over.kp T.b_is_string_over .nil pass0 (pa_cons (pv 0) (pa_cons (pv 1) (pa_cons pe_int (pa_cons (pe_glob (v := V.int 2000) rfl T.g_LONGEST_TEXT ⟨_, rfl⟩) pa_nil))))))) (pss_one ps_never) pss_nil)), ?_⟩
    exact ⟨_, rfl, _, rfl, sg, u, 0, 2000, rfl, by omega, by omega, by omega, h2, fun H' sm => ⟨true, rfl, k H' sm⟩⟩
theorem ok_readings (T : Tx K mg) : FnOk P w K mg base CX0 3 T.f_readings T.fd_readings P_readings (spReadings T.C_Loom) := by
  have G_check_state : FnOk P w K mg base CX0 2 T.f_check_state T.fd_check_state P_check_state spState1 := ok_check_stateR T
  have G_check_text : FnOk P w K mg base CX0 2 T.f_check_text T.fd_check_text P_check_text spText1 := ok_check_textR T
  have G_live_arcs : FnOk P w K mg base CX0 2 T.f_live_arcs T.fd_live_arcs P_live_arcs (spLive T.C_Loom) := ok_live_arcs T
  refine T.F_readings.ok sc_readings (fun vs H Q E h => ?_) (fun cdv A outer s H vs Q E hr h => ?_)
  · obtain ⟨q, sg, us, as, g, t, rfl, _⟩ := h
    rfl
  · obtain ⟨q, sg, us, as, g, t, rfl, hL, hg, ht, hin, h200, k⟩ := h
    refine ⟨_, (pss_cons (ps_expr (pe_call G_check_state (hr.mono (by decide)) rfl T.m_check_state T.F_check_state.kp T.b_check_state .nil pass0 (pa_cons (pv 1) pa_nil)))
        (pss_cons (ps_expr (pe_call G_check_text (hr.mono (by decide)) rfl T.m_check_text T.F_check_text.kp T.b_check_text .nil pass0 (pa_cons (pe_fld (pv 0) rfl) (pa_cons (pv 2) pa_nil))))
        (pss_cons (ps_if (pt_cmpR op_eq (pv 2) pe_str (nomark _)) (pss_one (ps_ret (pe_lst (pa_cons (pe_lst pa_nil) pa_nil)))) pss_nil)
        (pss_cons (ps_set (i := 3) sc_readings.nd rfl (Or.inl rfl) (pe_call G_live_arcs (hr.mono (by decide)) rfl T.m_live_arcs T.F_live_arcs.kp T.b_live_arcs .nil pass0 (pa_cons (pv 0) (pa_cons (pv 2) (pa_cons pe_bl pa_nil)))))
        (pss_cons (ps_set (i := 4) sc_readings.nd rfl (Or.inl rfl) (pe_lst pa_nil))
        (pss_cons (ps_set (i := 5) sc_readings.nd rfl (Or.inl rfl) (pe_lst pa_nil))
        (pss_cons (ps_setLc (i := 6) (own := [("number", 9)]) (g := (gName 9)) rfl sc_readings.nd rfl rfl (sw_true rfl rfl rfl (by decide +kernel)) (pi_list (pe_revL (pe_dget2 (hu_of hr) (pe_ix (ix_listK (K := K) rfl) (pv 3) pe_int (fun _ _ => rfl)) (pv 1) (pe_lst pa_nil) ⟨rfl, rfl, rfl, rfl⟩))) (blkOk_by (N := N_readings) (sc := defScope s_readings) (by decide +kernel)) (fun _ _ _ _ _ => (pg_name (i := 9) sc_readings.nd rfl (Or.inl rfl))) (fun _ _ _ _ _ => pts_nil) (fun _ _ _ _ _ => (pe_tup (pa_cons pe_int (pa_cons pe_int (pa_cons (pv 9) pa_nil))))))
        (pss_cons (ps_while PassesOwn.never (pt_truth (pv 6) (by intro _; rfl)) (pss_cons (ps_if (pt_cmpR op_gt (pe_op op_add (pe_callB (call_len_seqK (K := K) rfl) rfl T.n_len (by decide +kernel) (pa_cons (pv 4) pa_nil)) (pe_callB (call_len_seqK (K := K) rfl) rfl T.n_len (by decide +kernel) (pa_cons (pv 6) pa_nil))) (pe_glob (v := V.int 200) rfl T.g_MOST_READINGS ⟨_, rfl⟩) (nomark _)) (pss_one ps_never) pss_nil)
        (pss_cons (ps_asg (pe_bm0 PySem.F.plainAttrs_list PySem.F.slot_list_pop PySem.F.type_list_pop mt_pop (pv 6)) (pg_tup rfl (pgs_cons (pg_name (i := 7) sc_readings.nd rfl (Or.inr rfl)) (pgs_cons (pg_name (i := 8) sc_readings.nd rfl (Or.inl rfl)) (pgs_cons (pg_name (i := 9) sc_readings.nd rfl (Or.inl rfl)) pgs_nil)))))
        (pss_cons (ps_delS (pv 5) (po_some (pv 7)))
        (pss_cons (ps_expr (pe_bm PySem.F.plainAttrs_list PySem.F.slot_list_append PySem.F.type_list_append mt_append (pv 5) (pa_cons (pv 9) pa_nil)))
        (pss_cons (ps_asg (pe_ix (ix_tupK (K := K) rfl) (pe_fld (pv 0) rfl) (pv 9) (fun _ _ => rfl)) (pg_tup rfl (pgs_cons (pg_name (i := 10) sc_readings.nd rfl (Or.inl rfl)) (pgs_cons (pg_name (i := 11) sc_readings.nd rfl (Or.inl rfl)) (pgs_cons (pg_name (i := 12) sc_readings.nd rfl (Or.inl rfl)) pgs_nil)))))
        (pss_cons (ps_set (i := 13) sc_readings.nd rfl (Or.inr rfl) (pe_op op_add (pv 8) (pe_callB call_len_str rfl T.n_len (by decide +kernel) (pa_cons (pv 11) pa_nil))))
        (pss_one (ps_if (pt_cmpR op_eq (pv 13) (pe_callB call_len_str rfl T.n_len (by decide +kernel) (pa_cons (pv 2) pa_nil)) (nomark _)) (pss_one (ps_expr (pe_bm PySem.F.plainAttrs_list PySem.F.slot_list_append PySem.F.type_list_append mt_append (pv 4) (pa_cons (pe_callTy (call_list_ofK (K := K) rfl) rfl T.n_list (by decide +kernel) (pa_cons (pv 5) pa_nil)) pa_nil)))) (pss_one (ps_expr (pe_bm PySem.F.plainAttrs_list PySem.F.slot_list_extend PySem.F.type_list_extend mt_extend (pv 6) (pa_cons (pe_lc (own := [("other", 14)]) (g := (gName 14)) rfl sc_readings.nd (pi_list (pe_revL (pe_dget (hu_of hr) (pe_ix (ix_listK (K := K) rfl) (pv 3) (pv 13) (fun _ _ => rfl)) (pv 12) (fun _ _ => rfl)))) (blkOk_by (N := N_readings) (sc := defScope s_readings) (by decide +kernel)) (fun _ _ _ _ _ => (pg_name (i := 14) sc_readings.nd rfl (Or.inl rfl))) (fun _ _ _ _ _ => pts_nil) (fun _ _ _ _ _ => (pe_tup (pa_cons (pe_op op_add (pv 7) pe_int) (pa_cons (pv 13) (pa_cons (pv 14) pa_nil)))))) pa_nil)))))))))))))
        (pss_one (ps_ret (pv 4))))))))))), ?_⟩
    obtain ⟨dx, TT, hq, hT, harc, hok, hsg⟩ := id hL
    have hw := hok.wd
    have hal := hok.2.1
    have htl : (SX.S t).length ≤ sizeLine := le_size (by rw [SX.S_len]; omega)
    refine ⟨_, rfl, _, rfl, by omega, by omega, ?_⟩
    refine ⟨_, rfl, q, _, dx, _, _, rfl, hq, T.cl_Loom, T.na_Loom_signs, lf_signs _ _, _, rfl, sg, t, rfl, ht, hin, fun H1 s1 => ?_⟩
    refine ⟨_, rfl, rfl, _, rfl, ?_⟩
    refine ite2 (fun c => ?_) (fun c => ?_)
    · have et : t = [] := by
        have e1 : V.str (SX.S t) = V.str "" := of_decide_eq_true c
        injection e1 with e1
        exact SX.S_inj e1
      subst et
      refine ⟨le_size (by simp), fun a1 h1 => ⟨le_size (by simp), fun a2 h2 => ?_⟩⟩
      have s2 : Same H1 (upd H1 a1 (.lst [])) := Same.new _ h1
      have n12 : a2 ≠ a1 := fun z => by rw [z, upd_same] at h2; cases h2
      refine k _ a2 [.ref a1] ((s1.trans s2).trans (Same.new _ h2)) ((s1.trans s2).free h2) upd_same ?_
      rw [rdg_nil]
      refine (RowsAt.nil _ _).snoc (r := []) (by rw [upd_ne n12.symm]; exact upd_same) ⟨n12.symm, s1.free h1⟩
    · have tne : t ≠ [] := fun z => c (decide_eq_true (by rw [z]; rfl))
      have hL1 := hL.same s1
      refine ⟨_, rfl, _, rfl, q, sg, us, as, t, false, rfl, hL1, ht, fun H2 lv ds s2 hlv0 hlv hdl hls => ?_⟩
      refine ⟨le_size (by simp), fun fa hfa => ?_⟩
      have sf : Same H2 (upd H2 fa (.lst [])) := Same.new _ hfa
      have gf : upd H2 fa (.lst []) fa = some (.lst []) := upd_same
      have hf0 : H2 fa = none := hfa
      generalize upd H2 fa (.lst []) = H3 at *
      refine ⟨le_size (by simp), fun ra hra => ?_⟩
      have sr : Same H3 (upd H3 ra (.lst [])) := Same.new _ hra
      have gr : upd H3 ra (.lst []) ra = some (.lst []) := upd_same
      have hr0 : H2 ra = none := sf.free hra
      have nrf : ra ≠ fa := hp_ne gf hra
      have gf4 := sr _ _ gf
      generalize upd H3 ra (.lst []) = H4 at *
      have s24 := sf.trans sr
      have hls4 : LivsAt H4 ds as false t 0 := fun k h1 h2 => by
        obtain ⟨d, e1, e2⟩ := hls k h1 h2
        exact ⟨d, e1, e2.same s24⟩
      obtain ⟨d0, hd0, kvs, ad, hdd, hkl, hno, hso, hinj⟩ := hls4 0 (Nat.le_refl _) (List.length_pos_iff.mpr tne)
      rw [List.drop_zero] at hno hso
      refine ⟨_, rfl, lv, _, _, _, rfl, rfl, SqL.of (s24 _ _ hlv), atI_nat (j := 0) (by rw [List.getElem?_map, hd0]; rfl), d0, rfl, .inl ⟨kvs, .inl hdd⟩, _, rfl, le_size (by simp), fun l0 hl0 => ?_⟩
      have s5 : Same H4 (upd H4 l0 (.lst [])) := Same.new _ hl0
      have hdd5 := s5 _ _ hdd
      refine ⟨_, .inl ⟨kvs, .inl (g : Int), .inl hdd5, rfl, rfl⟩, ?_⟩
      have hsrc : ∃ ll : Addr, (valV kvs (.inl (g : Int))).getD (.ref l0) = .ref ll ∧ upd H4 l0 (.lst []) ll = some (.lst (nats (liv as false t g))) := by
        by_cases z : livI as false t g as.length = []
        · refine ⟨l0, by rw [hno _ z]; rfl, ?_⟩
          have z' : liv as false t g = [] := z
          rw [z', upd_same]
          rfl
        · exact ⟨ad g, by rw [(hso _ z).1]; rfl, s5 _ _ (hso _ z).2⟩
      obtain ⟨ll, ell, hll⟩ := hsrc
      rw [ell]
      have s25 := s24.trans s5
      have gf5 := s5 _ _ gf4
      have gr5 := s5 _ _ gr
      generalize upd H4 l0 (.lst []) = H5 at *
      refine ⟨ll, _, rfl, SqL.of hll, fun p hp => ?_⟩
      have s6 : Same H5 (upd H5 p (.lst (nats (liv as false t g)).reverse)) := Same.new _ hp
      have gp : upd H5 p (.lst (nats (liv as false t g)).reverse) p = some (.lst (nats (liv as false t g)).reverse) := upd_same
      have gf6 := s6 _ _ gf5
      have gr6 := s6 _ _ gr5
      have s26 := s25.trans s6
      generalize upd H5 p (.lst (nats (liv as false t g)).reverse) = H6 at *
      rw [show (nats (liv as false t g)).reverse = nats (liv as false t g).reverse from List.map_reverse.symm] at gp
      have hlv200 := livI_len as false t g as.length
      refine ⟨p, rfl, ⟨_, SqL.of gp⟩, fun wa hwa => lc_list (K := K) (a := p) (xs := nats (liv as false t g).reverse) (fun i H' => ∃ wvs, H' wa = some (.lst wvs) ∧ EntsAt H' wvs (((liv as false t g).reverse.take i).map fun c => (0, 0, c)) ∧ Same H6 H') ⟨[], upd_same, EntsAt.nil _, Same.new _ hwa⟩ (fun i H' _ ⟨_, _, _, sm⟩ => SqL.of (sm _ _ gp)) ?_ ?_⟩
      · rintro i y H7 hy ⟨wvs, hwl, hwe, sm⟩
        rw [List.getElem?_map] at hy
        obtain ⟨c, hc, rfl⟩ := Option.map_eq_some_iff.mp hy
        refine ⟨rfl, _, rfl, le_size (by simp), fun tp htp => ?_⟩
        have st : Same H7 (upd H7 tp (.tup [V.int 0, V.int 0, V.int (c : Int)])) := Same.new _ htp
        have gt : upd H7 tp (.tup [V.int 0, V.int 0, V.int (c : Int)]) tp = some (entO (0, 0, c)) := upd_same
        have hi := (List.getElem?_eq_some_iff.mp hc).1
        rw [List.length_reverse] at hi
        have hll : (liv as false t g).length ≤ as.length := hlv200
        refine ⟨wvs, st _ _ hwl, lt_size (by rw [hwe.1, List.length_map, List.length_take]; omega), wvs ++ [.ref tp], upd_same, ?_, (sm.trans st).updNew hwa⟩
        rw [← take_snoc hc, List.map_append]
        exact ((hwe.to (TupP.same st)).append (EntsAt.one gt)).to (TupP.upd (st _ _ hwl))
      rintro H7 ⟨wvs, hwl, hwe, sm7⟩
      have elen : (nats (liv as false t g).reverse).length = (liv as false t g).reverse.length := List.length_map _
      rw [elen, List.take_length] at hwe
      have nwf : wa ≠ fa := hp_ne gf6 hwa
      have nwr : wa ≠ ra := hp_ne gr6 hwa
      have hw0 : H2 wa = none := s26.free hwa
      have gf7 := sm7 _ _ gf6
      have gr7 := sm7 _ _ gr6
      have s27 := s26.trans sm7
      clear gp hll ell hdd5 hdd hno hso hinj hls4 gf gf4 gf5 gf6 gr gr5 gr6 sm7 s26 s25 s5 s6 s24 sf sr
      have I0 := RdI.init (g := g) hw tne
      refine ⟨fun m σ H' => ∃ (R : List Nat) (W : List Ent) (F : List (List Nat)) (fvs wvs : List V) (v7 v8 v9 v10 v11 v12 v13 : Option V), m = entM t.length W ∧ σ = [some (.ref q), some (.int (g : Int)), some (.str (SX.S t)), some (.ref lv), some (.ref fa), some (.ref ra), some (.ref wa), v7, v8, v9, v10, v11, v12, v13, none] ∧
        H' fa = some (.lst fvs) ∧ RowsAt H' (fun a => a ≠ fa ∧ a ≠ ra ∧ a ≠ wa ∧ H2 a = none) fvs F ∧ H' ra = some (.lst (nats R)) ∧ H' wa = some (.lst wvs) ∧ EntsAt H' wvs W ∧ RdI as t (rdg as g t) R W F ∧ R.length ≤ 2000 ∧ Same H2 H', ⟨_, [], _, [], [], wvs, _, _, _, _, _, _, _, rfl, rfl, gf7, RowsAt.nil _ _, gr7, hwl, hwe, I0, by simp, s27⟩, ?_⟩
      rintro m σ H8 ⟨R, W, F, fvs, wvs8, v7, v8, v9, v10, v11, v12, v13, rfl, rfl, hfa8, hF, hra8, hwa8, hW, I, hRl, s8⟩
      have few := I.few hw
      refine ⟨_, rfl, !wvs8.isEmpty, .inl ⟨_, SqL.of hwa8, rfl⟩, ite2 (fun c => ?_) (fun c => ?_)⟩
      · have hne : W ≠ [] := fun z => by
          subst z
          have : wvs8 = [] := List.length_eq_zero_iff.mp hW.1
          rw [this] at c
          cases c
        obtain ⟨W, e, rfl⟩ : ∃ W' e, W = W' ++ [e] := ⟨W.dropLast, W.getLast hne, (List.dropLast_concat_getLast hne).symm⟩
        obtain ⟨wvs, te, rfl, hW', hte⟩ := hW.unsnoc
        obtain ⟨kept, at_, num⟩ := e
        have hok8 := I.ok (kept, at_, num) (by simp)
        obtain ⟨k1, k2, k3, gg, k4⟩ := hok8
        dsimp only at k1 k2 k3 k4
        obtain ⟨a, ha, hag, htk⟩ := mem_liv.mp k4
        have hpop := I.pop hw (e := (kept, at_, num)) ha
        dsimp only at hpop
        have fl : fvs.length = F.length := hF.1
        have wl : (wvs ++ [V.ref te]).length = (W ++ [(kept, at_, num)]).length := hW.1
        obtain ⟨o1, o2, o3, o4⟩ := hok.all.2 a (List.mem_of_getElem? ha)
        have hwd : (SX.S a.2.1).length ≤ sizeLine := le_size (by rw [SX.S_len]; omega)
        obtain ⟨ta, hta1, hta2⟩ := harc.2 num a ha
        refine ⟨fun σ' H' => ∃ m', m' < entM t.length (W ++ [(kept, at_, num)]) ∧ ∃ (R : List Nat) (W : List Ent) (F : List (List Nat)) (fvs wvs : List V) (v7 v8 v9 v10 v11 v12 v13 : Option V), m' = entM t.length W ∧ σ' = [some (.ref q), some (.int (g : Int)), some (.str (SX.S t)), some (.ref lv), some (.ref fa), some (.ref ra), some (.ref wa), v7, v8, v9, v10, v11, v12, v13, none] ∧
          H' fa = some (.lst fvs) ∧ RowsAt H' (fun a => a ≠ fa ∧ a ≠ ra ∧ a ≠ wa ∧ H2 a = none) fvs F ∧ H' ra = some (.lst (nats R)) ∧ H' wa = some (.lst wvs) ∧ EntsAt H' wvs W ∧ RdI as t (rdg as g t) R W F ∧ R.length ≤ 2000 ∧ Same H2 H', fun σ' H' z => z, ?_⟩
        refine ⟨_, rfl, fa, _, rfl, .inl (SqL.of hfa8), _, rfl, wa, _, rfl, .inl (SqL.of hwa8), _, _, rfl, rfl, _, _, rfl, rfl, _, rfl, ite2 (fun c => ?_) fun _ => ?_⟩
        · have := of_decide_eq_true c
          omega
        refine ⟨_, rfl, .inl ⟨rfl, _, SqL.of hwa8⟩, wa, _, .ref te, rfl, rfl, hwa8, by simp, ?_⟩
        have hdl : (wvs ++ [V.ref te]).dropLast = wvs := by simp
        rw [hdl]
        have tp1 : TupP H8 (upd H8 wa (.lst wvs)) := TupP.upd hwa8
        refine ⟨te, _, rfl, SqT.of (tp1 _ _ hte), rfl, _, _, rfl, _, _, rfl, _, _, rfl, rfl, ?_⟩
        have hfa9 : upd H8 wa (.lst wvs) fa = some (.lst fvs) := by rw [upd_ne nwf.symm]; exact hfa8
        have hra9 : upd H8 wa (.lst wvs) ra = some (.lst (nats R)) := by rw [upd_ne nwr.symm]; exact hra8
        have hwa9 : upd H8 wa (.lst wvs) wa = some (.lst wvs) := upd_same
        have hF9 : RowsAt (upd H8 wa (.lst wvs)) (fun a => a ≠ fa ∧ a ≠ ra ∧ a ≠ wa ∧ H2 a = none) fvs F := hF.to fun b o p h => by rw [upd_ne p.2.2.1]; exact h
        have hW9 := hW'.to tp1
        have s9 := s8.updNew (o := .lst wvs) hw0
        generalize upd H8 wa (.lst wvs) = H9 at *
        clear hte hW' hW hF hfa8 hra8 hwa8 tp1 s8
        -- del row[kept:]
        refine ⟨_, rfl, _, rfl, _, rfl, ra, _, kept, rfl, rfl, hra9, by rw [List.length_map]; exact k1, ?_⟩
        have hra10 : upd H9 ra (.lst ((nats R).take kept)) ra = some (.lst (nats (R.take kept))) := by rw [upd_same, ← List.map_take]
        have hfa10 : upd H9 ra (.lst ((nats R).take kept)) fa = some (.lst fvs) := by rw [upd_ne nrf.symm]; exact hfa9
        have hwa10 : upd H9 ra (.lst ((nats R).take kept)) wa = some (.lst wvs) := by rw [upd_ne nwr]; exact hwa9
        have hF10 : RowsAt (upd H9 ra (.lst ((nats R).take kept))) (fun a => a ≠ fa ∧ a ≠ ra ∧ a ≠ wa ∧ H2 a = none) fvs F := hF9.to fun b o p h => by rw [upd_ne p.2.1]; exact h
        have hW10 := hW9.to (TupP.upd (o := .lst ((nats R).take kept)) hra9)
        have s10 := s9.updNew (o := .lst ((nats R).take kept)) hr0
        generalize upd H9 ra (.lst ((nats R).take kept)) = H10 at *
        clear hfa9 hra9 hwa9 hF9 hW9 s9
        -- row.append(number)
        have htkl : (R.take kept).length = kept := by rw [List.length_take]; omega
        refine ⟨_, rfl, .inl ⟨rfl, _, SqL.of hra10⟩, _, rfl, ra, _, _, rfl, rfl, hra10, lt_size (by rw [List.length_map, htkl]; omega), ?_⟩
        have hra11 : upd H10 ra (.lst (nats (R.take kept) ++ [V.int (num : Int)])) ra = some (.lst (nats (R.take kept ++ [num]))) := by rw [upd_same]; unfold nats; rw [List.map_append]; rfl
        have hfa11 : upd H10 ra (.lst (nats (R.take kept) ++ [V.int (num : Int)])) fa = some (.lst fvs) := by rw [upd_ne nrf.symm]; exact hfa10
        have hwa11 : upd H10 ra (.lst (nats (R.take kept) ++ [V.int (num : Int)])) wa = some (.lst wvs) := by rw [upd_ne nwr]; exact hwa10
        have hF11 : RowsAt (upd H10 ra (.lst (nats (R.take kept) ++ [V.int (num : Int)]))) (fun a => a ≠ fa ∧ a ≠ ra ∧ a ≠ wa ∧ H2 a = none) fvs F := hF10.to fun b o p h => by rw [upd_ne p.2.1]; exact h
        have hW11 := hW10.to (TupP.upd (o := .lst (nats (R.take kept) ++ [V.int (num : Int)])) hra10)
        have s11 := s10.updNew (o := .lst (nats (R.take kept) ++ [V.int (num : Int)])) hr0
        generalize upd H10 ra (.lst (nats (R.take kept) ++ [V.int (num : Int)])) = H11 at *
        clear hfa10 hra10 hwa10 hF10 hW10 s10
        have S11 := (s1.trans s2).trans s11
        have e1 : ((at_ : Int) + ((SX.S a.2.1).length : Nat)) = ((at_ + a.2.1.length : Nat) : Int) := by rw [SX.S_len]; omega
        refine ⟨_, rfl, q, _, dx, _, _, rfl, S11 _ _ hq, T.cl_Loom, T.na_Loom_arcs, lf_arcs _ _, _, rfl, TT, _, _, _, rfl, rfl, SqT.of (S11 _ _ hT), atI_nat hta1, ta, _, rfl, SqT.of (S11 _ _ hta2), rfl, _, _, rfl, _, _, rfl, _, _, rfl, rfl, ?_⟩
        refine ⟨_, rfl, _, rfl, _, rfl, hwd, _, _, rfl, rfl, ?_⟩
        refine ⟨_, rfl, _, rfl, _, rfl, htl, rfl, _, rfl, ?_⟩
        have ev : (V.int ((at_ : Int) + ((SX.S a.2.1).length : Nat)) = V.int ((SX.S t).length : Nat)) ↔ at_ + a.2.1.length = t.length := by
          rw [e1, SX.S_len]
          constructor
          · intro z
            injection z with z
            omega
          · intro z
            congr 1
            omega
        have hRl2 : (R.take kept ++ [num]).length ≤ 2000 := by rw [List.length_append, htkl, List.length_singleton]; omega
        refine ite2 (fun c2 => ?_) (fun c2 => ?_)
        · have hend := ev.mp (of_decide_eq_true c2)
          have I2 := hpop.1 hend
          refine ⟨_, rfl, .inl ⟨rfl, _, SqL.of hfa11⟩, ?_⟩
          refine ⟨_, rfl, ra, _, rfl, .inl (SqL.of hra11), fun l hl => ?_⟩
          have sl : Same H11 (upd H11 l (.lst (nats (R.take kept ++ [num])))) := Same.new _ hl
          have gl : upd H11 l (.lst (nats (R.take kept ++ [num]))) l = some (.lst (nats (R.take kept ++ [num]))) := upd_same
          have nlf : l ≠ fa := hp_ne hfa11 hl
          have nlr : l ≠ ra := hp_ne hra11 hl
          have nlw : l ≠ wa := hp_ne hwa11 hl
          have hl0 : H2 l = none := s11.free hl
          have hfa12 := sl _ _ hfa11
          have hra12 := sl _ _ hra11
          have hwa12 := sl _ _ hwa11
          have hF12 := (hF11.to fun b o _ h => sl _ _ h).snoc gl ⟨nlf, nlr, nlw, hl0⟩
          have hW12 := hW11.to (TupP.same sl)
          have s12 := s11.trans sl
          generalize upd H11 l (.lst (nats (R.take kept ++ [num]))) = H12 at *
          refine ⟨fa, fvs, .ref l, rfl, rfl, hfa12, lt_size (by omega), ?_⟩
          refine ⟨_, ?_, _, W, _, _, wvs, _, _, _, _, _, _, _, rfl, rfl, upd_same, hF12.to fun b o p h => by rw [upd_ne p.1]; exact h, by rw [upd_ne nrf]; exact hra12, by rw [upd_ne nwf]; exact hwa12, hW12.to (TupP.upd hfa12), I2, hRl2, s12.updNew hf0⟩
          rw [entM_append]
          have : 0 < entM t.length [(kept, at_, num)] := by
            show 0 < 201 ^ (t.length - at_) + 0
            have := Nat.pow_pos (n := t.length - at_) (show 0 < 201 by omega)
            omega
          omega
        · have hend : at_ + a.2.1.length ≠ t.length := fun z => c2 (decide_eq_true (ev.mpr z))
          obtain ⟨hlt, I2⟩ := hpop.2 hend
          refine ⟨_, rfl, .inl ⟨rfl, _, SqL.of hwa11⟩, ?_⟩
          obtain ⟨d2, hd2, L2⟩ := hls (at_ + a.2.1.length) (Nat.zero_le _) hlt
          obtain ⟨kvs2, ad2, hdd2, _, _, hso2, _⟩ := L2.same s11
          have hne2 : t.drop (at_ + a.2.1.length) ≠ [] := fun z => by
            have := congrArg List.length z
            rw [List.length_drop, List.length_nil] at this
            omega
          have hgd := (tk_false.mp htk).2
          rw [List.drop_drop] at hgd
          obtain ⟨f1, f2⟩ := hso2 a.2.2 ((gd_liv hne2).mp hgd)
          refine ⟨_, rfl, _, rfl, lv, _, _, _, rfl, rfl, SqL.of (s11 _ _ hlv), by rw [e1]; exact atI_nat (by rw [List.getElem?_map, hd2]; rfl), _, rfl, d2, _, rfl, .inl ⟨kvs2, .inl (a.2.2 : Int), .inl hdd2, rfl, f1.symm⟩, ?_⟩
          change H11 (ad2 a.2.2) = some (.lst (nats (liv as false (t.drop (at_ + a.2.1.length)) a.2.2))) at f2
          have ll200 := livI_len as false (t.drop (at_ + a.2.1.length)) a.2.2 as.length
          have ll : (liv as false (t.drop (at_ + a.2.1.length)) a.2.2).length ≤ as.length := ll200
          generalize liv as false (t.drop (at_ + a.2.1.length)) a.2.2 = lst at *
          refine ⟨_, _, rfl, SqL.of f2, fun p hp => ?_⟩
          have sp : Same H11 (upd H11 p (.lst (nats lst).reverse)) := Same.new _ hp
          have gp : upd H11 p (.lst (nats lst).reverse) p = some (.lst (nats lst.reverse)) := by rw [upd_same]; unfold nats; rw [List.map_reverse]
          have hfa12 := sp _ _ hfa11
          have hra12 := sp _ _ hra11
          have hwa12 := sp _ _ hwa11
          have hF12 := hF11.to (fun b o _ h => sp _ _ h)
          have hW12 := hW11.to (TupP.same sp)
          have s12 := s11.trans sp
          generalize upd H11 p (.lst (nats lst).reverse) = H12 at *
          have elr : (nats lst).reverse = nats lst.reverse := by unfold nats; rw [List.map_reverse]
          refine ⟨p, rfl, ⟨_, SqL.of gp⟩, fun D hD => lc_list (K := K) (a := p) (xs := nats lst.reverse) (fun i H' => ∃ dvs, H' D = some (.lst dvs) ∧ EntsAt H' dvs ((lst.reverse.take i).map fun c => (kept + 1, at_ + a.2.1.length, c)) ∧ Same H12 H') ⟨[], upd_same, EntsAt.nil _, Same.new _ hD⟩ (fun i H' _ ⟨_, _, _, sm⟩ => SqL.of (sm _ _ gp)) ?_ ?_⟩
          · rintro i y H13 hy ⟨dvs, hDl, hde, sm⟩
            rw [List.getElem?_map] at hy
            obtain ⟨cc, hc, rfl⟩ := Option.map_eq_some_iff.mp hy
            refine ⟨rfl, _, rfl, _, _, rfl, rfl, _, rfl, _, rfl, le_size (by simp), fun tp htp => ?_⟩
            have st : Same H13 (upd H13 tp (.tup [V.int ((kept : Int) + 1), V.int ((at_ : Int) + ((SX.S a.2.1).length : Nat)), V.int (cc : Int)])) := Same.new _ htp
            have gt : upd H13 tp (.tup [V.int ((kept : Int) + 1), V.int ((at_ : Int) + ((SX.S a.2.1).length : Nat)), V.int (cc : Int)]) tp = some (entO (kept + 1, at_ + a.2.1.length, cc)) := by rw [upd_same, e1]; rfl
            have hi := (List.getElem?_eq_some_iff.mp hc).1
            rw [List.length_reverse] at hi
            refine ⟨dvs, st _ _ hDl, lt_size (by rw [hde.1, List.length_map, List.length_take]; omega), dvs ++ [.ref tp], upd_same, ?_, (sm.trans st).updNew hD⟩
            rw [← take_snoc hc, List.map_append]
            exact ((hde.to (TupP.same st)).append (EntsAt.one gt)).to (TupP.upd (st _ _ hDl))
          rintro H13 ⟨dvs, hDl, hde, sm⟩
          have elen : (nats lst.reverse).length = lst.reverse.length := List.length_map _
          rw [elen, List.take_length] at hde
          have hfa13 := sm _ _ hfa12
          have hra13 := sm _ _ hra12
          have hwa13 := sm _ _ hwa12
          have hF13 := hF12.to (fun b o _ h => sm _ _ h)
          have hW13 := hW12.to (TupP.same sm)
          have s13 := s12.trans sm
          have dl : dvs.length = lst.length := by rw [hde.1, List.length_map, List.length_reverse]
          have wl2 : wvs.length = W.length := hW13.1
          refine ⟨wa, D, _, _, rfl, rfl, hwa13, hDl, le_size (by rw [List.length_append, List.length_singleton] at few; omega), ?_⟩
          refine ⟨_, entM_less (m := kept) (i := num) (by rw [List.length_reverse]; omega) (show at_ < at_ + a.2.1.length by omega) (Nat.le_of_lt hlt) W, _, _, F, fvs, _, _, _, _, _, _, _, _, rfl, rfl, by rw [upd_ne nwf.symm]; exact hfa13, hF13.to fun b o p h => by rw [upd_ne p.2.2.1]; exact h, by rw [upd_ne nwr.symm]; exact hra13, upd_same, (hW13.append hde).to (TupP.upd hwa13), I2, hRl2, s13.updNew hw0⟩
      · have hW0 : W = [] := by
          have : wvs8 = [] := by
            cases wvs8 with
            | nil => rfl
            | cons a b => exact absurd rfl c
          rw [this] at hW
          exact List.length_eq_zero_iff.mp hW.1.symm
        subst hW0
        have hs := I.sum
        simp only [List.reverse_nil, List.flatMap_nil, List.append_nil] at hs
        rw [hs] at hF
        exact ⟨_, rfl, k H8 fa fvs ((s1.trans s2).trans s8) ((s1.trans s2).free hf0) hfa8 (hF.weak fun a p => ⟨p.1, (s1.trans s2).free p.2.2.2⟩)⟩
end
end J


set_option Elab.async false
set_option linter.all false
set_option maxRecDepth 100000
set_option maxHeartbeats 4000000
namespace J
open PySem L2
abbrev Start := Rest × Nat × Nat × Nat
def startHO (rt : Addr) (s : Start) : HO := .tup [.ref rt, .int (s.2.1 : Nat), .int (s.2.2.1 : Nat), .int (s.2.2.2 : Nat)]
def StartsAt (H : Hp) (us : List V) (ss : List Start) : Prop := us.length = ss.length ∧ ∀ (i : Nat) s, ss[i]? = some s → ∃ t rt, us[i]? = some (.ref t) ∧ H t = some (startHO rt s) ∧ H rt = some (restHO s.1)
theorem StartsAt.to {H H' : Hp} {us : List V} {ss : List Start} (h : StartsAt H us ss) (s : ∀ t xs, H t = some (.tup xs) → H' t = some (.tup xs)) : StartsAt H' us ss := ⟨h.1, fun i e he => by
  obtain ⟨t, rt, h1, h2, h3⟩ := h.2 i e he
  exact ⟨t, rt, h1, s _ _ h2, s _ _ h3⟩⟩
theorem StartsAt.same {H H' : Hp} {us : List V} {ss : List Start} (h : StartsAt H us ss) (s : Same H H') : StartsAt H' us ss := h.to fun _ _ e => s _ _ e
theorem StartsAt.nil (H : Hp) : StartsAt H [] [] := ⟨rfl, fun i s h => by simp at h⟩
theorem StartsAt.snoc {H : Hp} {us : List V} {ss : List Start} (h : StartsAt H us ss) {t rt : Addr} {s : Start} (ht : H t = some (startHO rt s)) (hr : H rt = some (restHO s.1)) : StartsAt H (us ++ [.ref t]) (ss ++ [s]) := by
  refine ⟨by rw [List.length_append, List.length_append, h.1]; rfl, fun i f hf => ?_⟩
  by_cases c : i < ss.length
  · rw [List.getElem?_append_left c] at hf
    obtain ⟨u, ru, h1, h2, h3⟩ := h.2 i f hf
    exact ⟨u, ru, by rw [List.getElem?_append_left (by rw [h.1]; exact c)]; exact h1, h2, h3⟩
  · have hi : i = ss.length := by
      have := (List.getElem?_eq_some_iff.mp hf).1
      rw [List.length_append, List.length_singleton] at this
      omega
    subst hi
    rw [List.getElem?_append_right (Nat.le_refl _)] at hf
    simp at hf
    subst hf
    exact ⟨t, rt, by rw [List.getElem?_append_right (by rw [h.1]; exact Nat.le_refl _), h.1]; simp, ht, hr⟩
/-- what two arcs that leave g give -/
def cell (g : Nat) (e f : Nat × List Nat × Nat) : List Start := if e.1 ≠ f.1 ∧ pre f.2.1 e.2.1 = true then [((e.2.2, f.2.2, f.2.1.drop e.2.1.length), g, e.1, f.1)] else []
def startsOf (as : List Arc) (g : Nat) : List Start := (lvs g 0 as).flatMap fun e => (lvs g 0 as).flatMap (cell g e)
def startsL (as : List Arc) (ms : List Nat) : List Start := ms.flatMap (startsOf as)
theorem cell_one (g : Nat) (e f : Nat × List Nat × Nat) : (cell g e f).length ≤ 1 := by
  unfold cell
  split <;> simp
theorem flat_lenk {α β : Type} (f : α → List β) (k : Nat) (h : ∀ x, (f x).length ≤ k) : ∀ l : List α, (l.flatMap f).length ≤ k * l.length
  | [] => Nat.zero_le _
  | a :: r => by
    have h1 := flat_lenk f k h r
    have h2 := h a
    rw [List.flatMap_cons, List.length_append, List.length_cons, Nat.mul_add]
    omega
def spStarts (C : Addr) : Sp := fun vs H Q _ => ∃ (q : Addr) (sg : List Nat) (us : List V) (as : List Arc), vs = [.ref q] ∧ LoomAt C H q sg us as ∧
  ∀ (H' : Hp) (p : Addr) (os : List V) (ms : List Nat), Same H H' → H p = none → H' p = some (.lst os) → ms.Pairwise (· < ·) → (∀ x, x ∈ ms ↔ Reach as x) → StartsAt H' os (startsL as ms) → Q (.ref p) H'
section
variable {P : Program} {w : World} {K : PySem.W.Frag} {mg : Str → Option Value} {base : Heap}
theorem ok_starts (T : Tx K mg) : FnOk P w K mg base CX0 2 T.f_starts T.fd_starts P_starts (spStarts T.C_Loom) := by
  have G_arcs_by_state : FnOk P w K mg base CX0 1 T.f_arcs_by_state T.fd_arcs_by_state P_arcs_by_state (spArcsBy T.C_Loom) := ok_arcs_by_state T
  have G_met : FnOk P w K mg base CX0 1 T.f_met T.fd_met P_met (spPMet T.C_Loom) := ok_met T
  refine T.F_starts.ok sc_starts (fun vs H Q E h => ?_) (fun cdv A outer s H vs Q E hr h => ?_)
  · obtain ⟨q, sg, us, as, rfl, _⟩ := h
    rfl
  · obtain ⟨q, sg, us, as, rfl, hL, k⟩ := h
    refine ⟨_, (pss_cons (ps_set (i := 1) sc_starts.nd rfl (Or.inl rfl) (pe_call G_arcs_by_state (hr.mono (by decide)) rfl T.m_arcs_by_state T.F_arcs_by_state.kp T.b_arcs_by_state .nil pass0 (pa_cons (pv 0) pa_nil)))
        (pss_cons (ps_set (i := 2) sc_starts.nd rfl (Or.inl rfl) (pe_lst pa_nil))
        (pss_cons (ps_for PassesOwn.never rfl (pi_list (pe_call G_met (hr.mono (by decide)) rfl T.m_met T.F_met.kp T.b_met .nil pass0 (pa_cons (pv 0) pa_nil))) (pg_name (i := 3) sc_starts.nd rfl (Or.inl rfl)) (pss_cons (ps_set (i := 4) sc_starts.nd rfl (Or.inl rfl) (pe_dget2 (hu_of hr) (pv 1) (pv 3) (pe_lst pa_nil) ⟨rfl, rfl, rfl, rfl⟩))
        (pss_one (ps_for PassesOwn.never rfl (pi_list (pv 4)) (pg_tup rfl (pgs_cons (pg_name (i := 5) sc_starts.nd rfl (Or.inl rfl)) (pgs_cons (pg_name (i := 6) sc_starts.nd rfl (Or.inl rfl)) (pgs_cons (pg_name (i := 7) sc_starts.nd rfl (Or.inl rfl)) pgs_nil)))) (pss_one (ps_for PassesOwn.never rfl (pi_list (pv 4)) (pg_tup rfl (pgs_cons (pg_name (i := 8) sc_starts.nd rfl (Or.inl rfl)) (pgs_cons (pg_name (i := 9) sc_starts.nd rfl (Or.inl rfl)) (pgs_cons (pg_name (i := 10) sc_starts.nd rfl (Or.inl rfl)) pgs_nil)))) (pss_one (ps_if (PW.pt (pw_and (pt_cmpR op_ne (pv 5) (pv 8) (nomark _)) (pw_and1 (pt_val (pe_bm PySem.F.plainAttrs_str PySem.F.slot_str_startswith PySem.F.type_str_startswith mt_startswith (pv 9) (pa_cons (pv 6) pa_nil)))))) (pss_one (ps_expr (pe_bm PySem.F.plainAttrs_list PySem.F.slot_list_append PySem.F.type_list_append mt_append (pv 2) (pa_cons (pe_tup (pa_cons (pe_tup (pa_cons (pv 7) (pa_cons (pv 10) (pa_cons (pe_slice sl_str (pv 9) (po_some (pe_callB call_len_str rfl T.n_len (by decide +kernel) (pa_cons (pv 6) pa_nil))) po_none) pa_nil)))) (pa_cons (pv 3) (pa_cons (pv 5) (pa_cons (pv 8) pa_nil))))) pa_nil)))) pss_nil))))))))
        (pss_one (ps_ret (pv 2)))))), ?_⟩
    obtain ⟨_, _, _, _, _, hok, _⟩ := id hL
    have oka := hok.all
    have hal := hok.2.1
    have haw : ∀ a ∈ as, a.2.1.length ≤ 12 := fun a ha => (oka.2 a ha).2.2.1
    refine ⟨_, rfl, q, sg, us, as, rfl, hL, fun H1 d s1 tab1 => ?_⟩
    refine ⟨le_size (by simp), fun F hF => ?_⟩
    have s2 : Same H1 (upd H1 F (.lst [])) := Same.new _ hF
    have g2 : upd H1 F (.lst []) F = some (.lst []) := upd_same
    have hF0 : H F = none := s1.free hF
    obtain ⟨kvs, at_, h0, hd1, hkl, hnone, hsome, hinj⟩ := tab1
    have nFd : F ≠ d := hp_ne hd1 hF
    have farF : ∀ g, lvs g 0 as ≠ [] → at_ g ≠ F := fun g hg z => by
      obtain ⟨_, _, us2, e3, _⟩ := hsome g hg
      rw [z, hF] at e3
      cases e3
    generalize upd H1 F (.lst []) = H2 at *
    have s02 := s1.trans s2
    refine ⟨_, rfl, q, sg, us, as, rfl, hL.same s02, fun H3 mp ms s3 hm0 hm hms hreach => ?_⟩
    have s03 := s02.trans s3
    have hml : ms.length ≤ 64 := nodup_le 64 ms (hms.imp fun h => Nat.ne_of_lt h) fun x hx => by have := ((hreach x).mp hx).le oka; omega
    have nmF : mp ≠ F := fun z => by rw [z, g2] at hm0; cases hm0
    refine ⟨mp, rfl, ⟨_, SqL.of hm⟩, for_list (K := K) (a := mp) (xs := nats ms) (fun i σ H' => ∃ v3 v4 v5 v6 v7 v8 v9 v10 : Option V, σ = [some (.ref q), some (.ref d), some (.ref F), v3, v4, v5, v6, v7, v8, v9, v10] ∧
      (∃ os, H' F = some (.lst os) ∧ StartsAt H' os ((ms.take i).flatMap (startsOf as))) ∧ Same H H' ∧ Ex F H3 H') ?_ ?_ ?_ ?_⟩
    · exact ⟨none, none, none, none, none, none, none, none, rfl, ⟨[], s3 _ _ g2, StartsAt.nil _⟩, s03, Ex.refl _ _⟩
    · rintro i σ H' _ ⟨_, _, _, _, _, _, _, _, _, _, _, x⟩
      exact SqL.of (x _ _ nmF hm)
    · rintro i y σ H4 hy ⟨v3, v4, v5, v6, v7, v8, v9, v10, rfl, ⟨os, hos, hst⟩, s4, x4⟩
      rw [List.getElem?_map] at hy
      obtain ⟨g, hg, rfl⟩ := Option.map_eq_some_iff.mp hy
      rw [flat_take _ hg]
      have hd4 := x4 _ _ nFd.symm (s3 _ _ (s2 _ _ hd1))
      refine ⟨_, rfl, d, rfl, .inl ⟨kvs, .inl hd4⟩, _, rfl, le_size (by simp), fun l' hl' => ?_⟩
      have s5 : Same H4 (upd H4 l' (.lst [])) := Same.new _ hl'
      have g5 : upd H4 l' (.lst []) l' = some (.lst []) := upd_same
      have nl'F := hp_ne hos hl'
      generalize upd H4 l' (.lst []) = H5 at *
      have hsrc : ∃ (ll : Addr) (us : List V), (valV kvs (.inl (g : Int))).getD (.ref l') = .ref ll ∧ ll ≠ F ∧ H5 ll = some (.lst us) ∧ Lv H5 us (lvs g 0 as) := by
        by_cases z : lvs g 0 as = []
        · rw [hnone _ z, z]
          exact ⟨l', [], rfl, nl'F, g5, rfl, fun i e h => by simp at h⟩
        · obtain ⟨e1, e2, us, e3, e4⟩ := hsome _ z
          rw [e1]
          have e5 := s3 _ _ (s2 _ _ e3)
          refine ⟨at_ g, us, rfl, farF g z, s5 _ _ (x4 _ _ (farF g z) e5), (((e4.same s2).same s3).to fun t xs h => x4 _ _ (fun z => ?_) h).same s5⟩
          rw [z, s3 _ _ g2] at h
          cases h
      obtain ⟨ll, lus, ell, nll, hll, hlv⟩ := hsrc
      refine ⟨_, .inl ⟨kvs, .inl (g : Int), .inl (s5 _ _ hd4), rfl, rfl⟩, ?_⟩
      rw [ell]
      have hlen : (lvs g 0 as).length ≤ 200 := Nat.le_trans (lvs_len _ _ _) hal
      have hwl : ∀ e ∈ lvs g 0 as, e.2.1.length ≤ 12 := lvs_all _ haw _
      have s45 := s4.trans s5
      have x45 := x4.trans (Same.ex s5)
      have hF5 := s5 _ _ hos
      have hst5 := hst.same s5
      have bound1 : ∀ (gg : Nat) (e : Nat × List Nat × Nat) (n : Nat), (((lvs gg 0 as).take n).flatMap (cell gg e)).length ≤ 200 := fun gg e n => by
        have h1 := flat_len1 (cell gg e) (cell_one gg e) ((lvs gg 0 as).take n)
        have h2 := lvs_len gg as 0
        rw [List.length_take] at h1
        omega
      have bound2 : ∀ (gg n : Nat), (((lvs gg 0 as).take n).flatMap fun e => (lvs gg 0 as).flatMap (cell gg e)).length ≤ 200 * 200 := fun gg n => by
        have h1 := flat_lenk (fun e => (lvs gg 0 as).flatMap (cell gg e)) 200 (fun e => by
          have := bound1 gg e (lvs gg 0 as).length
          rwa [List.take_length] at this) ((lvs gg 0 as).take n)
        have h2 := lvs_len gg as 0
        rw [List.length_take] at h1
        have h3 : min n (lvs gg 0 as).length ≤ 200 := by omega
        exact Nat.le_trans h1 (Nat.mul_le_mul_left _ h3)
      have bound3 : ((ms.take i).flatMap (startsOf as)).length ≤ 40000 * 64 := by
        have h1 := flat_lenk (startsOf as) 40000 (fun gg => by
          have := bound2 gg (lvs gg 0 as).length
          rw [List.take_length] at this
          exact this) (ms.take i)
        rw [List.length_take] at h1
        have h3 : min i ms.length ≤ 64 := by omega
        exact Nat.le_trans h1 (Nat.mul_le_mul_left _ h3)
      refine ⟨_, rfl, ll, rfl, ⟨_, SqL.of hll⟩, for_list (K := K) (a := ll) (xs := lus) (fun j σ H' => ∃ v5 v6 v7 v8 v9 v10 : Option V, σ = [some (.ref q), some (.ref d), some (.ref F), some (.int (g : Nat)), some (.ref ll), v5, v6, v7, v8, v9, v10] ∧
        (∃ os, H' F = some (.lst os) ∧ StartsAt H' os ((ms.take i).flatMap (startsOf as) ++ ((lvs g 0 as).take j).flatMap fun e => (lvs g 0 as).flatMap (cell g e))) ∧ Same H H' ∧ Ex F H5 H') ?_ ?_ ?_ ?_⟩
      · exact ⟨_, _, _, _, _, _, rfl, ⟨os, hF5, by rw [List.take_zero, List.flatMap_nil, List.append_nil]; exact hst5⟩, s45, Ex.refl _ _⟩
      · rintro j σ H' _ ⟨_, _, _, _, _, _, _, _, _, x⟩
        exact SqL.of (x _ _ nll hll)
      · rintro j y σ H6 hy ⟨v5, v6, v7, v8, v9, v10, rfl, ⟨os6, hos6, hst6⟩, s6, x6⟩
        have hjl : j < (lvs g 0 as).length := by rw [← hlv.1]; exact (List.getElem?_eq_some_iff.mp hy).1
        obtain ⟨e, he⟩ : ∃ e, (lvs g 0 as)[j]? = some e := ⟨_, List.getElem?_eq_getElem hjl⟩
        obtain ⟨t, hut, htt⟩ := hlv.2 j e he
        rw [hut] at hy
        cases hy
        have htF : ∀ {t : Addr} {xs : List V}, H5 t = some (.tup xs) → t ≠ F := fun h z => by rw [z, hF5] at h; cases h
        have e12 := hwl e (List.mem_of_getElem? he)
        rw [flat_take _ he]
        refine ⟨t, _, rfl, SqT.of (x6 _ _ (htF htt) htt), rfl, _, _, rfl, _, _, rfl, _, _, rfl, rfl, ?_⟩
        refine ⟨_, rfl, ll, rfl, ⟨_, SqL.of (x6 _ _ nll hll)⟩, for_list (K := K) (a := ll) (xs := lus) (fun n σ H' => ∃ v8 v9 v10 : Option V, σ = [some (.ref q), some (.ref d), some (.ref F), some (.int (g : Nat)), some (.ref ll), some (.int (e.1 : Nat)), some (.str (SX.S e.2.1)), some (.int (e.2.2 : Nat)), v8, v9, v10] ∧
          (∃ os, H' F = some (.lst os) ∧ StartsAt H' os ((ms.take i).flatMap (startsOf as) ++ (((lvs g 0 as).take j).flatMap fun e => (lvs g 0 as).flatMap (cell g e)) ++ ((lvs g 0 as).take n).flatMap (cell g e))) ∧ Same H H' ∧ Ex F H5 H') ?_ ?_ ?_ ?_⟩
        · exact ⟨_, _, _, rfl, ⟨os6, hos6, by rw [List.take_zero, List.flatMap_nil, List.append_nil]; exact hst6⟩, s6, x6⟩
        · rintro n σ H' _ ⟨_, _, _, _, _, _, x⟩
          exact SqL.of (x _ _ nll hll)
        · rintro n y σ H7 hy ⟨v8, v9, v10, rfl, ⟨os7, hos7, hst7⟩, s7, x7⟩
          have hnl : n < (lvs g 0 as).length := by rw [← hlv.1]; exact (List.getElem?_eq_some_iff.mp hy).1
          obtain ⟨f, hf⟩ : ∃ f, (lvs g 0 as)[n]? = some f := ⟨_, List.getElem?_eq_getElem hnl⟩
          obtain ⟨t', hut', htt'⟩ := hlv.2 n f hf
          rw [hut'] at hy
          cases hy
          have f12 := hwl f (List.mem_of_getElem? hf)
          have hosl : os7.length ≤ 3000000 := by
            have h1 := bound1 g e n
            have h2 := bound2 g j
            rw [hst7.1, List.length_append, List.length_append]
            omega
          rw [flat_take _ hf, ← List.append_assoc]
          have skip : cell g e f = [] → ∃ w8 w9 w10 : Option V, [some (V.ref q), some (.ref d), some (.ref F), some (.int (g : Nat)), some (.ref ll), some (.int (e.1 : Nat)), some (.str (SX.S e.2.1)), some (.int (e.2.2 : Nat)), some (.int (f.1 : Nat)), some (.str (SX.S f.2.1)), some (.int (f.2.2 : Nat))] = [some (V.ref q), some (.ref d), some (.ref F), some (.int (g : Nat)), some (.ref ll), some (.int (e.1 : Nat)), some (.str (SX.S e.2.1)), some (.int (e.2.2 : Nat)), w8, w9, w10] ∧
              (∃ os, H7 F = some (.lst os) ∧ StartsAt H7 os ((ms.take i).flatMap (startsOf as) ++ (((lvs g 0 as).take j).flatMap fun e => (lvs g 0 as).flatMap (cell g e)) ++ ((lvs g 0 as).take n).flatMap (cell g e) ++ cell g e f)) ∧ Same H H7 ∧ Ex F H5 H7 := fun z => by
            rw [z, List.append_nil]
            exact ⟨_, _, _, rfl, ⟨os7, hos7, hst7⟩, s7, x7⟩
          refine ⟨t', _, rfl, SqT.of (x7 _ _ (htF htt') htt'), rfl, _, _, rfl, _, _, rfl, _, _, rfl, rfl, ?_⟩
          refine ⟨_, rfl, _, rfl, rfl, _, rfl, ?_⟩
          refine ite2 (fun c => ?_) (fun c => skip ?_)
          · have cne : e.1 ≠ f.1 := fun z => by rw [z] at c; simp at c
            refine ⟨_, rfl, rfl, _, rfl, _, _, rfl, rfl, _, rfl, ?_⟩
            rw [starts0_S]
            refine ite2 (fun c2 => ?_) (fun c2 => skip ?_)
            · refine ⟨_, rfl, .inl ⟨rfl, _, SqL.of hos7⟩, _, rfl, _, rfl, _, rfl, _, rfl, _, rfl, le_size (by rw [SX.S_len]; omega), _, rfl, _, rfl, le_size (by rw [SX.S_len]; omega), ?_⟩
              rw [SX.S_len, cutS_from]
              refine ⟨le_size (by simp), fun rt hrt => ?_⟩
              refine ⟨_, rfl, _, rfl, _, rfl, le_size (by simp), fun t2 ht2 => ?_⟩
              have ec : cell g e f = [((e.2.2, f.2.2, f.2.1.drop e.2.1.length), g, e.1, f.1)] := by unfold cell; rw [if_pos ⟨cne, c2⟩]
              rw [ec]
              have a1 : Same H7 (upd H7 rt (restHO (e.2.2, f.2.2, f.2.1.drop e.2.1.length))) := Same.new _ hrt
              have b1 : upd H7 rt (restHO (e.2.2, f.2.2, f.2.1.drop e.2.1.length)) rt = some (restHO (e.2.2, f.2.2, f.2.1.drop e.2.1.length)) := upd_same
              change upd H7 rt (restHO (e.2.2, f.2.2, f.2.1.drop e.2.1.length)) t2 = none at ht2
              have a2 : Same (upd H7 rt (restHO (e.2.2, f.2.2, f.2.1.drop e.2.1.length))) (upd (upd H7 rt (restHO (e.2.2, f.2.2, f.2.1.drop e.2.1.length))) t2 (startHO rt ((e.2.2, f.2.2, f.2.1.drop e.2.1.length), g, e.1, f.1))) := Same.new _ ht2
              have b2 : upd (upd H7 rt (restHO (e.2.2, f.2.2, f.2.1.drop e.2.1.length))) t2 (startHO rt ((e.2.2, f.2.2, f.2.1.drop e.2.1.length), g, e.1, f.1)) t2 = some (startHO rt ((e.2.2, f.2.2, f.2.1.drop e.2.1.length), g, e.1, f.1)) := upd_same
              have fin : ∀ H9 : Hp, Same H7 H9 → H9 rt = some (restHO (e.2.2, f.2.2, f.2.1.drop e.2.1.length)) → H9 t2 = some (startHO rt ((e.2.2, f.2.2, f.2.1.drop e.2.1.length), g, e.1, f.1)) →
                  H9 F = some (.lst os7) ∧ (∃ os, upd H9 F (.lst (os7 ++ [.ref t2])) F = some (.lst os) ∧ StartsAt (upd H9 F (.lst (os7 ++ [.ref t2]))) os ((ms.take i).flatMap (startsOf as) ++ (((lvs g 0 as).take j).flatMap fun e => (lvs g 0 as).flatMap (cell g e)) ++ ((lvs g 0 as).take n).flatMap (cell g e) ++ [((e.2.2, f.2.2, f.2.1.drop e.2.1.length), g, e.1, f.1)])) ∧ Same H (upd H9 F (.lst (os7 ++ [.ref t2]))) ∧ Ex F H5 (upd H9 F (.lst (os7 ++ [.ref t2]))) := fun H9 a3 d1 d2 => by
                have hos9 := a3 _ _ hos7
                have tk : ∀ t xs, H9 t = some (.tup xs) → upd H9 F (.lst (os7 ++ [.ref t2])) t = some (.tup xs) := fun t xs h => by
                  rw [upd_ne (fun z => by rw [z, hos9] at h; cases h)]
                  exact h
                exact ⟨hos9, ⟨_, upd_same, ((hst7.same a3).to tk).snoc (tk _ _ d2) (tk _ _ d1)⟩, (s7.trans a3).updNew hF0, (x7.trans (Same.ex a3)).trans (Ex.upd _)⟩
              obtain ⟨f1, f2, f3, f4⟩ := fin _ (a1.trans a2) (a2 _ _ b1) b2
              exact ⟨F, os7, _, rfl, rfl, f1, Nat.lt_of_le_of_lt hosl (by decide), _, _, _, rfl, f2, f3, f4⟩
            · unfold cell
              rw [if_neg (fun z => c2 z.2)]
          · have ce : e.1 = f.1 := by
              by_cases z : e.1 = f.1
              · exact z
              · exact absurd (by
                  have n : ¬ ((e.1 : Int) = (f.1 : Int)) := fun y => z (by omega)
                  simp [n]) c
            unfold cell
            rw [if_neg (fun z => z.1 ce)]
        · rintro σ H7 ⟨v8, v9, v10, rfl, ⟨os7, hos7, hst7⟩, s7, x7⟩
          have el : (lvs g 0 as).take lus.length = lvs g 0 as := by rw [hlv.1, List.take_length]
          rw [el, List.append_assoc] at hst7
          exact ⟨_, _, _, _, _, _, rfl, ⟨os7, hos7, hst7⟩, s7, x7⟩
      · rintro σ H6 ⟨v5, v6, v7, v8, v9, v10, rfl, ⟨os6, hos6, hst6⟩, s6, x6⟩
        have el : (lvs g 0 as).take lus.length = lvs g 0 as := by rw [hlv.1, List.take_length]
        rw [el] at hst6
        exact ⟨_, _, _, _, _, _, _, _, rfl, ⟨os6, hos6, hst6⟩, s6, x45.trans x6⟩
    · rintro σ H' ⟨v3, v4, v5, v6, v7, v8, v9, v10, rfl, ⟨os, hos, hst⟩, sm, _⟩
      rw [List.length_map, List.take_length] at hst
      exact ⟨_, rfl, k H' F os ms sm hF0 hos hms hreach hst⟩
end
end J


set_option Elab.async false
set_option linter.all false
set_option maxRecDepth 100000
set_option maxHeartbeats 4000000
namespace J
open PySem L2
/-- a rest as a key -/
def rk (r : Rest) : List Key := [.inl (r.1 : Int), .inl (r.2.1 : Int), .inr (SX.S r.2.2)]
theorem rk_HO (r : Rest) : restHO r = .tup ((rk r).map kV) := rfl
theorem strS_inj {u v : List Nat} (h : SX.S u = SX.S v) : u = v := by
  unfold SX.S at h
  injection h with h
  simpa using h
theorem rk_inj {r r' : Rest} (h : rk r = rk r') : r = r' := by
  obtain ⟨a, b, c⟩ := r
  obtain ⟨a', b', c'⟩ := r'
  unfold rk at h
  injection h with h1 h
  injection h with h2 h
  injection h with h3 _
  injection h1 with h1
  injection h2 with h2
  injection h3 with h3
  have h1 : (a : Int) = a' := h1
  have h2 : (b : Int) = b' := h2
  have h3 : SX.S c = SX.S c' := h3
  have e1 : a = a' := by omega
  have e2 : b = b' := by omega
  rw [e1, e2, strS_inj h3]
/-- the rests that come up -/
inductive Rch (as : List Arc) (ms : List Nat) : Rest → Prop
  | start {s : Start} : s ∈ startsL as ms → Rch as ms s.1
  | step {r : Rest} {s : Step} : Rch as ms r → s ∈ stepsL as r → Rch as ms s.1
theorem nodup_sub {α : Type} [DecidableEq α] : ∀ (l m : List α), l.Nodup → (∀ x ∈ l, x ∈ m) → l.length ≤ m.length
  | [], m, _, _ => Nat.zero_le _
  | a :: r, m, hn, hs => by
    rw [List.nodup_cons] at hn
    have ha : a ∈ m := hs a (by simp)
    have ih := nodup_sub r (m.erase a) hn.2 fun x hx => (List.mem_erase_of_ne (fun z => hn.1 (by rw [← z]; exact hx))).mpr (hs x (List.mem_cons_of_mem _ hx))
    rw [List.length_erase_of_mem ha] at ih
    have : 0 < m.length := List.length_pos_of_mem ha
    rw [List.length_cons]
    omega
/-- all rests that may come up -/
def univ (as : List Arc) : List Rest := (List.range 64).flatMap fun b => (List.range 64).flatMap fun a => as.flatMap fun c => (List.range 13).map fun k => (b, a, c.2.1.drop k)
theorem univ_len (as : List Arc) (h : as.length ≤ 200) : (univ as).length ≤ 10649600 := by
  have h1 : ∀ (b a : Nat), (as.flatMap fun c => (List.range 13).map fun k => ((b, a, c.2.1.drop k) : Rest)).length ≤ 2600 := fun b a => by
    have q := flat_lenk (fun c : Arc => (List.range 13).map fun k => ((b, a, c.2.1.drop k) : Rest)) 13 (fun c => by simp) as
    omega
  have h2 : ∀ b : Nat, ((List.range 64).flatMap fun a => as.flatMap fun c => (List.range 13).map fun k => ((b, a, c.2.1.drop k) : Rest)).length ≤ 166400 := fun b => by
    have q := flat_lenk (fun a => as.flatMap fun c => (List.range 13).map fun k => ((b, a, c.2.1.drop k) : Rest)) 2600 (h1 b) (List.range 64)
    rw [List.length_range] at q
    exact q
  have q := flat_lenk (fun b => (List.range 64).flatMap fun a => as.flatMap fun c => (List.range 13).map fun k => ((b, a, c.2.1.drop k) : Rest)) 166400 h2 (List.range 64)
  rw [List.length_range] at q
  exact q
theorem univ_mem {as : List Arc} {b a k : Nat} {c : Arc} (hb : b ≤ 63) (ha : a ≤ 63) (hc : c ∈ as) (hk : k ≤ 12) : (b, a, c.2.1.drop k) ∈ univ as := by
  unfold univ
  refine List.mem_flatMap.mpr ⟨b, List.mem_range.mpr (by omega), List.mem_flatMap.mpr ⟨a, List.mem_range.mpr (by omega), List.mem_flatMap.mpr ⟨c, hc, List.mem_map.mpr ⟨k, List.mem_range.mpr (by omega), rfl⟩⟩⟩⟩
/-- an entry of the table is an arc -/
theorem lvs_arc {g : Nat} : ∀ {as : List Arc} {n : Nat} {e : Nat × List Nat × Nat}, e ∈ lvs g n as → ∃ c ∈ as, c.2.1 = e.2.1 ∧ c.2.2 = e.2.2
  | [], _, _, h => by cases h
  | a :: r, n, e, h => by
    have h' : e ∈ (if a.1 = g then (n, a.2.1, a.2.2) :: lvs g (n + 1) r else lvs g (n + 1) r) := h
    by_cases c : a.1 = g
    · rw [if_pos c] at h'
      rcases List.mem_cons.mp h' with z | z
      · exact ⟨a, by simp, by rw [z], by rw [z]⟩
      · obtain ⟨b, hb, q⟩ := lvs_arc z
        exact ⟨b, List.mem_cons_of_mem _ hb, q⟩
    · rw [if_neg c] at h'
      obtain ⟨b, hb, q⟩ := lvs_arc h'
      exact ⟨b, List.mem_cons_of_mem _ hb, q⟩
/-- a rest of the universe, told by its parts -/
def InU (as : List Arc) (r : Rest) : Prop := r.1 ≤ 63 ∧ r.2.1 ≤ 63 ∧ ∃ c ∈ as, ∃ k, k ≤ 12 ∧ r.2.2 = c.2.1.drop k
theorem InU.mem {as : List Arc} {r : Rest} (h : InU as r) : r ∈ univ as := by
  obtain ⟨h1, h2, c, hc, k, hk, e⟩ := h
  obtain ⟨b, a, l⟩ := r
  rw [show l = c.2.1.drop k from e]
  exact univ_mem h1 h2 hc hk
theorem rch_in {as : List Arc} {ms : List Nat} (h : OkAll as) {r : Rest} (q : Rch as ms r) : InU as r := by
  induction q with
  | @start s hs =>
    obtain ⟨g, _, hg⟩ := List.mem_flatMap.mp hs
    obtain ⟨e, he, h1⟩ := List.mem_flatMap.mp hg
    obtain ⟨f, hf, h2⟩ := List.mem_flatMap.mp h1
    unfold cell at h2
    split at h2
    · rw [List.mem_singleton] at h2
      obtain ⟨c1, hc1, _, g1⟩ := lvs_arc he
      obtain ⟨c2, hc2, w2, g2⟩ := lvs_arc hf
      obtain ⟨c3, hc3, w3, _⟩ := lvs_arc he
      subst h2
      refine ⟨by rw [← g1]; exact (h.2 _ hc1).2.2.2, by rw [← g2]; exact (h.2 _ hc2).2.2.2, c2, hc2, e.2.1.length, by rw [← w3]; exact (h.2 _ hc3).2.2.1, by rw [w2]⟩
    · cases h2
  | @step r s _ hs ih =>
    obtain ⟨e, he, h1⟩ := List.mem_flatMap.mp hs
    obtain ⟨c, hc, w1, g1⟩ := lvs_arc he
    obtain ⟨i1, i2, b, hb, k, hk, ek⟩ := ih
    have hbl := (h.2 _ hb).2.2.1
    have hwl := (h.2 _ hc).2.2.1
    unfold stepOf at h1
    split at h1
    · rw [List.mem_singleton] at h1
      subst h1
      refine ⟨by rw [← g1]; exact (h.2 _ hc).2.2.2, i2, b, hb, min 12 (k + e.2.1.length), Nat.min_le_left _ _, ?_⟩
      show r.2.2.drop e.2.1.length = b.2.1.drop _
      rw [ek, List.drop_drop]
      by_cases z : k + e.2.1.length ≤ 12
      · rw [Nat.min_eq_right z]
      · rw [Nat.min_eq_left (by omega), List.drop_eq_nil_of_le (by omega), List.drop_eq_nil_of_le (by omega)]
    · split at h1
      · rw [List.mem_singleton] at h1
        subst h1
        refine ⟨i2, by rw [← g1]; exact (h.2 _ hc).2.2.2, c, hc, min 12 r.2.2.length, Nat.min_le_left _ _, ?_⟩
        show e.2.1.drop r.2.2.length = c.2.1.drop _
        rw [w1]
        rw [w1] at hwl
        by_cases z : r.2.2.length ≤ 12
        · rw [Nat.min_eq_right z]
        · rw [Nat.min_eq_left (by omega), List.drop_eq_nil_of_le (by omega), List.drop_eq_nil_of_le (by omega)]
      · cases h1
end J


set_option Elab.async false
set_option linter.all false
set_option maxRecDepth 100000
set_option maxHeartbeats 4000000
namespace J
open PySem L2
theorem putK_new {κ : Type} [DecidableEq κ] {kvs : List (κ × V)} {k : κ} {y : V} (h : valV kvs k = none) : putK kvs k y = kvs ++ [(k, y)] := by
  have e := valV_any k kvs
  rw [h] at e
  unfold putK
  rw [e]
  rfl
/-- all but three objects stay -/
def Ex3 (a b c : Addr) (H H' : Hp) : Prop := ∀ x o, x ≠ a → x ≠ b → x ≠ c → H x = some o → H' x = some o
theorem Ex3.refl (a b c : Addr) (H : Hp) : Ex3 a b c H H := fun _ _ _ _ _ h => h
theorem Ex3.same {a b c : Addr} {H H' : Hp} (s : Same H H') : Ex3 a b c H H' := fun x o _ _ _ h => s x o h
theorem Ex3.trans {a b c : Addr} {H H1 H2 : Hp} (x : Ex3 a b c H H1) (y : Ex3 a b c H1 H2) : Ex3 a b c H H2 := fun z o n1 n2 n3 h => y z o n1 n2 n3 (x z o n1 n2 n3 h)
/-- the keys of O in their order are the rests rs -/
structure KeysAt (H : Hp) (O : Addr) (rs : List Rest) : Prop where
  kv : ∃ ko : List (List Key × V), H O = some (.dT ko) ∧ ko.map (·.1) = rs.map rk
theorem keys_none {ko : List (List Key × V)} {rs : List Rest} (h : ko.map (·.1) = rs.map rk) {r : Rest} (e : valV ko (rk r) = none) : r ∉ rs := fun z => valV_not e (by rw [h]; exact List.mem_map.mpr ⟨r, z, rfl⟩)
theorem keys_some {ko : List (List Key × V)} {rs : List Rest} (h : ko.map (·.1) = rs.map rk) {r : Rest} {v : V} (e : valV ko (rk r) = some v) : r ∈ rs := by
  have q := valV_in e
  rw [h] at q
  obtain ⟨r', h1, h2⟩ := List.mem_map.mp q
  rw [← rk_inj h2]
  exact h1
theorem keys_len {ko : List (List Key × V)} {rs : List Rest} (h : ko.map (·.1) = rs.map rk) : ko.length = rs.length := by
  have := congrArg List.length h
  simpa using this
theorem keys_bs : ∀ {ko : List (List Key × V)} {rs : List Rest} {bs : List Addr} {H H' : Hp}, ko.map (·.1) = rs.map rk → IsKeys H ko bs → Same H H' → ∀ (i : Nat) r, rs[i]? = some r → ∃ b, bs[i]? = some b ∧ H' b = some (restHO r)
  | _, [], _, _, _, _, _, _, i, r, h => by simp at h
  | [], r0 :: rs, _, _, _, e, _, _, _, _, _ => by simp at e
  | p :: ko, r0 :: rs, _, H, H', e, .cons hb hk, s, i, r, h => by
    rw [List.map_cons, List.map_cons] at e
    injection e with e1 e2
    cases i with
    | zero =>
      simp at h
      subst h
      refine ⟨_, rfl, s _ _ ?_⟩
      rw [rk_HO, ← e1]
      exact hb
    | succ i => exact keys_bs e2 hk s i r (by simpa using h)
def Cov (as : List Arc) (ms : List Nat) (rs : List Rest) : Prop := rs.Nodup ∧ ∀ r ∈ rs, Rch as ms r
theorem Cov.len {as : List Arc} {ms : List Nat} {rs : List Rest} (h : Cov as ms rs) (oka : OkAll as) (hl : as.length ≤ 200) : rs.length ≤ 10649600 :=
  Nat.le_trans (nodup_sub rs (univ as) h.1 fun r hr => (rch_in oka (h.2 r hr)).mem) (univ_len as hl)
theorem Cov.add {as : List Arc} {ms : List Nat} {rs : List Rest} (h : Cov as ms rs) {r : Rest} (hr : Rch as ms r) (hn : r ∉ rs) : Cov as ms (rs ++ [r]) := by
  refine ⟨?_, fun x hx => ?_⟩
  · rw [List.nodup_append]
    exact ⟨h.1, by simp, fun a ha b hb => by rw [List.mem_singleton.mp hb]; exact fun z => hn (z ▸ ha)⟩
  · rcases List.mem_append.mp hx with z | z
    · exact h.2 x z
    · rw [List.mem_singleton.mp z]; exact hr
/-- what explored gives: the dict at W holds all rests that come up, and they alone -/
def WaysAt (H : Hp) (W : Addr) (as : List Arc) (ms : List Nat) : Prop := ∃ (kw : List (List Key × V)) (rs : List Rest), H W = some (.dT kw) ∧ kw.map (·.1) = rs.map rk ∧ Cov as ms rs ∧ ∀ r, Rch as ms r → r ∈ rs
/-- what stands while explored goes: n rests have their steps, the steps of c of them are met -/
structure Wst (as : List Arc) (ms : List Nat) (Hx H : Hp) (O L W : Addr) (rs : List Rest) (n c : Nat) : Prop where
  le : n ≤ rs.length
  o : ∃ ko : List (List Key × V), H O = some (.dT ko) ∧ ko.map (·.1) = rs.map rk
  l : ∃ bs : List Addr, H L = some (.lst (bs.map V.ref)) ∧ bs.length = rs.length ∧ ∀ (i : Nat) r, rs[i]? = some r → ∃ b, bs[i]? = some b ∧ H b = some (restHO r)
  w : ∃ kw : List (List Key × V), H W = some (.dT kw) ∧ kw.map (·.1) = (rs.take n).map rk
  cov : Cov as ms rs
  st : ∀ s ∈ startsL as ms, s.1 ∈ rs
  cl : ∀ (j : Nat) r, j < c → rs[j]? = some r → ∀ s ∈ stepsL as r, s.1 ∈ rs
  sm : Same Hx H
def spExplored (C : Addr) : Sp := fun vs H Q _ => ∃ (q : Addr) (sg : List Nat) (us : List V) (as : List Arc), vs = [.ref q] ∧ LoomAt C H q sg us as ∧
  ∀ (H' : Hp) (t W O : Addr) (ms : List Nat), Same H H' → H' t = some (.tup [.ref W, .ref O]) → (∀ x, x ∈ ms ↔ Reach as x) → ms.Pairwise (· < ·) → WaysAt H' W as ms → Q (.ref t) H'
section
variable {P : Program} {w : World} {K : PySem.W.Frag} {mg : Str → Option Value} {base : Heap}
theorem ok_explored (T : Tx K mg) : FnOk P w K mg base CX0 3 T.f_explored T.fd_explored P_explored (spExplored T.C_Loom) := by
  have G_arcs_by_state : FnOk P w K mg base CX0 1 T.f_arcs_by_state T.fd_arcs_by_state P_arcs_by_state (spArcsBy T.C_Loom) := ok_arcs_by_state T
  have G_starts : FnOk P w K mg base CX0 2 T.f_starts T.fd_starts P_starts (spStarts T.C_Loom) := ok_starts T
  have G_steps : FnOk P w K mg base CX0 1 T.f_steps T.fd_steps P_steps (spSteps K) := ok_steps T
  refine T.F_explored.ok sc_explored (fun vs H Q E h => ?_) (fun cdv A outer s H vs Q E hr h => ?_)
  · obtain ⟨q, sg, us, as, rfl, _⟩ := h
    rfl
  · obtain ⟨q, sg, us, as, rfl, hL, k⟩ := h
    refine ⟨_, (pss_cons (ps_set (i := 1) sc_explored.nd rfl (Or.inl rfl) (pe_call G_arcs_by_state (hr.mono (by decide)) rfl T.m_arcs_by_state T.F_arcs_by_state.kp T.b_arcs_by_state .nil pass0 (pa_cons (pv 0) pa_nil)))
        (pss_cons (ps_set (i := 2) sc_explored.nd rfl (Or.inl rfl) pe_dnewT)
        (pss_cons (ps_for PassesOwn.never rfl (pi_list (pe_call G_starts (hr.mono (by decide)) rfl T.m_starts T.F_starts.kp T.b_starts .nil pass0 (pa_cons (pv 0) pa_nil))) (pg_name (i := 3) sc_explored.nd rfl (Or.inl rfl)) (pss_one (ps_expr (pe_dsetdT (hu_of hr) (pv 2) (pe_ix (ix_tupK (K := K) rfl) (pv 3) pe_int (fun _ _ => rfl)) (pe_tup (pa_cons pe_non (pa_cons (pv 3) pa_nil))) ⟨rfl, rfl, rfl, rfl⟩))))
        (pss_cons (ps_set (i := 4) sc_explored.nd rfl (Or.inl rfl) (pe_callTy (call_list_dT rfl) rfl T.n_list (by decide +kernel) (pa_cons (pv 2) pa_nil)))
        (pss_cons (ps_set (i := 5) sc_explored.nd rfl (Or.inl rfl) pe_dnewT)
        (pss_cons (ps_while PassesOwn.never (pt_cmpR op_lt (pe_callB call_len_dT rfl T.n_len (by decide +kernel) (pa_cons (pv 5) pa_nil)) (pe_callB (call_len_seqK (K := K) rfl) rfl T.n_len (by decide +kernel) (pa_cons (pv 4) pa_nil)) (nomark _)) (pss_cons (ps_set (i := 6) sc_explored.nd rfl (Or.inl rfl) (pe_ix (ix_listK (K := K) rfl) (pv 4) (pe_callB call_len_dT rfl T.n_len (by decide +kernel) (pa_cons (pv 5) pa_nil)) (fun _ _ => rfl)))
        (pss_cons (ps_dput (hu_of hr) (pv 5) (pv 6) (pe_call G_steps (hr.mono (by decide)) rfl T.m_steps T.F_steps.kp T.b_steps .nil pass0 (pa_cons (pv 1) (pa_cons (pv 6) pa_nil))) rfl)
        (pss_one (ps_for PassesOwn.never rfl (pi_list (pe_dget (hu_of hr) (pv 5) (pv 6) (fun _ _ => rfl))) (pg_name (i := 7) sc_explored.nd rfl (Or.inl rfl)) (pss_one (ps_if (pt_cmp (pc_dnotin (hu_of hr) (pe_ix (ix_tupK (K := K) rfl) (pv 7) pe_int (fun _ _ => rfl)) (pv 2))) (pss_cons (ps_dput (hu_of hr) (pv 2) (pe_ix (ix_tupK (K := K) rfl) (pv 7) pe_int (fun _ _ => rfl)) (pe_tup (pa_cons (pv 6) (pa_cons (pv 7) pa_nil))) rfl)
        (pss_one (ps_expr (pe_bm PySem.F.plainAttrs_list PySem.F.slot_list_append PySem.F.type_list_append mt_append (pv 4) (pa_cons (pe_ix (ix_tupK (K := K) rfl) (pv 7) pe_int (fun _ _ => rfl)) pa_nil))))) pss_nil)))))))
        (pss_one (ps_ret (pe_tup (pa_cons (pv 5) (pa_cons (pv 2) pa_nil))))))))))), ?_⟩
    obtain ⟨_, _, _, _, _, hok, _⟩ := id hL
    have oka := hok.all
    have hal := hok.2.1
    have haw : ∀ a ∈ as, a.2.1.length ≤ 12 := fun a ha => (oka.2 a ha).2.2.1
    refine ⟨_, rfl, q, sg, us, as, rfl, hL, fun Hx d sx tab => ?_⟩
    intro O hO
    have s1 : Same Hx (upd Hx O (.dT [])) := Same.new _ hO
    have g1 : upd Hx O (.dT []) O = some (.dT []) := upd_same
    generalize upd Hx O (.dT []) = H1 at *
    refine ⟨_, rfl, q, sg, us, as, rfl, (hL.same sx).same s1, fun H2 sp os ms s2 hsp0 hsp hms hreach hst => ?_⟩
    have g2 := s2 _ _ g1
    have s12 := s1.trans s2
    have nspO : sp ≠ O := fun z => by rw [z, g1] at hsp0; cases hsp0
    refine ⟨sp, rfl, ⟨_, SqL.of hsp⟩, for_list (K := K) (a := sp) (xs := os) (fun i σ H' => ∃ (v3 : Option V) (rs : List Rest), σ = [some (.ref q), some (.ref d), some (.ref O), v3, none, none, none, none] ∧ (∃ ko : List (List Key × V), H' O = some (.dT ko) ∧ ko.map (·.1) = rs.map rk) ∧
      Cov as ms rs ∧ (∀ (j : Nat) s, j < i → (startsL as ms)[j]? = some s → s.1 ∈ rs) ∧ Same Hx H' ∧ Ex O H2 H') ?_ ?_ ?_ ?_⟩
    · exact ⟨none, [], rfl, ⟨[], g2, rfl⟩, ⟨by simp, fun r h => (nomatch h)⟩, fun j s h => absurd h (Nat.not_lt_zero _), s12, Ex.refl _ _⟩
    · rintro i σ H' _ ⟨_, _, _, _, _, _, _, x⟩
      exact SqL.of (x _ _ nspO hsp)
    · rintro i y σ H3 hy ⟨v3, rs, rfl, ⟨ko, hko, hkeys⟩, cov, hcov, s3, x3⟩
      have hil : i < (startsL as ms).length := by rw [← hst.1]; exact (List.getElem?_eq_some_iff.mp hy).1
      obtain ⟨st, hs⟩ : ∃ st, (startsL as ms)[i]? = some st := ⟨_, List.getElem?_eq_getElem hil⟩
      obtain ⟨t, rt, hut, ht, hrt⟩ := hst.2 i st hs
      rw [hut] at hy
      cases hy
      have tO : ∀ {t : Addr} {xs : List V}, H2 t = some (.tup xs) → t ≠ O := fun h z => by rw [z, g2] at h; cases h
      have ht3 := x3 _ _ (tO ht) ht
      have hrt3 := x3 _ _ (tO hrt) hrt
      have hlen := cov.len oka hal
      have hkl := keys_len hkeys
      refine ⟨_, rfl, O, rfl, .inr ⟨ko, .inl hko⟩, _, rfl, t, _, _, _, rfl, rfl, SqT.of ht3, rfl, ?_⟩
      refine ⟨_, rfl, le_size (by simp), fun t3 ht3' => ?_⟩
      have s4 : Same H3 (upd H3 t3 (.tup [.non, .ref t])) := Same.new _ ht3'
      have hko4 := s4 _ _ hko
      have hrt4 := s4 _ _ hrt3
      have x4 := x3.trans (Same.ex s4)
      have s34 := s3.trans s4
      generalize upd H3 t3 (.tup [.non, .ref t]) = H4 at *
      have cover : ∀ rs' : List Rest, (∀ r ∈ rs, r ∈ rs') → st.1 ∈ rs' → ∀ (j : Nat) s, j < i + 1 → (startsL as ms)[j]? = some s → s.1 ∈ rs' := fun rs' h1 h2 j s hj hjs => by
        by_cases c : j < i
        · exact h1 _ (hcov j s c hjs)
        · have : j = i := by omega
          subst this
          rw [hs] at hjs
          cases hjs
          exact h2
      refine ⟨ko, rk st.1, rt, hko4, rfl, by rw [← rk_HO]; exact hrt4, Nat.lt_of_le_of_lt (m := 10649600) (by omega) (by decide), fun v hv => ?_, fun hn => ?_⟩
      · exact ⟨_, rs, rfl, ⟨ko, hko4, hkeys⟩, cov, cover rs (fun _ h => h) (keys_some hkeys hv), s34, x4⟩
      · have hnr := keys_none hkeys hn
        have hR : Rch as ms st.1 := .start (List.mem_of_getElem? hs)
        refine ⟨_, rs ++ [st.1], rfl, ⟨_, upd_same, ?_⟩, cov.add hR hnr, cover _ (fun r h => List.mem_append_left _ h) (List.mem_append_right _ (by simp)), s34.updNew hO, x4.trans (Ex.upd _)⟩
        rw [putK_new hn, List.map_append, List.map_append, hkeys]
        rfl
    · rintro σ H3 ⟨v3, rs0, rfl, ⟨ko0, hko0, hkeys0⟩, cov0, hcov0, s3, x3⟩
      have hcovA : ∀ s ∈ startsL as ms, s.1 ∈ rs0 := fun s hs => by
        obtain ⟨j, hj, e⟩ := List.mem_iff_getElem.mp hs
        exact hcov0 j s (by rw [hst.1]; exact hj) (by rw [List.getElem?_eq_getElem hj, e])
      clear hcov0 hst hsp hsp0 nspO x3 s12 s2 s1 g1 g2
      refine ⟨_, rfl, O, ko0, rfl, .inl hko0, fun L bs hL0 hkb => ?_⟩
      have s4 : Same H3 (upd H3 L (.lst (bs.map V.ref))) := Same.new _ hL0
      have gL : upd H3 L (.lst (bs.map V.ref)) L = some (.lst (bs.map V.ref)) := upd_same
      have nLO : L ≠ O := hp_ne hko0 hL0
      have hLx : Hx L = none := s3.free hL0
      have hko4 := s4 _ _ hko0
      have s34 := s3.trans s4
      have hkb4 : ∀ (i : Nat) r, rs0[i]? = some r → ∃ b, bs[i]? = some b ∧ upd H3 L (.lst (bs.map V.ref)) b = some (restHO r) := keys_bs hkeys0 hkb s4
      have hbl : bs.length = rs0.length := by rw [← keys_len hkeys0]; exact (Paired.length hkb).symm
      generalize upd H3 L (.lst (bs.map V.ref)) = H4 at *
      intro W hW0
      have s5 : Same H4 (upd H4 W (.dT [])) := Same.new _ hW0
      have gW : upd H4 W (.dT []) W = some (.dT []) := upd_same
      have nWO : W ≠ O := hp_ne hko4 hW0
      have nWL : W ≠ L := hp_ne gL hW0
      have hWx : Hx W = none := s34.free hW0
      have s35 := s34.trans s5
      have hko5 := s5 _ _ hko4
      have gL5 := s5 _ _ gL
      have hkb5 : ∀ (i : Nat) r, rs0[i]? = some r → ∃ b, bs[i]? = some b ∧ upd H4 W (.dT []) b = some (restHO r) := fun i r h => by
        obtain ⟨b, h1, h2⟩ := hkb4 i r h
        exact ⟨b, h1, s5 _ _ h2⟩
      generalize upd H4 W (.dT []) = H5 at *
      have w0 : Wst as ms Hx H5 O L W rs0 0 0 := ⟨Nat.zero_le _, ⟨ko0, hko5, hkeys0⟩, ⟨bs, gL5, hbl, hkb5⟩, ⟨[], gW, rfl⟩, cov0, hcovA, fun j r h => absurd h (Nat.not_lt_zero _), s35⟩
      clear hkb hkb4 hkb5 hbl gL gL5 gW hko4 hko5 hko0 hkeys0 cov0 hcovA s34 s35 s4 s5 s3 hL0 hW0
      refine ⟨fun m σ H' => ∃ (n : Nat) (rs : List Rest) (v3 v6 v7 : Option V), m = 10649601 - n ∧ σ = [some (.ref q), some (.ref d), some (.ref O), v3, some (.ref L), some (.ref W), v6, v7] ∧ Wst as ms Hx H' O L W rs n n, ⟨_, 0, rs0, _, _, _, rfl, rfl, w0⟩, ?_⟩
      rintro m σ H6 ⟨n, rs, w3, v6, v7, rfl, rfl, ⟨hn, ⟨ko, hko, hkeys⟩, ⟨bs', hLl, hbl', hbs⟩, ⟨kw, hkw, hkwk⟩, cov, hcA, hcl, s6⟩⟩
      have hrl := cov.len oka hal
      have hkwl : kw.length = n := by
        have := congrArg List.length hkwk
        rw [List.length_map, List.length_map, List.length_take] at this
        omega
      refine ⟨_, rfl, W, kw, rfl, hkw, _, rfl, L, _, rfl, .inl (SqL.of hLl), _, _, rfl, rfl, _, rfl, ?_⟩
      rw [hkwl, List.length_map, hbl']
      refine ite2 (fun c => ?_) (fun c => ?_)
      · have hnl : n < rs.length := by have := of_decide_eq_true c; omega
        refine ⟨fun σ' H' => ∃ (rs : List Rest) (v3 v6 v7 : Option V), σ' = [some (.ref q), some (.ref d), some (.ref O), v3, some (.ref L), some (.ref W), v6, v7] ∧ Wst as ms Hx H' O L W rs (n + 1) (n + 1), ?_, ?_⟩
        · rintro σ' H' ⟨rs', u3, u6, u7, rfl, hw'⟩
          exact ⟨10649601 - (n + 1), by omega, n + 1, rs', u3, u6, u7, rfl, rfl, hw'⟩
        obtain ⟨r, hr⟩ : ∃ r, rs[n]? = some r := ⟨_, List.getElem?_eq_getElem hnl⟩
        obtain ⟨b, hb1, hb⟩ := hbs n r hr
        have hU := rch_in oka (cov.2 r (List.mem_of_getElem? hr))
        have hr12 : r.2.2.length ≤ 1000 := by
          obtain ⟨_, _, c, hc, kk, _, e⟩ := hU
          rw [e, List.length_drop]
          have := (oka.2 c hc).2.2.1
          omega
        refine ⟨_, rfl, _, rfl, W, kw, rfl, hkw, L, _, _, _, rfl, rfl, SqL.of hLl, by rw [hkwl]; exact atI_nat (by rw [List.getElem?_map, hb1]; rfl), ?_⟩
        refine ⟨_, rfl, _, rfl, d, b, H, as, r, rfl, tab.same s6, hal, haw, hr12, hb, fun H7 sl sus s7 hsl0 hsl hss => ?_⟩
        have hkw7 := s7 _ _ hkw
        have hb7 := s7 _ _ hb
        have hko7 := s7 _ _ hko
        have hL7 := s7 _ _ hLl
        have nslO : sl ≠ O := fun z => by rw [z, hko] at hsl0; cases hsl0
        have nslL : sl ≠ L := fun z => by rw [z, hLl] at hsl0; cases hsl0
        have nslW : sl ≠ W := fun z => by rw [z, hkw] at hsl0; cases hsl0
        have hnew : valV kw (rk r) = none := by
          cases z : valV kw (rk r) with
          | none => rfl
          | some v =>
            have q := keys_some hkwk z
            obtain ⟨j, hj, ej⟩ := List.mem_iff_getElem.mp q
            rw [List.length_take] at hj
            rw [List.getElem_take] at ej
            have e2 : rs[n] = r := by
              have := List.getElem?_eq_getElem hnl
              rw [hr] at this
              exact (Option.some.inj this).symm
            have := (List.getElem_inj cov.1).mp (ej.trans e2.symm)
            omega
        refine ⟨_, rfl, _, rfl, W, _, rfl, DPut.t hkw7 (by rw [← rk_HO]; exact hb7) (Nat.lt_of_le_of_lt (m := 10649600) (by omega) (by decide)), ?_⟩
        have k8 : ∀ x o, x ≠ W → H7 x = some o → upd H7 W (.dT (putK kw (rk r) (.ref sl))) x = some o := fun x o nx h => by rw [upd_ne nx]; exact h
        have g8 : upd H7 W (.dT (putK kw (rk r) (.ref sl))) W = some (.dT (putK kw (rk r) (.ref sl))) := upd_same
        have s8 : Same Hx (upd H7 W (.dT (putK kw (rk r) (.ref sl)))) := (s6.trans s7).updNew hWx
        generalize upd H7 W (.dT (putK kw (rk r) (.ref sl))) = H8 at *
        have tW : ∀ {t : Addr} {xs : List V}, H7 t = some (.tup xs) → t ≠ W := fun h z => by rw [z, hkw7] at h; cases h
        have hss8 : StepsAt H8 sus (stepsL as r) := hss.to fun t xs h => k8 _ _ (tW h) h
        have hsl8 := k8 _ _ nslW hsl
        have hb8 : H8 b = some (restHO r) := k8 _ _ (tW hb7) hb7
        have hko8 := k8 _ _ nWO.symm hko7
        have hL8 := k8 _ _ nWL.symm hL7
        have hbs8 : ∀ (i : Nat) r, rs[i]? = some r → ∃ b, bs'[i]? = some b ∧ H8 b = some (restHO r) := fun i r h => by
          obtain ⟨b, h1, h2⟩ := hbs i r h
          have h3 := s7 _ _ h2
          exact ⟨b, h1, k8 _ _ (tW h3) h3⟩
        have hkw8 : (putK kw (rk r) (.ref sl)).map (·.1) = (rs.take (n + 1)).map rk := by
          rw [putK_new hnew, List.map_append, hkwk, ← take_snoc hr, List.map_append]
          rfl
        refine ⟨_, rfl, _, rfl, W, .ref sl, rfl, .inr ⟨_, rk r, b, .inl g8, rfl, by rw [← rk_HO]; exact hb8, by rw [valV_put, if_pos rfl]⟩, sl, rfl, ⟨_, SqL.of hsl8⟩, for_list (K := K) (a := sl) (xs := sus) (fun i σ H' => ∃ (rs' ex : List Rest) (v7 : Option V), σ = [some (.ref q), some (.ref d), some (.ref O), w3, some (.ref L), some (.ref W), some (.ref b), v7] ∧
          rs' = rs ++ ex ∧ Wst as ms Hx H' O L W rs' (n + 1) n ∧ (∀ (j : Nat) s, j < i → (stepsL as r)[j]? = some s → s.1 ∈ rs') ∧ Ex3 O L W H8 H') ?_ ?_ ?_ ?_⟩
        · exact ⟨rs, [], _, rfl, by rw [List.append_nil], ⟨hnl, ⟨ko, hko8, hkeys⟩, ⟨bs', hL8, hbl', hbs8⟩, ⟨_, g8, hkw8⟩, cov, hcA, hcl, s8⟩, fun j s h => absurd h (Nat.not_lt_zero _), Ex3.refl _ _ _ _⟩
        · rintro i σ H' _ ⟨_, _, _, _, _, _, _, x⟩
          exact SqL.of (x _ _ nslO nslL nslW hsl8)
        · rintro i y σ H9 hy ⟨rs', ex, u7, rfl, hrs', w9, part, x9⟩
          have hil : i < (stepsL as r).length := by rw [← hss.1]; exact (List.getElem?_eq_some_iff.mp hy).1
          obtain ⟨st, hs⟩ : ∃ st, (stepsL as r)[i]? = some st := ⟨_, List.getElem?_eq_getElem hil⟩
          obtain ⟨t, rt, hut, ht, hrt⟩ := hss8.2 i st hs
          rw [hut] at hy
          cases hy
          have keep9 : ∀ {t : Addr} {xs : List V}, H8 t = some (.tup xs) → H9 t = some (.tup xs) := fun h => x9 _ _ (fun z => by rw [z, hko8] at h; cases h) (fun z => by rw [z, hL8] at h; cases h) (fun z => by rw [z, g8] at h; cases h) h
          have ht9 := keep9 ht
          have hrt9 : H9 rt = some (restHO st.1) := keep9 hrt
          have hb9 : H9 b = some (restHO r) := keep9 hb8
          obtain ⟨hn9, ⟨ko9, hko9, hkeys9⟩, ⟨bs9, hL9, hbl9, hbs9⟩, ⟨kw9, hkw9, hkwk9⟩, cov9, st9, cl9, sm9⟩ := w9
          have hrl9 := cov9.len oka hal
          have hkl9 := keys_len hkeys9
          have cover : ∀ rs'' : List Rest, (∀ r ∈ rs', r ∈ rs'') → st.1 ∈ rs'' → ∀ (j : Nat) s, j < i + 1 → (stepsL as r)[j]? = some s → s.1 ∈ rs'' := fun rs'' h1 h2 j s hj hjs => by
            by_cases cj : j < i
            · exact h1 _ (part j s cj hjs)
            · have : j = i := by omega
              subst this
              rw [hs] at hjs
              cases hjs
              exact h2
          refine ⟨_, rfl, t, _, _, _, rfl, rfl, SqT.of ht9, rfl, _, rfl, O, _, rfl, .inr ⟨ko9, rk st.1, rt, .inl hko9, rfl, by rw [← rk_HO]; exact hrt9, rfl⟩, ?_⟩
          cases hval : valV ko9 (rk st.1) with
          | some v =>
            refine ⟨_, rfl, iteF ?_⟩
            exact ⟨rs', ex, _, rfl, hrs', ⟨hn9, ⟨ko9, hko9, hkeys9⟩, ⟨bs9, hL9, hbl9, hbs9⟩, ⟨kw9, hkw9, hkwk9⟩, cov9, st9, cl9, sm9⟩, cover rs' (fun _ h => h) (keys_some hkeys9 hval), x9⟩
          | none =>
            have hnr := keys_none hkeys9 hval
            have hR : Rch as ms st.1 := .step (cov.2 r (List.mem_of_getElem? hr)) (List.mem_of_getElem? hs)
            refine ⟨_, rfl, iteT ?_⟩
            refine ⟨_, rfl, _, rfl, le_size (by simp), fun t3 ht3 => ?_⟩
            have s10 : Same H9 (upd H9 t3 (.tup [.ref b, .ref t])) := Same.new _ ht3
            have hko10 := s10 _ _ hko9
            have hL10 := s10 _ _ hL9
            have hkw10 := s10 _ _ hkw9
            have ht10 := s10 _ _ ht9
            have hrt10 := s10 _ _ hrt9
            have hbs10' : ∀ (i : Nat) r, rs'[i]? = some r → ∃ b', bs9[i]? = some b' ∧ upd H9 t3 (.tup [.ref b, .ref t]) b' = some (restHO r) := fun i r h => by
              obtain ⟨b', h1, h2⟩ := hbs9 i r h
              exact ⟨b', h1, s10 _ _ h2⟩
            have sm10 := sm9.trans s10
            have x10 := x9.trans (Ex3.same s10)
            generalize upd H9 t3 (.tup [.ref b, .ref t]) = H10 at *
            refine ⟨_, rfl, _, rfl, t, _, _, _, rfl, rfl, SqT.of ht10, rfl, O, _, rfl, DPut.t hko10 (by rw [← rk_HO]; exact hrt10) (Nat.lt_of_le_of_lt (m := 10649600) (by omega) (by decide)), ?_⟩
            have k11 : ∀ x o, x ≠ O → H10 x = some o → upd H10 O (.dT (putK ko9 (rk st.1) (.ref t3))) x = some o := fun x o nx h => by rw [upd_ne nx]; exact h
            have g11 : upd H10 O (.dT (putK ko9 (rk st.1) (.ref t3))) O = some (.dT (putK ko9 (rk st.1) (.ref t3))) := upd_same
            have sm11 : Same Hx (upd H10 O (.dT (putK ko9 (rk st.1) (.ref t3)))) := sm10.updNew hO
            have x11 : Ex3 O L W H8 (upd H10 O (.dT (putK ko9 (rk st.1) (.ref t3)))) := fun z o n1 n2 n3 h => k11 _ _ n1 (x10 z o n1 n2 n3 h)
            have tO : ∀ {t : Addr} {xs : List V}, H10 t = some (.tup xs) → t ≠ O := fun h z => by rw [z, hko10] at h; cases h
            generalize upd H10 O (.dT (putK ko9 (rk st.1) (.ref t3))) = H11 at *
            have hL11 := k11 _ _ nLO hL10
            have ht11 := k11 _ _ (tO ht10) ht10
            have hrt11 : H11 rt = some (restHO st.1) := k11 _ _ (tO hrt10) hrt10
            have hkw11 := k11 _ _ nWO hkw10
            refine ⟨_, rfl, .inl ⟨rfl, _, SqL.of hL11⟩, _, rfl, t, _, _, _, rfl, rfl, SqT.of ht11, rfl, L, _, _, rfl, rfl, hL11, Nat.lt_of_le_of_lt (m := 10649600) (by rw [List.length_map]; omega) (by decide), ?_⟩
            have k12 : ∀ x o, x ≠ L → H11 x = some o → upd H11 L (.lst (bs9.map V.ref ++ [.ref rt])) x = some o := fun x o nx h => by rw [upd_ne nx]; exact h
            have tL : ∀ {t : Addr} {xs : List V}, H11 t = some (.tup xs) → t ≠ L := fun h z => by rw [z, hL11] at h; cases h
            refine ⟨rs' ++ [st.1], ex ++ [st.1], _, rfl, by rw [hrs', List.append_assoc], ⟨by rw [List.length_append]; omega, ⟨_, k12 _ _ nLO.symm g11, ?_⟩, ⟨bs9 ++ [rt], by rw [upd_same, List.map_append]; rfl, by rw [List.length_append, List.length_append, hbl9]; rfl, fun i' r' h => ?_⟩, ⟨kw9, k12 _ _ nWL hkw11, ?_⟩, cov9.add hR hnr, fun s hs => List.mem_append_left _ (st9 s hs), fun j r' hj hjr s hs' => ?_, sm11.updNew hLx⟩, cover _ (fun r h => List.mem_append_left _ h) (List.mem_append_right _ (by simp)), fun z o n1 n2 n3 h => k12 _ _ n2 (x11 z o n1 n2 n3 h)⟩
            · rw [putK_new hval, List.map_append, List.map_append, hkeys9]
              rfl
            · by_cases ci : i' < rs'.length
              · rw [List.getElem?_append_left ci] at h
                obtain ⟨b', h1, h2⟩ := hbs10' i' r' h
                have h3 := k11 _ _ (tO h2) h2
                exact ⟨b', by rw [List.getElem?_append_left (by rw [hbl9]; exact ci)]; exact h1, k12 _ _ (tL h3) h3⟩
              · have hi' : i' = rs'.length := by
                  have := (List.getElem?_eq_some_iff.mp h).1
                  rw [List.length_append, List.length_singleton] at this
                  omega
                subst hi'
                rw [List.getElem?_append_right (Nat.le_refl _)] at h
                simp at h
                subst h
                exact ⟨rt, by rw [List.getElem?_append_right (by rw [hbl9]; exact Nat.le_refl _), hbl9]; simp, k12 _ _ (tL hrt11) hrt11⟩
            · rw [hkwk9, List.take_append_of_le_length hn9]
            · have hjl : j < rs'.length := by omega
              rw [List.getElem?_append_left hjl] at hjr
              exact List.mem_append_left _ (cl9 j r' hj hjr s hs')
        · rintro σ H9 ⟨rs', ex, u7, rfl, hrs', w9, part, x9⟩
          refine ⟨rs', _, _, _, rfl, w9.le, w9.o, w9.l, w9.w, w9.cov, w9.st, fun j r' hj hjr s hs => ?_, w9.sm⟩
          by_cases cj : j < n
          · exact w9.cl j r' cj hjr s hs
          · have : j = n := by omega
            subst this
            rw [hrs', List.getElem?_append_left hnl, hr] at hjr
            cases hjr
            obtain ⟨i, hi, e⟩ := List.mem_iff_getElem.mp hs
            exact part i s (by rw [hss.1]; exact hi) (by rw [List.getElem?_eq_getElem hi, e])
      · have hnl : n = rs.length := by
          have : ¬ ((n : Int) < (rs.length : Nat)) := fun z => c (decide_eq_true z)
          omega
        refine ⟨_, rfl, _, rfl, le_size (by simp), fun t ht => ?_⟩
        have s7 : Same H6 (upd H6 t (.tup [.ref W, .ref O])) := Same.new _ ht
        refine k _ t W O ms (sx.trans (s6.trans s7)) upd_same hreach hms ⟨kw, rs, s7 _ _ hkw, ?_, cov, fun r hr => ?_⟩
        · rw [hkwk, hnl, List.take_length]
        · induction hr with
          | @start s hs => exact hcA s hs
          | @step r s _ hs ih =>
            obtain ⟨j, hj, e⟩ := List.mem_iff_getElem.mp ih
            exact hcl j r (by omega) (by rw [List.getElem?_eq_getElem hj, e]) s hs
end
end J


set_option Elab.async false
set_option linter.all false
set_option maxRecDepth 100000
set_option maxHeartbeats 4000000
namespace J
open PySem L2
def evenB (r : Rest) : Bool := r.1 == r.2.1 && r.2.2 == []
def spEven (K : PySem.W.Frag) : Sp := fun vs H Q _ => ∃ (rp : Addr) (r : Rest), vs = [.ref rp] ∧ H rp = some (restHO r) ∧ Q (.bl (evenB r)) H
def spOneWay (C : Addr) : Sp := fun vs H Q _ => ∃ (q : Addr) (sg : List Nat) (us : List V) (as : List Arc), vs = [.ref q] ∧ LoomAt C H q sg us as ∧
  ∀ (H' : Hp) (b : Bool) (ms : List Nat), Same H H' → (∀ x, x ∈ ms ↔ Reach as x) → ms.Pairwise (· < ·) → (b = true ↔ ∀ r, Rch as ms r → evenB r = false) → Q (.bl b) H'
section
variable {P : Program} {w : World} {K : PySem.W.Frag} {mg : Str → Option Value} {base : Heap}
theorem ok_is_even (T : Tx K mg) : FnOk P w K mg base CX0 1 T.f_is_even T.fd_is_even P_is_even (spEven K) := by
  refine T.F_is_even.ok sc_is_even (fun vs H Q E h => ?_) (fun cdv A outer s H vs Q E hr h => ?_)
  · obtain ⟨rp, r, rfl, _⟩ := h
    rfl
  · obtain ⟨rp, r, rfl, hrp, k⟩ := h
    refine ⟨_, (pss_one (ps_ret (pe_and (pe_cmpR op_eq (pe_ix (ix_tupK (K := K) rfl) (pv 0) pe_int (fun _ _ => rfl)) (pe_ix (ix_tupK (K := K) rfl) (pv 0) pe_int (fun _ _ => rfl)) (nomark _)) (pe_one (pe_cmpR op_eq (pe_ix (ix_tupK (K := K) rfl) (pv 0) pe_int (fun _ _ => rfl)) pe_str (nomark _)))))), ?_⟩
    refine ⟨_, rfl, rp, _, _, _, rfl, rfl, SqT.of hrp, rfl, _, rfl, rp, _, _, _, rfl, rfl, SqT.of hrp, rfl, rfl, _, rfl, ?_⟩
    have e0 : (V.int (r.1 : Int) = V.int (r.2.1 : Int)) ↔ r.1 = r.2.1 := by
      constructor
      · intro z
        injection z with z
        omega
      · intro z; rw [z]
    refine ite2 (fun c => ?_) (fun c => ?_)
    · have h1 := e0.mp (of_decide_eq_true c)
      refine ⟨_, rfl, rp, _, _, _, rfl, rfl, SqT.of hrp, rfl, rfl, ?_⟩
      have e1 : decide (V.str (SX.S r.2.2) = V.str (Str.ofString "")) = evenB r := by
        unfold evenB
        rw [h1]
        by_cases z : r.2.2 = []
        · rw [z, decide_eq_true (show V.str (SX.S []) = V.str (Str.ofString "") from rfl)]
          simp
        · have n : ¬ (V.str (SX.S r.2.2) = V.str (Str.ofString "")) := fun y => by
            injection y with y
            exact z (strS_inj (v := []) y)
          rw [decide_eq_false n]
          cases hq : r.2.2 with
          | nil => exact absurd hq z
          | cons a l => simp
      rw [e1]
      exact k
    · have h1 : ¬ r.1 = r.2.1 := fun z => c (decide_eq_true (e0.mpr z))
      have e1 : evenB r = false := by
        unfold evenB
        simp [h1]
      rw [e1] at k
      exact k
theorem ok_one_way (T : Tx K mg) : FnOk P w K mg base CX0 4 T.f_one_way T.fd_one_way P_one_way (spOneWay T.C_Loom) := by
  have G_explored : FnOk P w K mg base CX0 3 T.f_explored T.fd_explored P_explored (spExplored T.C_Loom) := ok_explored T
  have G_is_even : FnOk P w K mg base CX0 1 T.f_is_even T.fd_is_even P_is_even (spEven K) := ok_is_even T
  refine T.F_one_way.ok sc_one_way (fun vs H Q E h => ?_) (fun cdv A outer s H vs Q E hr h => ?_)
  · obtain ⟨q, sg, us, as, rfl, _⟩ := h
    rfl
  · obtain ⟨q, sg, us, as, rfl, hL, k⟩ := h
    refine ⟨_, (pss_cons (ps_asg (pe_call G_explored (hr.mono (by decide)) rfl T.m_explored T.F_explored.kp T.b_explored .nil pass0 (pa_cons (pv 0) pa_nil)) (pg_tup rfl (pgs_cons (pg_name (i := 1) sc_one_way.nd rfl (Or.inl rfl)) (pgs_cons (pg_name (i := 2) sc_one_way.nd rfl (Or.inl rfl)) pgs_nil))))
        (pss_one (ps_ret (pe_not (pe_callB (cr_anyK (K := K) rfl rfl) rfl T.n_any (by decide +kernel) (pa_cons (pe_lock (pe_lc (own := [("rest", 3)]) (g := (gName 3)) rfl sc_one_way.nd (pi_keys (pv 1)) (blkOk_by (N := N_one_way) (sc := defScope s_one_way) (by decide +kernel)) (fun _ _ _ _ _ => (pg_name (i := 3) sc_one_way.nd rfl (Or.inl rfl))) (fun _ _ _ _ _ => pts_nil) (fun _ _ _ _ _ => (pe_call G_is_even (hr.mono (by decide)) rfl T.m_is_even T.F_is_even.kp T.b_is_even .nil pass0 (pa_cons (pv 3) pa_nil))))) pa_nil)))))), ?_⟩
    refine ⟨_, rfl, q, sg, us, as, rfl, hL, fun H1 t W O ms s1 ht hreach hms hw => ?_⟩
    refine ⟨t, _, rfl, SqT.of ht, rfl, _, _, rfl, _, _, rfl, rfl, ?_⟩
    obtain ⟨kw, rs, hkw, hkeys, cov, hall⟩ := hw
    have hrl : rs.length ≤ 10649600 := by
      obtain ⟨_, _, _, _, _, hok, _⟩ := id hL
      exact cov.len hok.all hok.2.1
    have hkl := keys_len hkeys
    refine ⟨W, .dT kw, hkw, trivial, fun od => ?_⟩
    have gf : upd H1 W (.frz od (.dT kw)) W = some (.frz od (.dT kw)) := upd_same
    have kf : ∀ x o, x ≠ W → H1 x = some o → upd H1 W (.frz od (.dT kw)) x = some o := fun x o n h => by rw [upd_ne n]; exact h
    generalize upd H1 W (.frz od (.dT kw)) = Hf at *
    refine ⟨_, rfl, W, od, rfl, .inr ⟨kw, gf, fun D hD => lc_it walk_keysT (fun i H' => H' D = some (.lst (((rs.take i).map evenB).map V.bl)) ∧ Same Hf H') ⟨upd_same, Same.new _ hD⟩ (fun i H' _ ⟨_, sm⟩ => sm _ _ gf) ?_ ?_⟩⟩
    · rintro i x H2 H3 hi ⟨hDl, sm⟩ ⟨rfl, kk, v, qq, hkv, rfl, hqq⟩
      obtain ⟨r, hr⟩ : ∃ r, rs[i]? = some r := ⟨_, List.getElem?_eq_getElem (by rw [← hkl]; exact hi)⟩
      have ek : kk = rk r := by
        have e1 : (kw.map (·.1))[i]? = some kk := by rw [List.getElem?_map, hkv]; rfl
        rw [hkeys, List.getElem?_map, hr] at e1
        exact (Option.some.inj e1).symm
      subst ek
      refine ⟨rfl, _, rfl, qq, r, rfl, by rw [rk_HO]; exact hqq, ?_⟩
      refine ⟨_, hDl, Nat.lt_of_le_of_lt (m := 10649600) (by rw [List.length_map, List.length_map, List.length_take]; omega) (by decide), ?_, sm.updNew hD⟩
      rw [upd_same, ← take_snoc hr, List.map_append, List.map_append]
      rfl
    · rintro H2 ⟨hDl, sm⟩
      rw [hkl, List.take_length] at hDl
      have nDW : D ≠ W := hp_ne gf hD
      have s2 : Same H1 (upd H2 W (.dT kw)) := fun b o h => by
        by_cases c : b = W
        · subst c
          rw [upd_same, ← h, hkw]
        · rw [upd_ne c]
          exact sm _ _ (kf _ _ c h)
      refine ⟨sm _ _ gf, D, _, rfl, SqL.of (by rw [upd_ne nDW]; exact hDl), _, rfl, ?_⟩
      refine k _ _ ms (s1.trans s2) hreach hms ?_
      rw [List.any_map]
      constructor
      · intro h r hr
        have h' : (rs.any (id ∘ evenB)) = false := by simpa using h
        rw [List.any_eq_false] at h'
        simpa using h' r (hall r hr)
      · intro h
        have h' : (rs.any (id ∘ evenB)) = false := by
          rw [List.any_eq_false]
          intro r hr
          simp [h r (cov.2 r hr)]
        rw [h']
        rfl
end
end J


set_option Elab.async false
set_option linter.all false
set_option maxRecDepth 100000
set_option maxHeartbeats 4000000
namespace J
open PySem L2
/-! ### plain books and their standings -/
def Plain (ws : List (List Nat)) : Prop := ws.Pairwise fun u v => ¬ u <+: v ∧ ¬ v <+: u
theorem Plain.perm {ws vs : List (List Nat)} (h : Plain ws) (p : vs.Perm ws) : Plain vs := (p.pairwise_iff (fun {x y} h => ⟨h.2, h.1⟩)).mpr h
theorem Plain.nodup {ws : List (List Nat)} (h : Plain ws) : ws.Nodup := h.imp fun {u v} q e => q.1 (by rw [e]; exact List.prefix_refl _)
theorem starts2 (x w : List Nat) : Txt.startswith (SX.S x) (SX.S w) = decide (w <+: x) := by
  unfold Txt.startswith
  rw [PySem.StrLaws.subAt_eq, SX.S_len, SX.S_len, Nat.zero_add]
  show (decide (w.length ≤ x.length) && ((x.drop 0).take w.length == w)) = _
  rw [List.drop_zero]
  by_cases c : w <+: x
  · rw [decide_eq_true c, decide_eq_true c.length_le, Bool.true_and, beq_iff_eq]
    exact (List.prefix_iff_eq_take.mp c).symm
  · have n : ((x.take w.length) == w) = false := beq_eq_false_iff_ne.mpr fun e => c (List.prefix_iff_eq_take.mpr e.symm)
    rw [decide_eq_false c, n, Bool.and_false]
theorem cut_drop (vs : List (List Nat)) (n : Nat) : cutV (txts vs) (some (n : Int)) none = txts (vs.drop n) := by
  unfold cutV
  rw [HT.sIx_nat, HT.sIx_none, txts_len]
  show ((txts vs).drop (min n vs.length)).take (vs.length - min n vs.length) = _
  by_cases c : n ≤ vs.length
  · rw [Nat.min_eq_left c, List.take_of_length_le (by rw [List.length_drop, txts_len]; omega)]
    simp [txts]
  · rw [Nat.min_eq_right (by omega), List.drop_eq_nil_of_le (by rw [txts_len]; omega), List.drop_eq_nil_of_le (by omega), List.take_nil]
    rfl
/-- a word without one sign or more at its end -/
def IsStand (ws ys : List (List Nat)) : Prop := TxO.SF ys ∧ ys.Nodup ∧ ∀ u, u ∈ ys ↔ ∃ w ∈ ws, u <+: w ∧ u ≠ w
/-- beginnings of the first i words -/
def Pre (ws : List (List Nat)) (i : Nat) (u : List Nat) : Prop := ∃ w ∈ ws.take i, ∃ m, m < w.length ∧ u = w.take m
theorem pre_iff (ws : List (List Nat)) (u : List Nat) : Pre ws ws.length u ↔ ∃ w ∈ ws, u <+: w ∧ u ≠ w := by
  unfold Pre
  rw [List.take_length]
  constructor
  · rintro ⟨w, hw, m, hm, rfl⟩
    refine ⟨w, hw, List.take_prefix _ _, fun e => ?_⟩
    have := congrArg List.length e
    rw [List.length_take] at this
    omega
  · rintro ⟨w, hw, p, n⟩
    have e := List.prefix_iff_eq_take.mp p
    refine ⟨w, hw, u.length, ?_, e⟩
    have l := p.length_le
    by_cases c : u.length < w.length
    · exact c
    · exfalso
      apply n
      rw [e, List.take_of_length_le (by omega)]
theorem pre_snoc {ws : List (List Nat)} {i : Nat} {w : List Nat} (h : ws[i]? = some w) (u : List Nat) : Pre ws (i + 1) u ↔ Pre ws i u ∨ ∃ m, m < w.length ∧ u = w.take m := by
  unfold Pre
  rw [List.take_add_one, h]
  constructor
  · rintro ⟨v, hv, q⟩
    rcases List.mem_append.mp hv with hv | hv
    · exact .inl ⟨v, hv, q⟩
    · rw [List.mem_singleton.mp hv] at q
      exact .inr q
  · rintro (⟨v, hv, q⟩ | q)
    · exact ⟨v, List.mem_append_left _ hv, q⟩
    · exact ⟨w, List.mem_append_right _ (by simp), q⟩
def spPlainT (C : Addr) : Sp := fun vs H Q _ => ∃ (p : Addr) (sg : List Nat) (us : List V) (ws : List (List Nat)), vs = [.ref p] ∧ LoomAt C H p sg us (bka ws) ∧ Plain ws ∧ ∀ H', Same H H' → Q (.bl true) H'
def spPlainC (C : Addr) : Sp := fun vs H Q _ => ∃ (p : Addr) (sg : List Nat) (us : List V) (ws : List (List Nat)), vs = [.ref p] ∧ LoomAt C H p sg us (bka ws) ∧ Plain ws ∧ ∀ H', Same H H' → Q .non H'
def spStand (C : Addr) : Sp := fun vs H Q _ => ∃ (p : Addr) (sg : List Nat) (us : List V) (ws : List (List Nat)), vs = [.ref p] ∧ LoomAt C H p sg us (bka ws) ∧ Plain ws ∧
  ∀ H' (r : Addr) ys, Same H H' → H r = none → H' r = some (.lst (txts ys)) → IsStand ws ys → ys.length ≤ 2400 → Q (.ref r) H'
section
variable {P : Program} {w : World} {K : PySem.W.Frag} {mg : Str → Option Value} {base : Heap}
end
end J


set_option Elab.async false
set_option linter.all false
set_option maxRecDepth 100000
set_option maxHeartbeats 4000000
namespace J
open PySem L2
/-! ### books: rows, rests and readings -/
/-- plain books have no starts -/
theorem lvs_at {g : Nat} : ∀ {as : List Arc} {n : Nat} {e : Nat × List Nat × Nat}, e ∈ lvs g n as → n ≤ e.1 ∧ as[e.1 - n]? = some (g, e.2.1, e.2.2)
  | [], _, _, h => by cases h
  | a :: r, n, e, h => by
    have h' : e ∈ (if a.1 = g then (n, a.2.1, a.2.2) :: lvs g (n + 1) r else lvs g (n + 1) r) := h
    have tl : e ∈ lvs g (n + 1) r → n ≤ e.1 ∧ (a :: r)[e.1 - n]? = some (g, e.2.1, e.2.2) := fun z => by
      obtain ⟨h1, h2⟩ := lvs_at z
      refine ⟨by omega, ?_⟩
      have : e.1 - n = (e.1 - (n + 1)) + 1 := by omega
      rw [this, List.getElem?_cons_succ]
      exact h2
    by_cases c : a.1 = g
    · rw [if_pos c] at h'
      rcases List.mem_cons.mp h' with z | z
      · refine ⟨by rw [z]; exact Nat.le_refl _, ?_⟩
        rw [z]
        show (a :: r)[n - n]? = _
        rw [Nat.sub_self]
        show some a = _
        rw [← c]
      · exact tl z
    · rw [if_neg c] at h'
      exact tl h'
theorem plain_no_start {ws : List (List Nat)} (hp : Plain ws) (ms : List Nat) : startsL (bka ws) ms = [] := by
  rw [List.eq_nil_iff_forall_not_mem]
  intro s hs
  obtain ⟨g, _, h1⟩ := List.mem_flatMap.mp hs
  obtain ⟨e, he, h2⟩ := List.mem_flatMap.mp h1
  obtain ⟨f, hf, h3⟩ := List.mem_flatMap.mp h2
  unfold cell at h3
  split at h3
  · rename_i c
    obtain ⟨c1, c2⟩ := c
    have a1 := (lvs_at he).2
    have a2 := (lvs_at hf).2
    rw [Nat.sub_zero] at a1 a2
    unfold bka at a1 a2
    rw [List.getElem?_map] at a1 a2
    obtain ⟨u, hu, e1⟩ := Option.map_eq_some_iff.mp a1
    obtain ⟨v, hv, e2⟩ := Option.map_eq_some_iff.mp a2
    have q1 : u = e.2.1 := congrArg (fun x : Arc => x.2.1) e1
    have q2 : v = f.2.1 := congrArg (fun x : Arc => x.2.1) e2
    rw [← q1, ← q2] at c2
    have pr : u <+: v := by
      unfold pre at c2
      exact List.prefix_iff_eq_take.mpr (beq_iff_eq.mp c2).symm
    obtain ⟨i1, j1⟩ := List.getElem?_eq_some_iff.mp hu
    obtain ⟨i2, j2⟩ := List.getElem?_eq_some_iff.mp hv
    rcases Nat.lt_or_gt_of_ne c1 with z | z
    · have := (List.pairwise_iff_getElem.mp hp e.1 f.1 i1 i2 z).1
      rw [j1, j2] at this
      exact this pr
    · have := (List.pairwise_iff_getElem.mp hp f.1 e.1 i2 i1 z).2
      rw [j1, j2] at this
      exact this pr
  · cases h3
theorem plain_no_rest {ws : List (List Nat)} (hp : Plain ws) {ms : List Nat} {r : Rest} (h : Rch (bka ws) ms r) : False := by
  induction h with
  | start h => rw [plain_no_start hp] at h; cases h
  | step _ _ ih => exact ih
theorem mem_lvs {g : Nat} : ∀ {as : List Arc} {n i : Nat} {u : List Nat} {b : Nat}, as[i]? = some (g, u, b) → (n + i, u, b) ∈ lvs g n as
  | [], _, _, _, _, h => by simp at h
  | a :: r, n, 0, u, b, h => by
    have e : a = (g, u, b) := by simpa using h
    subst e
    show _ ∈ (if g = g then (n, u, b) :: lvs g (n + 1) r else lvs g (n + 1) r)
    rw [if_pos rfl]
    exact List.mem_cons_self
  | a :: r, n, i + 1, u, b, h => by
    have h2 : r[i]? = some (g, u, b) := by simpa using h
    have ih := mem_lvs (n := n + 1) h2
    rw [show n + 1 + i = n + (i + 1) by omega] at ih
    show _ ∈ (if a.1 = g then (n, a.2.1, a.2.2) :: lvs g (n + 1) r else lvs g (n + 1) r)
    split
    · exact List.mem_cons_of_mem _ ih
    · exact ih

/-- the text of a row of a book -/
def txR (ws : List (List Nat)) (r : List Nat) : List Nat := (r.map fun i => ws.getD i []).flatten
def Val (ws : List (List Nat)) (r : List Nat) : Prop := ∀ i ∈ r, i < ws.length
/-- no text has two readings -/
def Uq (ws : List (List Nat)) : Prop := ∀ r r', Val ws r → Val ws r' → txR ws r = txR ws r' → r = r'
theorem txR_nil (ws : List (List Nat)) : txR ws [] = [] := rfl
theorem txR_cons (ws : List (List Nat)) (i : Nat) (r : List Nat) : txR ws (i :: r) = ws.getD i [] ++ txR ws r := by
  unfold txR
  rw [List.map_cons, List.flatten_cons]
theorem txR_append (ws : List (List Nat)) (r r' : List Nat) : txR ws (r ++ r') = txR ws r ++ txR ws r' := by
  unfold txR
  rw [List.map_append, List.flatten_append]
theorem bka_at {ws : List (List Nat)} {i : Nat} {a : Arc} : (bka ws)[i]? = some a ↔ ∃ u, ws[i]? = some u ∧ a = (0, u, 0) := by
  unfold bka
  rw [List.getElem?_map, Option.map_eq_some_iff]
  exact ⟨fun ⟨u, h, e⟩ => ⟨u, h, e.symm⟩, fun ⟨u, h, e⟩ => ⟨u, h, e.symm⟩⟩
theorem getD_at {ws : List (List Nat)} {i : Nat} {u : List Nat} (h : ws[i]? = some u) : ws.getD i [] = u := by
  rw [List.getD_eq_getElem?_getD, h]
  rfl
theorem at_getD {ws : List (List Nat)} {i : Nat} (h : i < ws.length) : ws[i]? = some (ws.getD i []) := by
  rw [List.getD_eq_getElem?_getD, List.getElem?_eq_getElem h]
  rfl
theorem rd_book {ws : List (List Nat)} {u r : List Nat} : Rd (bka ws) 0 u r ↔ Val ws r ∧ u = txR ws r := by
  constructor
  · intro h
    have : ∀ {g u r}, Rd (bka ws) g u r → Val ws r ∧ u = txR ws r := fun {g u r} h => by
      induction h with
      | nil => exact ⟨(fun i hi => nomatch hi), rfl⟩
      | @cons g i a u r h e p t ih =>
        obtain ⟨v, hv, rfl⟩ := bka_at.mp h
        obtain ⟨ih1, ih2⟩ := ih
        refine ⟨fun j hj => ?_, ?_⟩
        · rcases List.mem_cons.mp hj with rfl | z
          · exact (List.getElem?_eq_some_iff.mp hv).1
          · exact ih1 j z
        · rw [txR_cons, getD_at hv, ← ih2]
          dsimp only at p ⊢
          exact (List.prefix_iff_eq_append.mp p).symm
    exact this h
  · rintro ⟨h, rfl⟩
    induction r with
    | nil => exact .nil
    | cons i r ih =>
      have hi := h i List.mem_cons_self
      refine .cons (a := (0, ws.getD i [], 0)) (bka_at.mpr ⟨_, at_getD hi, rfl⟩) rfl ?_ ?_
      · rw [txR_cons]
        exact List.prefix_append _ _
      · rw [txR_cons]
        dsimp only
        rw [List.drop_left]
        exact ih (fun j hj => h j (List.mem_cons_of_mem _ hj))
theorem plain_uq {ws : List (List Nat)} (hp : Plain ws) (hn : ∀ u ∈ ws, u ≠ []) : Uq ws := by
  have hne : ∀ i, i < ws.length → ws.getD i [] ≠ [] := fun i hi => hn _ (List.mem_of_getElem? (at_getD hi))
  intro r
  induction r with
  | nil =>
    intro r' _ h2 e
    cases r' with
    | nil => rfl
    | cons j r' =>
      rw [txR_nil, txR_cons] at e
      exact absurd (List.append_eq_nil_iff.mp e.symm).1 (hne j (h2 j List.mem_cons_self))
  | cons i r ih =>
    intro r' h1 h2 e
    cases r' with
    | nil =>
      rw [txR_nil, txR_cons] at e
      exact absurd (List.append_eq_nil_iff.mp e).1 (hne i (h1 i List.mem_cons_self))
    | cons j r' =>
      rw [txR_cons, txR_cons] at e
      have hi := h1 i List.mem_cons_self
      have hj := h2 j List.mem_cons_self
      have gi : ws.getD i [] = ws[i] := getD_at (List.getElem?_eq_getElem hi)
      have gj : ws.getD j [] = ws[j] := getD_at (List.getElem?_eq_getElem hj)
      have pp : ws.getD i [] <+: ws.getD j [] ∨ ws.getD j [] <+: ws.getD i [] := List.prefix_or_prefix_of_prefix (l₃ := ws.getD i [] ++ txR ws r) (List.prefix_append _ _) (by rw [e]; exact List.prefix_append _ _)
      have eij : i = j := by
        rcases Nat.lt_trichotomy i j with z | z | z
        · have q := List.pairwise_iff_getElem.mp hp i j hi hj z
          rw [gi, gj] at pp
          exact absurd pp (fun o => o.elim q.1 q.2)
        · exact z
        · have q := List.pairwise_iff_getElem.mp hp j i hj hi z
          rw [gi, gj] at pp
          exact absurd pp (fun o => o.elim q.2 q.1)
      subst eij
      rw [ih r' (fun k hk => h1 k (List.mem_cons_of_mem _ hk)) (fun k hk => h2 k (List.mem_cons_of_mem _ hk)) (List.append_cancel_left e)]
theorem txR_rev (ws : List (List Nat)) (r : List Nat) : txR (ws.map List.reverse) r.reverse = (txR ws r).reverse := by
  induction r with
  | nil => rfl
  | cons i r ih =>
    rw [List.reverse_cons, txR_append, txR_cons, txR_cons, txR_nil, List.append_nil, ih, List.reverse_append]
    congr 1
    rw [List.getD_eq_getElem?_getD, List.getD_eq_getElem?_getD, List.getElem?_map]
    cases ws[i]? <;> rfl
theorem uq_rev {ws : List (List Nat)} (h : Uq ws) : Uq (ws.map List.reverse) := fun r r' h1 h2 e => by
  have v : ∀ r, Val (ws.map List.reverse) r → Val ws r.reverse := fun r hr i hi => by
    have := hr i (List.mem_reverse.mp hi)
    rw [List.length_map] at this
    exact this
  have q : ∀ r, txR ws r.reverse = (txR (ws.map List.reverse) r).reverse := fun r => by
    have := txR_rev ws r.reverse
    rw [List.reverse_reverse] at this
    rw [this, List.reverse_reverse]
  have := h r.reverse r'.reverse (v r h1) (v r' h2) (by rw [q, q, e])
  exact List.reverse_inj.mp this
/-- a rest that comes up tells two rows that go apart at their first arc -/
theorem rch_rows {ws : List (List Nat)} {ms : List Nat} {r : Rest} (h : Rch (bka ws) ms r) : ∃ i j p q, i ≠ j ∧ Val ws (i :: p) ∧ Val ws (j :: q) ∧ txR ws (i :: p) ++ r.2.2 = txR ws (j :: q) := by
  have lt : ∀ {g} {e : Nat × List Nat × Nat}, e ∈ lvs g 0 (bka ws) → e.1 < ws.length ∧ ws.getD e.1 [] = e.2.1 := fun {g e} he => by
    have a1 := (lvs_at he).2
    rw [Nat.sub_zero] at a1
    obtain ⟨u, hu, e1⟩ := bka_at.mp a1
    have e2 : e.2.1 = u := congrArg (fun x : Arc => x.2.1) e1
    exact ⟨(List.getElem?_eq_some_iff.mp hu).1, by rw [e2]; exact getD_at hu⟩
  have pp : ∀ {x w : List Nat}, pre x w = true → w ++ x.drop w.length = x := fun {x w} c => List.prefix_iff_eq_append.mp (pre_iff'.mp c)
  induction h with
  | @start s hs =>
    obtain ⟨g, _, h1⟩ := List.mem_flatMap.mp hs
    obtain ⟨e, he, h2⟩ := List.mem_flatMap.mp h1
    obtain ⟨f, hf, h3⟩ := List.mem_flatMap.mp h2
    unfold cell at h3
    split at h3
    · rename_i c
      obtain ⟨c1, c2⟩ := c
      rw [List.mem_singleton] at h3
      subst h3
      obtain ⟨l1, q1⟩ := lt he
      obtain ⟨l2, q2⟩ := lt hf
      refine ⟨e.1, f.1, [], [], c1, fun k hk => by rw [List.mem_singleton.mp hk]; exact l1, fun k hk => by rw [List.mem_singleton.mp hk]; exact l2, ?_⟩
      rw [txR_cons, txR_cons, txR_nil, List.append_nil, List.append_nil, q1, q2]
      exact pp c2
    · cases h3
  | @step r s hr hs ih =>
    obtain ⟨i, j, p, q, hij, v1, v2, e⟩ := ih
    obtain ⟨a, ha, h1⟩ := List.mem_flatMap.mp hs
    obtain ⟨l1, q1⟩ := lt ha
    have hp' : Val ws (i :: (p ++ [a.1])) := fun k hk => by
      rw [← List.cons_append] at hk
      rcases List.mem_append.mp hk with z | z
      · exact v1 k z
      · rw [List.mem_singleton.mp z]; exact l1
    have tx' : txR ws (i :: (p ++ [a.1])) = txR ws (i :: p) ++ a.2.1 := by
      rw [← List.cons_append, txR_append, txR_cons ws a.1, txR_nil, List.append_nil, q1]
    unfold stepOf at h1
    split at h1
    · rename_i c
      rw [List.mem_singleton] at h1
      subst h1
      refine ⟨i, j, p ++ [a.1], q, hij, hp', v2, ?_⟩
      rw [tx', List.append_assoc]
      dsimp only
      rw [pp c]
      exact e
    · split at h1
      · rename_i c
        rw [List.mem_singleton] at h1
        subst h1
        refine ⟨j, i, q, p ++ [a.1], hij.symm, v2, hp', ?_⟩
        rw [tx', ← e, List.append_assoc]
        dsimp only
        rw [pp c]
      · cases h1
theorem uq_even {ws : List (List Nat)} (hu : Uq ws) {ms : List Nat} {r : Rest} (h : Rch (bka ws) ms r) : evenB r = false := by
  cases c : evenB r with
  | false => rfl
  | true =>
    obtain ⟨i, j, p, q, hij, v1, v2, e⟩ := rch_rows h
    unfold evenB at c
    rw [Bool.and_eq_true] at c
    have hl : r.2.2 = [] := eq_of_beq c.2
    rw [hl, List.append_nil] at e
    have := hu _ _ v1 v2 e
    injection this with h1 _
    exact absurd h1 hij
theorem twice_even {ws : List (List Nat)} {ms : List Nat} (hm : 0 ∈ ms) {i j : Nat} {u : List Nat} (hi : ws[i]? = some u) (hj : ws[j]? = some u) (hij : i ≠ j) : ∃ r, Rch (bka ws) ms r ∧ evenB r = true := by
  have b1 := mem_lvs (n := 0) (bka_at.mpr ⟨u, hi, rfl⟩)
  have b2 := mem_lvs (n := 0) (bka_at.mpr ⟨u, hj, rfl⟩)
  rw [Nat.zero_add] at b1 b2
  have hc : pre u u = true := pre_iff'.mpr (List.prefix_refl _)
  have hs : ((0, 0, u.drop u.length), 0, i, j) ∈ startsL (bka ws) ms := List.mem_flatMap.mpr ⟨0, hm, List.mem_flatMap.mpr ⟨_, b1, List.mem_flatMap.mpr ⟨_, b2, by
    unfold cell
    rw [if_pos ⟨hij, hc⟩]
    exact List.mem_singleton.mpr rfl⟩⟩⟩
  refine ⟨_, .start hs, ?_⟩
  dsimp only
  rw [List.drop_of_length_le (Nat.le_refl _)]
  rfl
theorem rdg_nodup {as : List Arc} (hw : Wd as) : ∀ (n g : Nat) (u : List Nat), u.length ≤ n → (rdg as g u).Nodup
  | 0, g, u, h => by
    have : u = [] := List.length_eq_zero_iff.mp (by omega)
    subst this
    rw [rdg_nil]
    simp
  | n + 1, g, u, h => by
    by_cases c : u = []
    · subst c; exact rdg_nodup hw 0 g [] (Nat.le_refl _)
    · rw [rdg_step hw g c]
      unfold List.Nodup
      rw [List.pairwise_flatMap]
      constructor
      · intro i hi
        obtain ⟨a, ha, _⟩ := mem_liv.mp hi
        rw [ha]
        dsimp only
        have w1 := hw a (List.mem_of_getElem? ha)
        refine List.pairwise_map.mpr ((rdg_nodup hw n a.2.2 (u.drop a.2.1.length) (by rw [List.length_drop]; omega)).imp fun hne z => hne ?_)
        injection z
      · have nd : (liv as false u g).Nodup := by
          unfold liv livI
          exact List.Pairwise.filter _ List.nodup_range
        refine nd.imp_of_mem fun {i j} hi hj hij x hx y hy => ?_
        obtain ⟨a, ha, _⟩ := mem_liv.mp hi
        obtain ⟨b, hb, _⟩ := mem_liv.mp hj
        rw [ha] at hx
        rw [hb] at hy
        obtain ⟨x', _, rfl⟩ := List.mem_map.mp hx
        obtain ⟨y', _, rfl⟩ := List.mem_map.mp hy
        intro z
        injection z with z1 _
        exact hij z1
theorem uq_rdg {ws : List (List Nat)} (hw : Wd (bka ws)) (hu : Uq ws) (u : List Nat) : rdg (bka ws) 0 u = [] ∨ ∃ r, rdg (bka ws) 0 u = [r] ∧ Val ws r ∧ u = txR ws r := by
  have nd := rdg_nodup hw u.length 0 u (Nat.le_refl _)
  have mem : ∀ r, r ∈ rdg (bka ws) 0 u → Val ws r ∧ u = txR ws r := fun r hr => rd_book.mp ((mem_rdg hw u.length 0 u r (Nat.le_refl _)).mp hr)
  match hr : rdg (bka ws) 0 u with
  | [] => exact .inl rfl
  | [r] => exact .inr ⟨r, rfl, mem r (by rw [hr]; simp)⟩
  | r :: r' :: l =>
    exfalso
    rw [hr] at nd
    have h1 := mem r (by rw [hr]; simp)
    have h2 := mem r' (by rw [hr]; simp)
    have := hu r r' h1.1 h2.1 (by rw [← h1.2, ← h2.2])
    rw [this] at nd
    simp at nd
theorem rdg_of {ws : List (List Nat)} (hw : Wd (bka ws)) (hu : Uq ws) {r : List Nat} (hr : Val ws r) : rdg (bka ws) 0 (txR ws r) = [r] := by
  have hm : r ∈ rdg (bka ws) 0 (txR ws r) := (mem_rdg hw _ 0 _ r (Nat.le_refl _)).mpr (rd_book.mpr ⟨hr, rfl⟩)
  rcases uq_rdg hw hu (txR ws r) with h | ⟨r', h, _⟩
  · rw [h] at hm; cases hm
  · rw [h] at hm ⊢
    rw [List.mem_singleton.mp hm]
theorem val_len {ws : List (List Nat)} (hn : ∀ u ∈ ws, 1 ≤ u.length) : ∀ {r : List Nat}, Val ws r → r.length ≤ (txR ws r).length
  | [], _ => Nat.zero_le _
  | i :: r, h => by
    have h1 := val_len hn (r := r) fun j hj => h j (List.mem_cons_of_mem _ hj)
    have h2 := hn _ (List.mem_of_getElem? (at_getD (h i List.mem_cons_self)))
    rw [txR_cons, List.length_append, List.length_cons]
    omega
theorem wd_book {sg : List Nat} {ws : List (List Nat)} (h : ∀ u ∈ ws, Word sg u) : Wd (bka ws) := fun a ha => by
  obtain ⟨u, hu, rfl⟩ := List.mem_map.mp ha
  exact (h u hu).1
end J


set_option Elab.async false
set_option linter.all false
set_option maxRecDepth 100000
set_option maxHeartbeats 4000000
namespace J
open PySem L2
/-! ### apart -/
def abcdL : List Nat := [97, 98, 99, 100]
theorem abcdL_S : Str.ofString "abcd" = SX.S abcdL := by decide +kernel
def ltr (r : List Nat) : List Nat := r.map fun i => abcdL.getD i 0
noncomputable def outU (ws : List (List Nat)) (u : List Nat) : List Nat := ltr ((rdg (bka ws) 0 u).headD [])
theorem abcdL_signs {n : Nat} (h1 : 1 ≤ n) (h4 : n ≤ 4) : Signs (abcdL.take n) ∧ (abcdL.take n).length = n := by
  have : n = 1 ∨ n = 2 ∨ n = 3 ∨ n = 4 := by omega
  rcases this with rfl | rfl | rfl | rfl <;> (unfold Signs; decide)
theorem ltr_at {n i : Nat} (h : i < n) (h4 : n ≤ 4) : (abcdL.take n)[i]? = some (abcdL.getD i 0) ∧ abcdL.getD i 0 ∈ abcdL.take n := by
  have e : (abcdL.take n)[i]? = some (abcdL.getD i 0) := by
    have : n = 1 ∨ n = 2 ∨ n = 3 ∨ n = 4 := by omega
    have h2 : i = 0 ∨ i = 1 ∨ i = 2 ∨ i = 3 := by omega
    rcases this with rfl | rfl | rfl | rfl <;> rcases h2 with rfl | rfl | rfl | rfl <;> first | rfl | omega
  exact ⟨e, List.mem_of_getElem? e⟩
def spAlikeL (C CU : Addr) : Sp := fun vs H Q E => ∃ (p q : Addr) (sg lt : List Nat) (us us' : List V) (ws ws' : List (List Nat)), vs = [.ref p, .ref q] ∧ LoomAt C H p sg us (bka ws) ∧ LoomAt C H q lt us' (bka ws') ∧ ((sg ≠ lt ∧ ∀ H', Same H H' → E (.ref CU) none H') ∨ (sg = lt ∧ ∀ H', Same H H' → Q .non H'))
def spApart (C CN CL CU : Addr) : Sp := fun vs H Q E => ∃ (p q : Addr) (sg lt : List Nat) (us us' : List V) (os ws : List (List Nat)), vs = [.ref p, .ref q] ∧ LoomAt C H p sg us (bka os) ∧ LoomAt C H q lt us' (bka ws) ∧
  ((sg ≠ lt ∧ ∀ H', Same H H' → E (.ref CU) none H') ∨ sg = lt ∧ (
  ((∃ (i j : Nat) (u : List Nat), i ≠ j ∧ ws[i]? = some u ∧ ws[j]? = some u) ∧ (∀ H', Same H H' → E (.ref CN) none H') ∨
   Uq ws ∧ 4 < ws.length ∧ (∀ H' e, Same H H' → H' e = some (.xd (fs_LimitExceeded (.int 4))) → E (.ref CL) (some e) H') ∨
   Uq ws ∧ ws.length ≤ 4 ∧ ((∃ u ∈ os, rdg (bka ws) 0 u = []) → ∀ H', Same H H' → Q .non H') ∧
     ((∀ u ∈ os, rdg (bka ws) 0 u ≠ []) → ∀ H' b us, Same H H' → H b = none → LoomAt C H' b (abcdL.take ws.length) us (bka (os.map (outU ws))) → Q (.ref b) H'))))
theorem strS_injL {u v : List Nat} (h : SX.S u = SX.S v) : u = v := SX.S_inj h
theorem kd_bookL (ws : List (List Nat)) : kdB (bka ws) = true := by
  unfold kdB bka
  rw [List.all_map]
  simp
theorem flat_onesL (l : List Nat) : (l.map fun c => [c]).flatten = l := by induction l with
  | nil => rfl
  | cons a l ih => simpa using ih
section
variable {P : Program} {w : World} {K : PySem.W.Frag} {mg : Str → Option Value} {base : Heap}
theorem ok_check_alikeL (T : Tx K mg) : FnOk P w K mg base (L2.CX P w) 3 T.f_check_alike T.fd_check_alike P_check_alike (spAlikeL T.C_Loom T.C_Unlike) := by
  have G_check_book : FnOk P w K mg base CX0 2 T.f_check_book T.fd_check_book P_check_book (spChkBook T.C_Loom) := ok_check_book T
  refine T.F_check_alike.okX sc_check_alike (fun vs H Q E h => ?_) (fun cdv A outer s H vs Q E hr h => ?_)
  · obtain ⟨p, q, sg, lt, us, us', ws, ws', rfl, _⟩ := h
    rfl
  · obtain ⟨p, q, sg, lt, us, us', ws, ws', rfl, hp, hq, h⟩ := h
    refine ⟨_, (pss_cons (ps_expr (pe_call G_check_book (hr.mono (by decide)) rfl T.m_check_book T.F_check_book.kp T.b_check_book .nil pass0 (pa_cons (pv 0) pa_nil)))
        (pss_cons (ps_expr (pe_call G_check_book (hr.mono (by decide)) rfl T.m_check_book T.F_check_book.kp T.b_check_book .nil pass0 (pa_cons (pv 1) pa_nil)))
        (pss_one (ps_if (pt_cmpR op_ne (pe_fld (pv 0) rfl) (pe_fld (pv 1) rfl) (nomark _)) (pss_one (ps_raise rfl (takes_of rfl rfl rfl rfl) (pmk_own0 PySem.F.excBase_Exception T.in_Unlike T.g_Unlike T.kc_Unlike (raises_own T.E_Unlike.hs T.ty_Unlike) rfl))) pss_nil)))), ?_⟩
    refine ⟨_, rfl, p, sg, us, _, rfl, hp, kd_bookL ws, fun H1 s1 => ?_⟩
    refine ⟨_, rfl, q, lt, us', _, rfl, hq.same s1, kd_bookL ws', fun H2 s2 => ?_⟩
    have s12 := s1.trans s2
    obtain ⟨dp, Tp, hp2, _, _, _, _⟩ := hp.same s12
    obtain ⟨dq, Tq, hq2, _, _, _, _⟩ := hq.same s12
    refine ⟨_, rfl, p, _, dp, _, _, rfl, hp2, T.cl_Loom, T.na_Loom_signs, lf_signs _ _, ?_⟩
    refine ⟨_, rfl, q, _, dq, _, _, rfl, hq2, T.cl_Loom, T.na_Loom_signs, lf_signs _ _, ?_⟩
    rcases h with ⟨hne, k⟩ | ⟨heq, k⟩
    · refine ⟨rfl, true, congrArg V.bl ?_, iteT (k H2 s12)⟩
      have n : ¬ (V.str (SX.S sg) = V.str (SX.S lt)) := fun z => by
        injection z with z
        exact hne (strS_injL z)
      rw [decide_eq_false n]
      rfl
    · subst heq
      exact ⟨rfl, false, congrArg V.bl (by simp), iteF (k H2 s12)⟩
theorem ok_apart (T : Tx K mg) : FnOk P w K mg base (L2.CX P w) 7 T.f_apart T.fd_apart P_apart (spApart T.C_Loom T.C_NotOneWay T.C_LimitExceeded T.C_Unlike) := by
  have G_check_alike : FnOk P w K mg base (L2.CX P w) 3 T.f_check_alike T.fd_check_alike P_check_alike (spAlikeL T.C_Loom T.C_Unlike) := ok_check_alikeL T
  have G_one_way : FnOk P w K mg base CX0 4 T.f_one_way T.fd_one_way P_one_way (spOneWay T.C_Loom) := ok_one_way T
  have G_words : FnOk P w K mg base CX0 3 T.f_words T.fd_words P_words (spPWords T.C_Loom) := ok_words T
  have G_readings : FnOk P w K mg base CX0 3 T.f_readings T.fd_readings P_readings (spReadings T.C_Loom) := ok_readings T
  have G_book : FnOk P w K mg base CX0 6 T.f_book T.fd_book P_book (spBook T.C_Loom) := ok_book T
  refine T.F_apart.okX sc_apart (fun vs H Q E h => ?_) (fun cdv A outer s H vs Q E hr h => ?_)
  · obtain ⟨p, q, sg, lt, us, us', os, ws, rfl, _⟩ := h
    rfl
  · obtain ⟨p, q, sg, lt, us, us', os, ws, rfl, hp, hq, h⟩ := h
    refine ⟨_, (pss_cons (ps_expr (pe_callS G_check_alike (hr.mono (by decide)) rfl T.m_check_alike T.F_check_alike.kp T.b_check_alike (fun σ => passAt (takes_of rfl rfl rfl rfl) σ) (pa_cons (pv 0) (pa_cons (pv 1) pa_nil))))
        (pss_cons (ps_if (pt_not (pt_val (pe_call G_one_way (hr.mono (by decide)) rfl T.m_one_way T.F_one_way.kp T.b_one_way .nil pass0 (pa_cons (pv 1) pa_nil)))) (pss_one (ps_raise rfl (takes_of rfl rfl rfl rfl) (pmk_own0 PySem.F.excBase_Exception T.in_NotOneWay T.g_NotOneWay T.kc_NotOneWay (raises_own T.E_NotOneWay.hs T.ty_NotOneWay) rfl))) pss_nil)
        (pss_cons (ps_if (pt_cmpR op_gt (pe_callB (call_len_seqK (K := K) rfl) rfl T.n_len (by decide +kernel) (pa_cons (pe_fld (pv 1) rfl) pa_nil)) (pe_glob (v := V.int 4) rfl T.g_MOST_SIGNS ⟨_, rfl⟩) (nomark _)) (pss_one (ps_raise rfl (takes_of rfl rfl rfl rfl) (pmk_LimitExceeded (k := 3) T.X_LimitExceeded (hr.mono (by decide)) (pa_cons (pe_glob (v := V.int 4) rfl T.g_MOST_SIGNS ⟨_, rfl⟩) pa_nil)))) pss_nil)
        (pss_cons (ps_set (i := 2) sc_apart.nd rfl (Or.inr rfl) (pe_slice sl_str (pe_glob (v := V.str "abcd") rfl T.g_LETTERS ⟨_, rfl⟩) po_none (po_some (pe_callB (call_len_seqK (K := K) rfl) rfl T.n_len (by decide +kernel) (pa_cons (pe_fld (pv 1) rfl) pa_nil)))))
        (pss_cons (ps_set (i := 3) sc_apart.nd rfl (Or.inl rfl) (pe_lst pa_nil))
        (pss_cons (ps_for (passes_of rfl) rfl (pi_list (pe_call G_words (hr.mono (by decide)) rfl T.m_words T.F_words.kp T.b_words .nil pass0 (pa_cons (pv 0) pa_nil))) (pg_name (i := 4) sc_apart.nd rfl (Or.inl rfl)) (pss_cons (ps_set (i := 5) sc_apart.nd rfl (Or.inl rfl) (pe_call G_readings (hr.mono (by decide)) rfl T.m_readings T.F_readings.kp T.b_readings .nil pass0 (pa_cons (pv 1) (pa_cons pe_int (pa_cons (pv 4) pa_nil)))))
        (pss_cons (ps_if (pt_cmpR op_eq (pe_callB (call_len_seqK (K := K) rfl) rfl T.n_len (by decide +kernel) (pa_cons (pv 5) pa_nil)) pe_int (nomark _)) (pss_one (ps_ret pe_non)) pss_nil)
        (pss_one (ps_expr (pe_bm PySem.F.plainAttrs_list PySem.F.slot_list_append PySem.F.type_list_append mt_append (pv 3) (pa_cons (pe_join pe_str (pe_lc (own := [("number", 6)]) (g := (gName 6)) rfl sc_apart.nd (pi_list (pe_ix (ix_listK (K := K) rfl) (pv 5) pe_int (fun _ _ => rfl))) (blkOk_by (N := N_apart) (sc := defScope s_apart) (by decide +kernel)) (fun _ _ _ _ _ => (pg_name (i := 6) sc_apart.nd rfl (Or.inl rfl))) (fun _ _ _ _ _ => pts_nil) (fun _ _ _ _ _ => (pe_ix ix_str (pv 2) (pv 6) (fun _ _ => rfl))))) pa_nil)))))))
        (pss_one (ps_ret (pe_call G_book (hr.mono (by decide)) rfl T.m_book T.F_book.kp T.b_book .nil pass0 (pa_cons (pv 2) (pa_cons (pv 3) pa_nil))))))))))), ?_⟩
    obtain ⟨_, _, _, _, _, okq, _⟩ := id hq
    obtain ⟨w1, w2, w3⟩ := bka_words okq
    obtain ⟨_, _, _, _, _, okp, _⟩ := id hp
    obtain ⟨o1, o2, o3⟩ := bka_words okp
    have hwd := wd_book w3
    rcases h with ⟨hne, k⟩ | ⟨heq, h⟩
    · exact ⟨_, rfl, _, rfl, p, q, sg, lt, us, us', os, ws, rfl, hp, hq, .inl ⟨hne, k⟩⟩
    subst heq
    refine ⟨_, rfl, _, rfl, p, q, sg, sg, us, us', os, ws, rfl, hp, hq, .inr ⟨rfl, fun H1 s1 => ?_⟩⟩
    refine ⟨_, rfl, q, sg, us', _, rfl, hq.same s1, fun H2 b ms s2 hreach hms hb => ⟨b, rfl, ?_⟩⟩
    have S2 := s1.trans s2
    have al : (bka ws).length = ws.length := List.length_map _
    rcases h with ⟨⟨i, j, u, hij, hi, hj⟩, k⟩ | ⟨hu, h4, k⟩ | ⟨hu', h4, kn, kb⟩
    · obtain ⟨r, hr1, hr2⟩ := twice_even (ms := ms) ((hreach 0).mpr .zero) hi hj hij
      have hbf : b = false := by
        cases z : b with
        | false => rfl
        | true => rw [hb.mp z r hr1] at hr2; cases hr2
      subst hbf
      exact iteT (k H2 S2)
    · have hbt : b = true := hb.mpr fun r hr => uq_even hu hr
      subst hbt
      obtain ⟨dq, Tq, hq2, hTq, harc, _, _⟩ := hq.same S2
      refine iteF ⟨_, rfl, q, _, dq, _, _, rfl, hq2, T.cl_Loom, T.na_Loom_arcs, lf_arcs _ _, Tq, _, rfl, .inr (SqT.of hTq), _, _, rfl, rfl, _, rfl, ite2 (fun c => ?_) fun c => ?_⟩
      · refine ⟨_, rfl, fun e he => ?_⟩
        exact k _ e (S2.trans (Same.new _ he)) upd_same
      · exact absurd (decide_eq_true (by have := harc.1; omega)) c
    · have hbt : b = true := hb.mpr fun r hr => uq_even hu' hr
      subst hbt
      obtain ⟨dq, Tq, hq2, hTq, harc, _, _⟩ := hq.same S2
      have hul := harc.1
      rw [al] at hul
      refine iteF ⟨_, rfl, q, _, dq, _, _, rfl, hq2, T.cl_Loom, T.na_Loom_arcs, lf_arcs _ _, Tq, _, rfl, .inr (SqT.of hTq), _, _, rfl, rfl, _, rfl, ite2 (fun c => ?_) fun c => ?_⟩
      · have := of_decide_eq_true c
        omega
      · clear c
        obtain ⟨hsl, hsll⟩ := abcdL_signs w1 h4
        have hcut : cutS (SX.S abcdL) none (some ((us'.length : Nat) : Int)) = SX.S (abcdL.take ws.length) := by
          unfold cutS
          rw [HT.sIx_none, HT.sIx_nat, SX.S_len, hul]
          show SX.S ((abcdL.drop 0).take (min ws.length abcdL.length - 0)) = _
          rw [List.drop_zero, Nat.sub_zero, Nat.min_eq_left (by show ws.length ≤ 4; exact h4)]
        have vsz : (SX.S abcdL).length ≤ sizeLine := le_size (by decide)
        refine ⟨_, rfl, q, _, dq, _, _, rfl, hq2, T.cl_Loom, T.na_Loom_arcs, lf_arcs _ _, Tq, _, rfl, .inr (SqT.of hTq), _, rfl, ?_⟩
        rw [abcdL_S]
        refine ⟨_, rfl, vsz, ?_⟩
        rw [hcut]
        refine ⟨le_size (by simp), fun M hM => ?_⟩
        have s3 : Same H2 (upd H2 M (.lst [])) := Same.new _ hM
        have gM : upd H2 M (.lst []) M = some (.lst (txts [])) := upd_same
        have hM0 : H2 M = none := hM
        generalize upd H2 M (.lst []) = H3 at *
        have S3 := S2.trans s3
        refine ⟨_, rfl, p, sg, us, os, rfl, hp.same S3, fun H4 L s4 hL0 hL => ⟨L, rfl, ⟨_, SqL.of hL⟩, ?_⟩⟩
        have nLM : L ≠ M := fun z => by rw [z, gM] at hL0; cases hL0
        have gM4 := s4 _ _ gM
        have S4 := S3.trans s4
        refine for_list (K := K) (a := L) (xs := txts os) (fun i σ H' => ∃ v4 v5 : Option V, σ = [some (.ref p), some (.ref q), some (.str (SX.S (abcdL.take ws.length))), some (.ref M), v4, v5, none] ∧ H' M = some (.lst (txts ((os.take i).map (outU ws)))) ∧ (∀ u ∈ os.take i, rdg (bka ws) 0 u ≠ []) ∧ H' L = some (.lst (txts os)) ∧ Same H2 H') ?_ ?_ ?_ ?_
        · exact ⟨_, _, rfl, gM4, by simp, hL, s3.trans s4⟩
        · rintro i σ H' _ ⟨_, _, _, _, _, hL', _⟩
          exact SqL.of hL'
        · rintro i y σ H5 hy ⟨v4, v5, rfl, hM5, hne, hL5, s5⟩
          obtain ⟨u, hu, rfl⟩ := txt_at hy
          have hum := List.mem_of_getElem? hu
          have huw := o3 u hum
          have hq5 := hq.same (S2.trans s5)
          have one : (rdg (bka ws) 0 u).length ≤ 200 := by
            rcases uq_rdg hwd hu' u with z | ⟨r, z, _⟩ <;> rw [z] <;> simp
          refine ⟨_, rfl, _, rfl, q, sg, us', _, 0, u, rfl, hq5, by omega, by have := huw.2.1; omega, huw.2.2, one, fun H6 fr vs6 s6 hfr0 hfr hrows => ?_⟩
          refine ⟨_, rfl, fr, _, rfl, .inl (SqL.of hfr), rfl, _, rfl, ite2 (fun c => ?_) fun c => ?_⟩
          · have e0 : V.int (vs6.length : Int) = V.int 0 := of_decide_eq_true c
            have e1 : vs6.length = 0 := by injection e0 with e0; omega
            have e2 : rdg (bka ws) 0 u = [] := List.length_eq_zero_iff.mp (by rw [← hrows.1, e1])
            exact kn ⟨u, hum, e2⟩ H6 ((S2.trans s5).trans s6)
          · rcases uq_rdg hwd hu' u with z | ⟨r, z, hv, hut⟩
            · rw [z] at hrows
              exact absurd (decide_eq_true (by rw [hrows.1]; rfl)) c
            · rw [z] at hrows
              obtain ⟨ra, h1, h2, h3, _⟩ := hrows.2 0 r rfl
              have hM6 := s6 _ _ hM5
              have s26 := s5.trans s6
              have rl : r.length ≤ 12 := by
                have := val_len (fun v hv => (w3 v hv).1) hv
                rw [← hut] at this
                have := huw.2.1
                omega
              refine ⟨_, rfl, .inl ⟨rfl, _, SqL.of hM6⟩, ?_⟩
              have al4 : (abcdL.take ws.length).length = ws.length := hsll
              refine ⟨⟨_, rfl⟩, _, rfl, fr, _, _, _, rfl, rfl, SqL.of hfr, atI_nat (j := 0) h1, ra, rfl, ⟨_, SqL.of h2⟩, fun D hD => lc_list (K := K) (a := ra) (xs := nats r) (fun j H' => H' D = some (.lst (((r.take j).map fun i => SX.S [abcdL.getD i 0]).map V.str)) ∧ Same H6 H') ⟨upd_same, Same.new _ hD⟩ (fun j H' _ ⟨_, sm⟩ => SqL.of (sm _ _ h2)) ?_ ?_⟩
              · rintro j y H7 hy2 ⟨hDl, sm⟩
                rw [List.getElem?_map] at hy2
                obtain ⟨n, hn, rfl⟩ := Option.map_eq_some_iff.mp hy2
                obtain ⟨la, lb⟩ := ltr_at (hv n (List.mem_of_getElem? hn)) h4
                refine ⟨rfl, _, rfl, _, rfl, _, _, abcdL.getD n 0, rfl, rfl, le_size (by rw [SX.S_len, al4]; omega), atI_nat (by simpa using la), _, hDl, lt_size (by rw [List.length_map, List.length_map, List.length_take]; omega), ?_, sm.updNew hD⟩
                rw [upd_same, ← take_snoc hn, List.map_append, List.map_append]
                rfl
              · rintro H7 ⟨hDl, sm⟩
                rw [show (nats r).length = r.length from List.length_map _, List.take_length] at hDl
                refine ⟨_, _, r.map fun i => SX.S [abcdL.getD i 0], rfl, rfl, .inl (SqL.of hDl), ?_, ?_⟩
                · have : ((r.map fun i => SX.S [abcdL.getD i 0]).map (·.length)).sum = r.length := by
                    clear hDl hrows h2 h1 z hv hut
                    induction r with
                    | nil => rfl
                    | cons a b ih =>
                      rw [List.map_cons, List.map_cons, List.sum_cons, ih (by rw [List.length_cons] at rl; omega), SX.S_len, List.length_singleton, List.length_cons]
                      omega
                  rw [this, List.length_map]
                  show r.length + r.length * 0 ≤ 16777216
                  omega
                · have ej : Txt.join (Str.ofString "") (r.map fun i => SX.S [abcdL.getD i 0]) = SX.S (ltr r) := by
                    have e : (r.map fun i => SX.S [abcdL.getD i 0]) = (r.map fun i => [abcdL.getD i 0]).map SX.S := by rw [List.map_map]; rfl
                    rw [e, emptyS, join_flat]
                    congr 1
                    have := flat_onesL (ltr r)
                    unfold ltr at this ⊢
                    rw [List.map_map] at this
                    exact this
                  rw [ej]
                  have hM7 := sm _ _ hM6
                  refine ⟨M, _, _, rfl, rfl, hM7, lt_size (by rw [txts_len, List.length_map, List.length_take]; omega), ?_⟩
                  refine ⟨_, _, rfl, ?_, fun v hv2 => ?_, ?_, (s26.trans sm).updNew hM0⟩
                  · rw [upd_same, ← take_snoc hu, List.map_append]
                    have eo : outU ws u = ltr r := by unfold outU; rw [z]; rfl
                    rw [← eo]
                    unfold txts
                    rw [List.map_append]
                    rfl
                  · rw [← take_snoc hu] at hv2
                    rcases List.mem_append.mp hv2 with q1 | q1
                    · exact hne v q1
                    · rw [List.mem_singleton.mp q1, z]
                      simp
                  · rw [upd_ne nLM]
                    exact sm _ _ (s6 _ _ hL5)
        · rintro σ H5 ⟨v4, v5, rfl, hM5, hne, hL5, s5⟩
          rw [txts_len, List.take_length] at hM5 hne
          have hout : ∀ u ∈ os, Word (abcdL.take ws.length) (outU ws u) := fun u hu => by
            rcases uq_rdg hwd hu' u with z | ⟨r, z, hv, hut⟩
            · exact absurd z (hne u hu)
            · unfold outU
              rw [z]
              have l1 := val_len (fun v hv => (w3 v hv).1) hv
              rw [← hut] at l1
              have l2 := o3 u hu
              refine ⟨?_, ?_, fun c hc => ?_⟩
              · show 1 ≤ (ltr r).length
                unfold ltr
                rw [List.length_map]
                cases r with
                | nil =>
                  rw [txR_nil] at hut
                  have := l2.1
                  rw [hut] at this
                  simp at this
                | cons a b => simp
              · show (ltr r).length ≤ 12
                unfold ltr
                rw [List.length_map]
                have := l2.2.1
                omega
              · obtain ⟨i, hi, rfl⟩ := List.mem_map.mp hc
                exact (ltr_at (hv i hi) h4).2
          refine ⟨_, rfl, _, rfl, M, _, os.map (outU ws), rfl, .inl hM5, hsl, by rw [List.length_map]; exact o1, by rw [List.length_map]; exact o2, fun u hu => ?_, fun H6 b us6 s6 hb0 hLb => ?_⟩
          · obtain ⟨v, hv, rfl⟩ := List.mem_map.mp hu
            exact hout v hv
          · exact kb hne H6 b us6 ((S2.trans s5).trans s6) ((S2.trans s5).free hb0) hLb
end
end J


set_option Elab.async false
set_option linter.all false
set_option maxRecDepth 100000
set_option maxHeartbeats 4000000
namespace J
open PySem L2
/-! ### the law's spelled -/
/-- what a place of the list holds -/
def ov : Option (List Nat) → V
  | none => .non
  | some r => .str (SX.S (ltr r))
theorem ov_non {o : Option (List Nat)} : ov o = .non ↔ o = none := by
  cases o with
  | none => exact ⟨fun _ => rfl, fun _ => rfl⟩
  | some r => exact ⟨fun h => (nomatch h), fun h => (nomatch h)⟩
/-- the row that spells a text, if there is one -/
noncomputable def due (ws : List (List Nat)) (x : List Nat) : Option (List Nat) := (rdg (bka ws) 0 x).head?
/-- what stands when the words below j are tried at i -/
structure Dp5 (ws : List (List Nat)) (x : List Nat) (os : List (Option (List Nat))) (i j : Nat) : Prop where
  len : os.length = x.length + 1
  zero : ∃ q, os[0]? = some (some q)
  ok : ∀ e q, os[e]? = some (some q) → Val ws q ∧ txR ws q = x.take e
  all : ∀ r l e, Val ws (r ++ [l]) → txR ws (r ++ [l]) = x.take e → e ≤ x.length → ((txR ws r).length < i ∨ (txR ws r).length = i ∧ l < j) → ∃ q, os[e]? = some (some q)
theorem val_snoc {ws : List (List Nat)} {r : List Nat} {l : Nat} : Val ws (r ++ [l]) ↔ Val ws r ∧ l < ws.length := by
  constructor
  · intro h
    exact ⟨fun i hi => h i (by simp [hi]), h l (by simp)⟩
  · rintro ⟨h1, h2⟩ i hi
    rcases List.mem_append.mp hi with q | q
    · exact h1 i q
    · rw [List.mem_singleton.mp q]; exact h2
theorem txR_one (ws : List (List Nat)) (l : Nat) : txR ws [l] = ws.getD l [] := by
  rw [txR_cons, txR_nil, List.append_nil]
theorem Dp5.start (ws : List (List Nat)) (x : List Nat) : Dp5 ws x (some [] :: List.replicate x.length none) 0 0 := by
  refine ⟨by simp, ⟨[], rfl⟩, fun e q h => ?_, fun r l e _ _ _ h => ?_⟩
  · cases e with
    | zero =>
      have : q = [] := by simpa using h.symm
      subst this
      exact ⟨fun i hi => (nomatch hi), by rw [txR_nil, List.take_zero]⟩
    | succ e =>
      rw [List.getElem?_cons_succ, List.getElem?_replicate] at h
      split at h <;> cases h
  · rcases h with h | ⟨_, h⟩
    · exact absurd h (Nat.not_lt_zero _)
    · exact absurd h (Nat.not_lt_zero _)
/-- a row whose text ends at i is known there -/
theorem Dp5.known {ws : List (List Nat)} {x : List Nat} {os : List (Option (List Nat))} {i j : Nat} (D : Dp5 ws x os i j) (hn : ∀ u ∈ ws, 1 ≤ u.length) {r : List Nat} (hv : Val ws r) (hi : i ≤ x.length) (ht : txR ws r = x.take i) : ∃ q, os[i]? = some (some q) := by
  rcases List.eq_nil_or_concat r with rfl | ⟨r', l, e⟩
  · rw [txR_nil] at ht
    have : i = 0 := by
      have := congrArg List.length ht
      rw [List.length_nil, List.length_take] at this
      omega
    subst this
    exact D.zero
  · rw [List.concat_eq_append] at e
    subst e
    refine D.all r' l i hv ht hi (.inl ?_)
    obtain ⟨h1, h2⟩ := val_snoc.mp hv
    have hm : ws.getD l [] ∈ ws := List.mem_of_getElem? (at_getD h2)
    have := hn _ hm
    have e2 := congrArg List.length ht
    rw [txR_append, txR_one, List.length_append, List.length_take] at e2
    omega
/-- the word j fits at i -/
theorem Dp5.put {ws : List (List Nat)} {x : List Nat} {os : List (Option (List Nat))} {i j : Nat} (D : Dp5 ws x os i j) (hn : ∀ u ∈ ws, 1 ≤ u.length) (hj : j < ws.length) {q : List Nat} (hq : os[i]? = some (some q)) (he : i + (ws.getD j []).length ≤ x.length) (hc : (x.take (i + (ws.getD j []).length)).drop i = ws.getD j []) : Dp5 ws x (os.set (i + (ws.getD j []).length) (some (q ++ [j]))) i (j + 1) := by
  have hm : ws.getD j [] ∈ ws := List.mem_of_getElem? (at_getD hj)
  have h1 := hn _ hm
  obtain ⟨qv, qt⟩ := D.ok i q hq
  have hlt : i + (ws.getD j []).length < os.length := by rw [D.len]; omega
  refine ⟨by rw [List.length_set]; exact D.len, ?_, fun e p h => ?_, fun r l e hv ht hle h => ?_⟩
  · obtain ⟨z, hz⟩ := D.zero
    exact ⟨z, by rw [List.getElem?_set_ne (by omega)]; exact hz⟩
  · by_cases c : i + (ws.getD j []).length = e
    · subst c
      rw [List.getElem?_set_self hlt] at h
      have hp : p = q ++ [j] := by injection h with h; injection h with h; exact h.symm
      subst hp
      refine ⟨val_snoc.mpr ⟨qv, hj⟩, ?_⟩
      rw [txR_append, txR_one, qt]
      generalize ws.getD j [] = w at *
      have e2 : x.take i = (x.take (i + w.length)).take i := by rw [List.take_take, Nat.min_eq_left (by omega)]
      conv => lhs; rhs; rw [← hc]
      rw [e2, List.take_append_drop]
    · rw [List.getElem?_set_ne c] at h
      exact D.ok e p h
  · by_cases c : i + (ws.getD j []).length = e
    · exact ⟨_, by rw [← c]; exact List.getElem?_set_self hlt⟩
    · rw [List.getElem?_set_ne c]
      refine D.all r l e hv ht hle ?_
      rcases h with h | ⟨h, h2⟩
      · exact .inl h
      · refine .inr ⟨h, ?_⟩
        rcases Nat.lt_or_eq_of_le (Nat.lt_succ_iff.mp h2) with z | z
        · exact z
        · subst z
          exfalso
          apply c
          have e2 := congrArg List.length ht
          rw [txR_append, txR_one, List.length_append, List.length_take, h] at e2
          omega
/-- the word j does not fit at i -/
theorem Dp5.not {ws : List (List Nat)} {x : List Nat} {os : List (Option (List Nat))} {i j : Nat} (D : Dp5 ws x os i j) (hn : ∀ u ∈ ws, 1 ≤ u.length) (hi : i ≤ x.length)
    (hc : ¬ ((∃ q, os[i]? = some (some q)) ∧ (x.take (i + (ws.getD j []).length)).drop i = ws.getD j [] ∧ i + (ws.getD j []).length ≤ x.length)) : Dp5 ws x os i (j + 1) := by
  refine ⟨D.len, D.zero, D.ok, fun r l e hv ht hle h => ?_⟩
  rcases h with h | ⟨h, h2⟩
  · exact D.all r l e hv ht hle (.inl h)
  · rcases Nat.lt_or_eq_of_le (Nat.lt_succ_iff.mp h2) with z | z
    · exact D.all r l e hv ht hle (.inr ⟨h, z⟩)
    · subst z
      exfalso
      apply hc
      rw [txR_append, txR_one] at ht
      have e2 := congrArg List.length ht
      rw [List.length_append, List.length_take, h] at e2
      have e3 : i + (ws.getD l []).length = e := by omega
      have hri : txR ws r = x.take i := by
        have := congrArg (List.take i) ht
        rw [← h, List.take_left, List.take_take, Nat.min_eq_left (by omega), h] at this
        exact this
      refine ⟨D.known hn (val_snoc.mp hv).1 hi hri, ?_, by omega⟩
      rw [e3, ← ht]
      rw [← h, List.drop_left]
theorem Dp5.next {ws : List (List Nat)} {x : List Nat} {os : List (Option (List Nat))} {i : Nat} (D : Dp5 ws x os i ws.length) : Dp5 ws x os (i + 1) 0 := by
  refine ⟨D.len, D.zero, D.ok, fun r l e hv ht hle h => D.all r l e hv ht hle ?_⟩
  rcases h with h | ⟨_, h⟩
  · rcases Nat.lt_or_eq_of_le (Nat.lt_succ_iff.mp h) with z | z
    · exact .inl z
    · exact .inr ⟨z, (val_snoc.mp hv).2⟩
  · exact absurd h (Nat.not_lt_zero _)
theorem Dp5.done {ws : List (List Nat)} {x : List Nat} {os : List (Option (List Nat))} {o : Option (List Nat)} (D : Dp5 ws x os x.length 0) (hn : ∀ u ∈ ws, 1 ≤ u.length) (hw : Wd (bka ws)) (hu : Uq ws) (h : os[x.length]? = some o) : o = due ws x := by
  unfold due
  rcases uq_rdg hw hu x with z | ⟨r, z, hv, ht⟩
  · rw [z]
    cases o with
    | none => rfl
    | some q =>
      obtain ⟨v1, v2⟩ := D.ok _ q h
      rw [List.take_length] at v2
      have := rdg_of hw hu v1
      rw [v2, z] at this
      cases this
  · rw [z]
    obtain ⟨q, hq⟩ := D.known hn hv (Nat.le_refl _) (by rw [List.take_length, ← ht])
    rw [h] at hq
    injection hq with hq
    subst hq
    obtain ⟨v1, v2⟩ := D.ok _ q h
    rw [List.take_length, ht] at v2
    rw [hu q r v1 hv v2]
    rfl
def spSpelled : Sp := fun vs H Q _ => ∃ (a : Addr) (ws : List (List Nat)) (x : List Nat), vs = [.ref a, .str (SX.S x)] ∧ H a = some (.lst (txts ws)) ∧ Uq ws ∧ ws.length ≤ 4 ∧ (∀ u ∈ ws, 1 ≤ u.length ∧ u.length ≤ 12) ∧ x.length ≤ 12 ∧
  ∀ H', Same H H' → Q (ov (due ws x)) H'
theorem ixN_at {n j : Nat} (hj : j < n) : ixN n (j : Int) = some j := by
  unfold ixN
  rw [if_pos (by omega), if_pos (by omega)]
  congr 1
theorem ov_at {os : List (Option (List Nat))} {i : Nat} {o : Option (List Nat)} (h : os[i]? = some o) : (os.map ov)[i]? = some (ov o) := by rw [List.getElem?_map, h]; rfl
section
variable {P : Program} {w : World} {K : PySem.W.Frag} {mg : Str → Option Value} {base : Heap}
theorem ok_l_spelled (T : Tx K mg) : FnOk P w K mg base CX0 1 T.f_l_spelled T.fd_l_spelled P_l_spelled spSpelled := by
  refine T.F_l_spelled.ok sc_l_spelled (fun vs H Q E h => ?_) (fun cdv A outer s H vs Q E hr h => ?_)
  · obtain ⟨a, ws, x, rfl, _⟩ := h
    rfl
  · obtain ⟨a, ws, x, rfl, ha, huq, hn4, hw, hx, k⟩ := h
    refine ⟨_, (pss_cons (ps_set (i := 2) sc_l_spelled.nd rfl (Or.inl rfl) (pe_op op_cat (pe_lst (pa_cons pe_str pa_nil)) (pe_op op_rep (pe_lst (pa_cons pe_non pa_nil)) (pe_callB call_len_str rfl T.n_len (by decide +kernel) (pa_cons (pv 1) pa_nil)))))
        (pss_cons (ps_for PassesOwn.never rfl (pi_range1 rfl T.n_range (pa_cons (pe_callB call_len_str rfl T.n_len (by decide +kernel) (pa_cons (pv 1) pa_nil)) pa_nil)) (pg_name (i := 3) sc_l_spelled.nd rfl (Or.inl rfl)) (pss_one (ps_for PassesOwn.never rfl (pi_range1 rfl T.n_range (pa_cons (pe_callB (call_len_seqK (K := K) rfl) rfl T.n_len (by decide +kernel) (pa_cons (pv 0) pa_nil)) pa_nil)) (pg_name (i := 4) sc_l_spelled.nd rfl (Or.inl rfl)) (pss_cons (ps_set (i := 5) sc_l_spelled.nd rfl (Or.inl rfl) (pe_op op_add (pv 3) (pe_callB call_len_str rfl T.n_len (by decide +kernel) (pa_cons (pe_ix (ix_listK (K := K) rfl) (pv 0) (pv 4) (fun _ _ => rfl)) pa_nil))))
        (pss_one (ps_if (PW.pt (pw_and (pt_cmpR op_notN (pe_ix (ix_listK (K := K) rfl) (pv 2) (pv 3) (fun _ _ => rfl)) pe_non (nomark _)) (pw_and (pt_cmpR op_eq (pe_slice sl_str (pv 1) (po_some (pv 3)) (po_some (pv 5))) (pe_ix (ix_listK (K := K) rfl) (pv 0) (pv 4) (fun _ _ => rfl)) (nomark _)) (pw_and1 (pt_cmpR op_le (pv 5) (pe_callB call_len_str rfl T.n_len (by decide +kernel) (pa_cons (pv 1) pa_nil)) (nomark _)))))) (pss_one (ps_asg (pe_op op_add_str (pe_ix (ix_listK (K := K) rfl) (pv 2) (pv 3) (fun _ _ => rfl)) (pe_ix ix_str pe_str (pv 4) (fun _ _ => rfl))) (pg_sub (pv 2) (pv 5) set_list))) pss_nil))))))
        (pss_one (ps_ret (pe_ix (ix_listK (K := K) rfl) (pv 2) (pe_callB call_len_str rfl T.n_len (by decide +kernel) (pa_cons (pv 1) pa_nil)) (fun _ _ => rfl)))))), ?_⟩
    have hn1 : ∀ u ∈ ws, 1 ≤ u.length := fun u hu => (hw u hu).1
    have hwd : Wd (bka ws) := fun b hb => by
      obtain ⟨u, hu, rfl⟩ := List.mem_map.mp hb
      exact (hw u hu).1
    have xsz : (SX.S x).length ≤ sizeLine := le_size (by rw [SX.S_len]; omega)
    have wl : (txts ws).length = ws.length := txts_len ws
    refine ⟨le_size (by simp), fun l1 hl1 => ?_⟩
    have s1 : Same H (upd H l1 (.lst [V.str ""])) := Same.new _ hl1
    have g1 : upd H l1 (.lst [V.str ""]) l1 = some (.lst [V.str ""]) := upd_same
    generalize upd H l1 (.lst [V.str ""]) = H1 at *
    refine ⟨le_size (by simp), fun l2 hl2 => ?_⟩
    have s2 : Same H1 (upd H1 l2 (.lst [V.non])) := Same.new _ hl2
    have g2 : upd H1 l2 (.lst [V.non]) l2 = some (.lst [V.non]) := upd_same
    have g12 := s2 _ _ g1
    have s12 := s1.trans s2
    generalize upd H1 l2 (.lst [V.non]) = H2 at *
    refine ⟨_, rfl, _, rfl, xsz, l2, _, _, rfl, rfl, g2, by omega, by rw [SX.S_len]; omega, le_size (by rw [SX.S_len, List.length_singleton]; omega), fun l3 hl3 => ?_⟩
    have e3 : (List.replicate ((((SX.S x).length : Nat) : Int).toNat) [V.non]).flatten = (List.replicate x.length none).map ov := by
      rw [SX.S_len, Int.toNat_natCast]
      generalize x.length = n
      induction n with
      | zero => rfl
      | succ n ih => rw [List.replicate_succ, List.flatten_cons, ih, List.replicate_succ]; rfl
    rw [e3]
    have s3 : Same H2 (upd H2 l3 (.lst ((List.replicate x.length none).map ov))) := Same.new _ hl3
    have g3 : upd H2 l3 (.lst ((List.replicate x.length none).map ov)) l3 = some (.lst ((List.replicate x.length none).map ov)) := upd_same
    have g13 := s3 _ _ g12
    have s13 := s12.trans s3
    generalize upd H2 l3 (.lst ((List.replicate x.length none).map ov)) = H3 at *
    refine ⟨l1, l3, _, _, rfl, rfl, g13, g3, le_size (by rw [List.length_singleton, List.length_map, List.length_replicate]; omega), fun Y hY => ?_⟩
    have s4 : Same H3 (upd H3 Y (.lst ([V.str ""] ++ (List.replicate x.length none).map ov))) := Same.new _ hY
    have g4 : upd H3 Y (.lst ([V.str ""] ++ (List.replicate x.length none).map ov)) Y = some (.lst ((some [] :: List.replicate x.length none).map ov)) := upd_same
    have hY0 : H Y = none := s13.free hY
    have s14 := s13.trans s4
    generalize upd H3 Y (.lst ([V.str ""] ++ (List.replicate x.length none).map ov)) = H4 at *
    refine ⟨_, rfl, _, rfl, xsz, _, rfl, by omega, by rw [SX.S_len]; omega, for_range (lo := 0) (n := (((SX.S x).length : Nat) : Int).toNat) (fun i σ H' => ∃ (os : List (Option (List Nat))) (v3 v4 v5 : Option V), σ = [some (.ref a), some (.str (SX.S x)), some (.ref Y), v3, v4, v5] ∧ H' Y = some (.lst (os.map ov)) ∧ Same H H' ∧ Dp5 ws x os i 0 ∧ ∀ o ∈ os, ∀ q, o = some q → q.length ≤ 12) ?_ ?_ ?_⟩
    · refine ⟨_, _, _, _, rfl, g4, s14, Dp5.start ws x, fun o ho q hq => ?_⟩
      subst hq
      rcases List.mem_cons.mp ho with z | z
      · injection z with z; subst z; exact Nat.zero_le _
      · have := List.eq_of_mem_replicate z; cases this
    · rintro i σ H5 hi ⟨os, v3, v4, v5, rfl, hY5, s5, D, hb⟩
      rw [SX.S_len, Int.toNat_natCast] at hi
      have e0 : ((0 : Int) + (i : Int)) = (i : Int) := by omega
      rw [e0]
      refine ⟨_, rfl, a, _, rfl, .inl (SqL.of (s5 _ _ ha)), _, rfl, by omega, by rw [wl]; omega, for_range (lo := 0) (n := (((txts ws).length : Nat) : Int).toNat) (fun j σ H' => ∃ (os : List (Option (List Nat))) (v4 v5 : Option V), σ = [some (.ref a), some (.str (SX.S x)), some (.ref Y), some (.int (i : Int)), v4, v5] ∧ H' Y = some (.lst (os.map ov)) ∧ Same H H' ∧ Dp5 ws x os i j ∧ ∀ o ∈ os, ∀ q, o = some q → q.length ≤ 12) ?_ ?_ ?_⟩
      · exact ⟨os, _, _, rfl, hY5, s5, D, hb⟩
      · rintro j σ H6 hj ⟨os, v4, v5, rfl, hY6, s6, D, hb⟩
        rw [wl, Int.toNat_natCast] at hj
        have e1 : ((0 : Int) + (j : Int)) = (j : Int) := by omega
        rw [e1]
        have hwj := at_getD hj
        have hwm := List.mem_of_getElem? hwj
        have hta : (txts ws)[j]? = some (.str (SX.S (ws.getD j []))) := by rw [txts, List.getElem?_map, hwj]; rfl
        have hwb := hw _ hwm
        have wsz : (SX.S (ws.getD j [])).length ≤ sizeLine := le_size (by rw [SX.S_len]; omega)
        have hio : i < os.length := by rw [D.len]; omega
        have hoi : os[i]? = some os[i] := List.getElem?_eq_getElem hio
        generalize hog : os[i] = o at hoi
        clear hog
        refine ⟨_, rfl, _, rfl, _, rfl, a, _, _, _, rfl, rfl, SqL.of (s6 _ _ ha), atI_nat hta, _, rfl, wsz, _, _, rfl, rfl, ?_⟩
        rw [SX.S_len]
        refine ⟨_, rfl, _, rfl, Y, _, _, _, rfl, rfl, SqL.of hY6, atI_nat (ov_at hoi), rfl, _, rfl, ?_⟩
        have ei : ((i : Int) + (((ws.getD j []).length : Nat) : Int)) = ((i + (ws.getD j []).length : Nat) : Int) := by omega
        refine ite2 (fun c => ?_) (fun c => ?_)
        · obtain ⟨q, rfl⟩ : ∃ q, o = some q := by
            cases o with
            | none => exact absurd c (by decide)
            | some q => exact ⟨q, rfl⟩
          clear c
          have ecut : cutS (SX.S x) (some (i : Int)) (some ((i + (ws.getD j []).length : Nat) : Int)) = SX.S ((x.take (i + (ws.getD j []).length)).drop i) := by
            unfold cutS
            rw [HT.sIx_nat, HT.sIx_nat, SX.S_len, Nat.min_eq_left (by omega : i ≤ x.length)]
            show SX.S ((x.drop i).take (min (i + (ws.getD j []).length) x.length - i)) = _
            congr 1
            rw [List.drop_take]
            by_cases z : i + (ws.getD j []).length ≤ x.length
            · rw [Nat.min_eq_left z]
            · rw [Nat.min_eq_right (by omega), List.take_of_length_le (by rw [List.length_drop]; omega), List.take_of_length_le (by rw [List.length_drop]; omega)]
          refine ⟨_, rfl, _, rfl, _, rfl, _, rfl, _, rfl, _, rfl, xsz, ?_⟩
          rw [show (((i : Int) + (((ws.getD j []).length : Nat) : Int))) = ((i + (ws.getD j []).length : Nat) : Int) from ei]
          rw [ecut]
          refine ⟨_, rfl, _, rfl, a, _, _, _, rfl, rfl, SqL.of (s6 _ _ ha), atI_nat hta, rfl, _, rfl, ?_⟩
          have edec : decide (V.str (SX.S ((x.take (i + (ws.getD j []).length)).drop i)) = V.str (SX.S (ws.getD j []))) = decide ((x.take (i + (ws.getD j []).length)).drop i = ws.getD j []) := by
            refine decide_eq_decide.mpr ⟨fun h => ?_, fun h => by rw [h]⟩
            injection h with h
            exact SX.S_inj h
          rw [edec]
          refine ite2 (fun c => ?_) (fun c => ?_)
          · have hc := of_decide_eq_true c
            refine ⟨_, rfl, _, rfl, _, rfl, xsz, _, _, rfl, rfl, _, rfl, ?_⟩
            rw [SX.S_len]
            refine ite2 (fun d => ?_) (fun d => ?_)
            · have hd : i + (ws.getD j []).length ≤ x.length := by
                have := of_decide_eq_true d
                omega
              have D2 := D.put hn1 hj hoi hd hc
              obtain ⟨la, lb⟩ := ltr_at (n := 4) (i := j) (by omega) (Nat.le_refl _)
              have hat : atI (Str.ofString "abcd").cps.toList (j : Int) = some (abcdL.getD j 0) := by
                rw [abcdL_S]
                exact atI_nat (by
                  have q : (abcdL.take 4) = abcdL := rfl
                  rw [q] at la
                  simpa using la)
              have ql := hb _ (List.mem_of_getElem? hoi) q rfl
              have ll : (ltr q).length ≤ 12 := by unfold ltr; rw [List.length_map]; exact ql
              refine ⟨_, rfl, _, rfl, Y, _, _, _, rfl, rfl, SqL.of hY6, atI_nat (ov_at hoi), _, rfl, _, _, abcdL.getD j 0, rfl, rfl, le_size (by decide +kernel), hat, _, _, rfl, rfl, le_size (by rw [SX.S_len]; show (ltr q).length + 1 ≤ 100000; omega), ?_⟩
              have ecat : (SX.S (ltr q) ++ (⟨#[abcdL.getD j 0]⟩ : Str)) = SX.S (ltr (q ++ [j])) := by
                show (⟨(ltr q).toArray ++ #[abcdL.getD j 0]⟩ : Str) = ⟨(ltr (q ++ [j])).toArray⟩
                congr 1
                unfold ltr
                rw [List.map_append]
                simp
              have qv := D2.ok _ (q ++ [j]) (List.getElem?_set_self (by rw [D.len]; omega))
              have ql2 : (q ++ [j]).length ≤ 12 := by
                have := val_len hn1 qv.1
                rw [qv.2, List.length_take] at this
                omega
              rw [ecat]
              refine ⟨_, rfl, _, rfl, Y, _, _, i + (ws.getD j []).length, rfl, rfl, hY6, ixN_at (by rw [List.length_map, D.len]; omega), ?_⟩
              refine ⟨os.set (i + (ws.getD j []).length) (some (q ++ [j])), _, _, rfl, ?_, s6.updNew hY0, D2, fun o ho p hp => ?_⟩
              · rw [upd_same, List.map_set]
                rfl
              · rcases List.mem_or_eq_of_mem_set ho with z | z
                · exact hb o z p hp
                · rw [hp] at z
                  injection z with z
                  rw [z]; exact ql2
            · exact ⟨os, _, _, rfl, hY6, s6, D.not hn1 (by omega) fun z => d (decide_eq_true (by have := z.2.2; omega)), hb⟩
          · exact ⟨os, _, _, rfl, hY6, s6, D.not hn1 (by omega) fun z => c (decide_eq_true z.2.1), hb⟩
        · refine ⟨os, _, _, rfl, hY6, s6, D.not hn1 (by omega) fun z => ?_, hb⟩
          obtain ⟨q, hq⟩ := z.1
          rw [hoi] at hq
          injection hq with hq
          subst hq
          exact c (by rw [decide_eq_false (fun z : ov (some q) = V.non => nomatch z)]; rfl)
      · rintro σ H6 ⟨os, v4, v5, rfl, hY6, s6, D, hb⟩
        rw [wl, Int.toNat_natCast] at D
        exact ⟨os, _, _, _, rfl, hY6, s6, D.next, hb⟩
    · rintro σ H5 ⟨os, v3, v4, v5, rfl, hY5, s5, D, hb⟩
      rw [SX.S_len, Int.toNat_natCast] at D
      have hlo : x.length < os.length := by rw [D.len]; omega
      have hol : os[x.length]? = some os[x.length] := List.getElem?_eq_getElem hlo
      have hdu := D.done hn1 hwd huq hol
      refine ⟨_, rfl, _, rfl, _, rfl, xsz, Y, _, _, _, rfl, rfl, SqL.of hY5, ?_, k H5 s5⟩
      rw [SX.S_len, ← hdu]
      exact atI_nat (ov_at hol)
end
end J


set_option Elab.async false
set_option linter.all false
set_option maxRecDepth 100000
set_option maxHeartbeats 4000000
namespace J
open PySem L2
def ends (ws : List (List Nat)) : List (List Nat) := ws.flatMap fun w => (List.range 13).map fun k => w.drop k
theorem ends_len (ws : List (List Nat)) : (ends ws).length = 13 * ws.length := by
  unfold ends
  induction ws with
  | nil => rfl
  | cons w r ih => rw [List.flatMap_cons, List.length_append, ih]; simp; omega
theorem ends_mem {ws : List (List Nat)} {w : List Nat} (hw : w ∈ ws) (hl : w.length ≤ 12) (k : Nat) : w.drop k ∈ ends ws := by
  refine List.mem_flatMap.mpr ⟨w, hw, List.mem_map.mpr ⟨min k 12, by simp; omega, ?_⟩⟩
  by_cases c : k ≤ 12
  · rw [Nat.min_eq_left c]
  · rw [Nat.min_eq_right (by omega), List.drop_eq_nil_of_le (by omega), List.drop_eq_nil_of_le (by omega)]
theorem ends_drop {ws : List (List Nat)} (hl : ∀ w ∈ ws, w.length ≤ 12) {l : List Nat} (h : l ∈ ends ws) (k : Nat) : l.drop k ∈ ends ws := by
  obtain ⟨w, hw, h2⟩ := List.mem_flatMap.mp h
  obtain ⟨j, _, rfl⟩ := List.mem_map.mp h2
  rw [List.drop_drop]
  exact ends_mem hw (hl w hw) _
def Stp (ws : List (List Nat)) (kn td : List (List Nat)) (l : List Nat) : Prop := ∀ w ∈ ws, (l <+: w → w.drop l.length ∈ kn ∨ w.drop l.length ∈ td) ∧ (¬ l <+: w → w <+: l → l.drop w.length ∈ kn ∨ l.drop w.length ∈ td)
structure Sg1 (ws kn td : List (List Nat)) : Prop where
  st : ∀ w ∈ ws, ∀ v ∈ ws, w ≠ v → w <+: v → v.drop w.length ∈ kn ∨ v.drop w.length ∈ td
  sp : ∀ l ∈ kn, Stp ws kn td l
  no : [] ∉ kn
  nd : kn.Nodup
  ke : ∀ l ∈ kn, l ∈ ends ws
  te : ∀ l ∈ td, l ∈ ends ws
theorem single_uq {ws kn : List (List Nat)} (nd : ws.Nodup) (S : Sg1 ws kn []) (hw : ∀ u ∈ ws, u ≠ []) : Uq ws := by
  have hk : ∀ {l}, (l ∈ kn ∨ l ∈ ([] : List (List Nat))) → l ∈ kn := fun h => h.elim id (fun z => absurd z List.not_mem_nil)
  have hv1 : ∀ {i : Nat} {r : List Nat}, Val ws (i :: r) → i < ws.length ∧ Val ws r := fun {i r} h => ⟨h i (by simp), fun j hj => h j (by simp [hj])⟩
  have key : ∀ (n : Nat) (r r' l : List Nat), r.length + r'.length ≤ n → l ∈ kn → Val ws r → Val ws r' → l ++ txR ws r = txR ws r' → False := by
    intro n
    induction n with
    | zero =>
      intro r r' l hn hl _ _ e
      have e1 : r = [] := List.length_eq_zero_iff.mp (by omega)
      have e2 : r' = [] := List.length_eq_zero_iff.mp (by omega)
      subst e1 e2
      rw [txR_nil, List.append_nil] at e
      subst e
      exact S.no hl
    | succ n ih =>
      intro r r' l hn hl h1 h2 e
      cases r' with
      | nil =>
        rw [txR_nil] at e
        have := List.append_eq_nil_iff.mp e
        rw [this.1] at hl
        exact S.no hl
      | cons j q =>
        obtain ⟨hj, h3⟩ := hv1 h2
        have hjm : ws.getD j [] ∈ ws := List.mem_of_getElem? (at_getD hj)
        rw [List.length_cons] at hn
        rw [txR_cons] at e
        obtain ⟨a, b⟩ := S.sp _ hl _ hjm
        by_cases c : l <+: ws.getD j []
        · obtain ⟨v, hv⟩ := c
          have q2 := hk (a ⟨v, hv⟩)
          rw [← hv, List.drop_left] at q2
          rw [← hv, List.append_assoc] at e
          exact ih q r v (by omega) q2 h3 h1 (List.append_cancel_left e).symm
        · have p : ws.getD j [] <+: l := by
            rcases List.prefix_or_prefix_of_prefix (l₁ := l) (l₂ := ws.getD j []) (l₃ := ws.getD j [] ++ txR ws q) ⟨_, e⟩ ⟨_, rfl⟩ with z | z
            · exact absurd z c
            · exact z
          have q2 := hk (b c p)
          obtain ⟨v, hv⟩ := p
          rw [← hv, List.drop_left] at q2
          rw [← hv, List.append_assoc] at e
          exact ih r q v (by omega) q2 h1 h3 (List.append_cancel_left e)
  intro r
  induction r with
  | nil =>
    intro r' _ h2 e
    cases r' with
    | nil => rfl
    | cons j q =>
      exfalso
      have hj := (hv1 h2).1
      rw [txR_nil, txR_cons] at e
      exact hw _ (List.mem_of_getElem? (at_getD hj)) (List.append_eq_nil_iff.mp e.symm).1
  | cons i r ih =>
    intro r' h1 h2 e
    obtain ⟨hi, h3⟩ := hv1 h1
    have him := List.mem_of_getElem? (at_getD hi)
    cases r' with
    | nil =>
      exfalso
      rw [txR_nil, txR_cons] at e
      exact hw _ him (List.append_eq_nil_iff.mp e).1
    | cons j q =>
      obtain ⟨hj, h4⟩ := hv1 h2
      have hjm := List.mem_of_getElem? (at_getD hj)
      rw [txR_cons, txR_cons] at e
      by_cases c : ws.getD i [] = ws.getD j []
      · have ij : i = j := by
          have a1 := at_getD hi
          have a2 := at_getD hj
          rw [c] at a1
          obtain ⟨b1, c1⟩ := List.getElem?_eq_some_iff.mp a1
          obtain ⟨b2, c2⟩ := List.getElem?_eq_some_iff.mp a2
          rcases Nat.lt_trichotomy i j with z | z | z
          · exact absurd (c1.trans c2.symm) (List.pairwise_iff_getElem.mp nd i j b1 b2 z)
          · exact z
          · exact absurd (c2.trans c1.symm) (List.pairwise_iff_getElem.mp nd j i b2 b1 z)
        subst ij
        rw [ih q h3 h4 (List.append_cancel_left e)]
      · exfalso
        rcases List.prefix_or_prefix_of_prefix (l₁ := ws.getD i []) (l₂ := ws.getD j []) (l₃ := ws.getD j [] ++ txR ws q) ⟨_, e⟩ ⟨_, rfl⟩ with p | p
        · have q2 := hk (S.st _ him _ hjm c p)
          obtain ⟨v, hv⟩ := p
          rw [← hv, List.drop_left] at q2
          rw [← hv, List.append_assoc] at e
          exact key _ q r v (Nat.le_refl _) q2 h4 h3 (List.append_cancel_left e).symm
        · have q2 := hk (S.st _ hjm _ him (fun z => c z.symm) p)
          obtain ⟨v, hv⟩ := p
          rw [← hv, List.drop_left] at q2
          rw [← hv, List.append_assoc] at e
          exact key _ r q v (Nat.le_refl _) q2 h3 h4 (List.append_cancel_left e)
end J


set_option Elab.async false
set_option linter.all false
set_option maxRecDepth 100000
set_option maxHeartbeats 4000000
namespace J
open PySem L2
theorem inV_txts (u : List Nat) (l : List (List Nat)) : inV (V.str (SX.S u)) (txts l) = decide (u ∈ l) := by
  unfold inV txts
  rw [List.any_map]
  by_cases c : u ∈ l
  · rw [decide_eq_true c, List.any_eq_true]
    exact ⟨u, c, by show (SX.S u == SX.S u) = true; simp⟩
  · rw [decide_eq_false c, List.any_eq_false]
    intro v hv
    show ¬ (SX.S v == SX.S u) = true
    intro q
    exact c (S_inj (beq_iff_eq.mp q) ▸ hv)
theorem flats (l : List (List Nat)) : (txts l).all flatV = true := by simp [txts, flatV]
theorem once_nodup : ∀ (ss ys : List PySem.Str), ys.Nodup → (∀ k, k ∈ ys → k ∈ ss) → ss.length ≤ ys.length → ss.Nodup
  | [], _, _, _, _ => List.nodup_nil
  | x :: ss, ys, h1, h2, h3 => by
    rw [List.length_cons] at h3
    have hx : x ∉ ss := fun hx => by
      have : ys.length ≤ ss.length := List.Nodup.length_le_of_subset h1 fun k hk => by
        rcases List.mem_cons.mp (h2 k hk) with e | e
        · rw [e]; exact hx
        · exact e
      omega
    refine List.nodup_cons.mpr ⟨hx, once_nodup ss (ys.erase x) (h1.erase x) (fun k hk => ?_) ?_⟩
    · have hk1 := List.mem_of_mem_erase hk
      rcases List.mem_cons.mp (h2 k hk1) with e | e
      · subst e
        exact absurd hk (List.Nodup.not_mem_erase h1)
      · exact e
    · have : ys.length ≤ (ys.erase x).length + 1 := by
        by_cases c : x ∈ ys
        · rw [List.length_erase_of_mem c]; omega
        · rw [List.erase_of_not_mem c]; omega
      omega
theorem nodup_S {ws : List (List Nat)} (h : (ws.map SX.S).Nodup) : ws.Nodup := by
  have := TxO.nodup_un h
  rwa [TxO.map_S] at this
theorem txts_drop (td : List (List Nat)) : (txts td).dropLast = txts td.dropLast := by simp [txts, List.map_dropLast]
theorem str_nil (l : List Nat) : decide (V.str (SX.S l) = V.str "") = decide (l = []) := by
  refine decide_eq_decide.mpr ⟨fun h => ?_, fun h => by rw [h]; rfl⟩
  injection h with h
  exact S_inj (v := []) h
theorem str_dec (u v : List Nat) : decide (V.str (SX.S u) = V.str (SX.S v)) = decide (u = v) := by
  refine decide_eq_decide.mpr ⟨fun h => ?_, fun h => by rw [h]⟩
  injection h with h
  exact S_inj h
def spSingle (K : PySem.W.Frag) : Sp := fun vs H Q _ => ∃ (a : Addr) (ws : List (List Nat)), vs = [.ref a] ∧ H a = some (.lst (txts ws)) ∧ (∀ w ∈ ws, w ≠ [] ∧ w.length ≤ 12 ∧ ∀ c ∈ w, c < 1114112) ∧ ws.length ≤ 40 ∧
  ∀ H' b, Same H H' → (b = true → Uq ws) → Q (.bl b) H'
section
variable {P : Program} {w : World} {K : PySem.W.Frag} {mg : Str → Option Value} {base : Heap}
theorem ok_l_single (T : Tx K mg) : FnOk P w K mg base CX0 1 T.f_l_single T.fd_l_single P_l_single (spSingle K) := by
  refine T.F_l_single.ok sc_l_single (fun vs H Q E h => ?_) (fun cdv A outer s H vs Q E hr h => ?_)
  · obtain ⟨a, ws, rfl, _⟩ := h
    rfl
  · obtain ⟨a, ws, rfl, ha, hw, hn, k⟩ := h
    refine ⟨_, (pss_cons (ps_if (pt_cmpR op_lt (pe_lenSetT rfl (pa_cons (pv 0) pa_nil) rfl T.n_len rfl T.n_set) (pe_callB (call_len_seqK (K := K) rfl) rfl T.n_len (by decide +kernel) (pa_cons (pv 0) pa_nil)) (nomark _)) (pss_one (ps_ret pe_bl)) pss_nil)
        (pss_cons (ps_set (i := 1) sc_l_single.nd rfl (Or.inl rfl) (pe_lst pa_nil))
        (pss_cons (ps_set (i := 2) sc_l_single.nd rfl (Or.inl rfl) (pe_lst pa_nil))
        (pss_cons (ps_for PassesOwn.never rfl (pi_list (pv 0)) (pg_name (i := 3) sc_l_single.nd rfl (Or.inl rfl)) (pss_one (ps_for PassesOwn.never rfl (pi_list (pv 0)) (pg_name (i := 4) sc_l_single.nd rfl (Or.inl rfl)) (pss_one (ps_if (PW.pt (pw_and (pt_cmpR op_ne (pv 3) (pv 4) (nomark _)) (pw_and1 (pt_cmpR op_eq (pe_slice sl_str (pv 4) po_none (po_some (pe_callB call_len_str rfl T.n_len (by decide +kernel) (pa_cons (pv 3) pa_nil)))) (pv 3) (nomark _))))) (pss_one (ps_expr (pe_bm PySem.F.plainAttrs_list PySem.F.slot_list_append PySem.F.type_list_append mt_append (pv 2) (pa_cons (pe_slice sl_str (pv 4) (po_some (pe_callB call_len_str rfl T.n_len (by decide +kernel) (pa_cons (pv 3) pa_nil))) po_none) pa_nil)))) pss_nil)))))
        (pss_cons (ps_while PassesOwn.never (pt_cmpR (op_neD hr.units) (pv 2) (pe_lst pa_nil) (nomark _)) (pss_cons (ps_set (i := 5) sc_l_single.nd rfl (Or.inl rfl) (pe_bm0 PySem.F.plainAttrs_list PySem.F.slot_list_pop PySem.F.type_list_pop mt_pop (pv 2)))
        (pss_cons (ps_if (pt_cmpR op_eq (pv 5) pe_str (nomark _)) (pss_one (ps_ret pe_bl)) pss_nil)
        (pss_one (ps_if (pt_cmpR op_notIn_seq (pv 5) (pv 1) rfl) (pss_cons (ps_expr (pe_bm PySem.F.plainAttrs_list PySem.F.slot_list_append PySem.F.type_list_append mt_append (pv 1) (pa_cons (pv 5) pa_nil)))
        (pss_one (ps_for PassesOwn.never rfl (pi_list (pv 0)) (pg_name (i := 6) sc_l_single.nd rfl (Or.inl rfl)) (pss_one (ps_if (pt_cmpR op_eq (pe_slice sl_str (pv 6) po_none (po_some (pe_callB call_len_str rfl T.n_len (by decide +kernel) (pa_cons (pv 5) pa_nil)))) (pv 5) (nomark _)) (pss_one (ps_expr (pe_bm PySem.F.plainAttrs_list PySem.F.slot_list_append PySem.F.type_list_append mt_append (pv 2) (pa_cons (pe_slice sl_str (pv 6) (po_some (pe_callB call_len_str rfl T.n_len (by decide +kernel) (pa_cons (pv 5) pa_nil))) po_none) pa_nil)))) (pss_one (ps_if (pt_cmpR op_eq (pe_slice sl_str (pv 5) po_none (po_some (pe_callB call_len_str rfl T.n_len (by decide +kernel) (pa_cons (pv 6) pa_nil)))) (pv 6) (nomark _)) (pss_one (ps_expr (pe_bm PySem.F.plainAttrs_list PySem.F.slot_list_append PySem.F.type_list_append mt_append (pv 2) (pa_cons (pe_slice sl_str (pv 5) (po_some (pe_callB call_len_str rfl T.n_len (by decide +kernel) (pa_cons (pv 6) pa_nil))) po_none) pa_nil)))) pss_nil))))))) pss_nil)))))
        (pss_one (ps_ret pe_bl))))))), ?_⟩
    have wl : (txts ws).length = ws.length := txts_len ws
    have sz : ∀ {l : List Nat}, l ∈ ends ws → (SX.S l).length ≤ sizeLine := fun {l} hl => le_size (by
      obtain ⟨v, hv, h2⟩ := List.mem_flatMap.mp hl
      obtain ⟨j, _, rfl⟩ := List.mem_map.mp h2
      rw [SX.S_len, List.length_drop]
      have := (hw v hv).2.1
      omega)
    have we : ∀ {v : List Nat}, v ∈ ws → v ∈ ends ws := fun {v} hv => by
      have := ends_mem hv (hw v hv).2.1 0
      rwa [List.drop_zero] at this
    have hl12 : ∀ v ∈ ws, v.length ≤ 12 := fun v hv => (hw v hv).2.1
    refine ⟨_, rfl, a, ws.map SX.S, rfl, by rw [txts_S]; exact SqL.of ha, by rw [List.length_map]; omega, fun H1 ys s1 hon hyl => ?_⟩
    refine ⟨_, rfl, a, _, rfl, .inl (SqL.of (s1 _ _ ha)), _, _, rfl, rfl, _, rfl, ?_⟩
    refine ite2 (fun c => k H1 false s1 (fun z => by cases z)) (fun c => ?_)
    have hnd : ws.Nodup := by
      refine nodup_S (once_nodup _ ys hon.1 (fun k hk => (hon.2 k).mp hk) ?_)
      have c' : ¬ ((ys.length : Int) < ((txts ws).length : Int)) := fun z => c (decide_eq_true z)
      rw [wl] at c'
      rw [List.length_map]
      omega
    refine ⟨Nat.zero_le _, fun Ka hKa => ?_⟩
    have sK : Same H1 (upd H1 Ka (.lst [])) := Same.new _ hKa
    have gK : upd H1 Ka (.lst []) Ka = some (.lst (txts [])) := upd_same
    have hK0 : H Ka = none := s1.free hKa
    have s2 := s1.trans sK
    generalize upd H1 Ka (.lst []) = H2 at *
    refine ⟨Nat.zero_le _, fun Ta hTa => ?_⟩
    have sT : Same H2 (upd H2 Ta (.lst [])) := Same.new _ hTa
    have gT : upd H2 Ta (.lst []) Ta = some (.lst (txts [])) := upd_same
    have hT0 : H Ta = none := s2.free hTa
    have nTK : Ta ≠ Ka := hp_ne gK hTa
    have s3 := s2.trans sT
    have gK3 := sT _ _ gK
    generalize upd H2 Ta (.lst []) = H3 at *
    refine ⟨_, rfl, a, rfl, ⟨_, SqL.of (s3 _ _ ha)⟩, for_list (K := K) (a := a) (xs := txts ws) (fun i σ H' => ∃ (td : List (List Nat)) (v3 v4 : Option V), σ = [some (.ref a), some (.ref Ka), some (.ref Ta), v3, v4, none, none] ∧ H' Ka = some (.lst (txts [])) ∧ H' Ta = some (.lst (txts td)) ∧ Same H H' ∧
        (∀ l ∈ td, l ∈ ends ws) ∧ (∀ x ∈ ws.take i, ∀ y ∈ ws, x ≠ y → x <+: y → y.drop x.length ∈ td) ∧ td.length ≤ i * ws.length) ?_ ?_ ?_ ?_⟩
    · exact ⟨[], none, none, rfl, gK3, gT, s3, by simp, by simp, by simp⟩
    · rintro i σ H4 _ ⟨_, _, _, _, _, _, s4, _⟩
      exact SqL.of (s4 _ _ ha)
    · rintro i y σ H4 hy ⟨td, v3, v4, rfl, hK4, hT4, s4, t1, t2, t3⟩
      obtain ⟨x, hx, rfl⟩ := txt_at hy
      have hxw := List.mem_of_getElem? hx
      have hi := (List.getElem?_eq_some_iff.mp hx).1
      have exi : ws.take (i + 1) = ws.take i ++ [x] := by rw [List.take_add_one, hx]; rfl
      refine ⟨_, rfl, a, rfl, ⟨_, SqL.of (s4 _ _ ha)⟩, for_list (K := K) (a := a) (xs := txts ws) (fun j σ H' => ∃ (td : List (List Nat)) (v4 : Option V), σ = [some (.ref a), some (.ref Ka), some (.ref Ta), some (.str (SX.S x)), v4, none, none] ∧ H' Ka = some (.lst (txts [])) ∧ H' Ta = some (.lst (txts td)) ∧ Same H H' ∧
        (∀ l ∈ td, l ∈ ends ws) ∧ (∀ x ∈ ws.take i, ∀ y ∈ ws, x ≠ y → x <+: y → y.drop x.length ∈ td) ∧ (∀ y ∈ ws.take j, x ≠ y → x <+: y → y.drop x.length ∈ td) ∧ td.length ≤ i * ws.length + j) ?_ ?_ ?_ ?_⟩
      · exact ⟨td, v4, rfl, hK4, hT4, s4, t1, t2, by simp, by omega⟩
      · rintro j σ H5 _ ⟨_, _, _, _, _, s5, _⟩
        exact SqL.of (s5 _ _ ha)
      · rintro j y' σ H5 hy' ⟨td, v4, rfl, hK5, hT5, s5, t1, t2, t4, t3⟩
        obtain ⟨y, hyj, rfl⟩ := txt_at hy'
        have hyw := List.mem_of_getElem? hyj
        have hj := (List.getElem?_eq_some_iff.mp hyj).1
        have eyj : ws.take (j + 1) = ws.take j ++ [y] := by rw [List.take_add_one, hyj]; rfl
        have bound : i * ws.length + j ≤ 1600 := by
          have : i * ws.length + ws.length ≤ 40 * 40 := by
            have : (i + 1) * ws.length ≤ 40 * 40 := Nat.mul_le_mul (by omega) hn
            rwa [Nat.add_mul, Nat.one_mul] at this
          omega
        have no : (¬ (x ≠ y ∧ x <+: y)) → ∃ (td : List (List Nat)) (v4 : Option V), [some (V.ref a), some (.ref Ka), some (.ref Ta), some (.str (SX.S x)), some (.str (SX.S y)), none, none] = [some (V.ref a), some (.ref Ka), some (.ref Ta), some (.str (SX.S x)), v4, none, none] ∧ H5 Ka = some (.lst (txts [])) ∧ H5 Ta = some (.lst (txts td)) ∧ Same H H5 ∧
            (∀ l ∈ td, l ∈ ends ws) ∧ (∀ x ∈ ws.take i, ∀ y ∈ ws, x ≠ y → x <+: y → y.drop x.length ∈ td) ∧ (∀ y ∈ ws.take (j + 1), x ≠ y → x <+: y → y.drop x.length ∈ td) ∧ td.length ≤ i * ws.length + (j + 1) := fun c => by
          refine ⟨td, _, rfl, hK5, hT5, s5, t1, t2, fun z hz n p => ?_, by omega⟩
          rw [eyj] at hz
          rcases List.mem_append.mp hz with h | h
          · exact t4 z h n p
          · rw [List.mem_singleton.mp h] at n p
            exact absurd ⟨n, p⟩ c
        refine ⟨_, rfl, _, rfl, rfl, _, rfl, ?_⟩
        rw [str_dec]
        refine ite2 (fun c => ?_) (fun c => iteF (no fun z => c (by simp [z.1])))
        have nxy : x ≠ y := fun z => by simp [z] at c
        refine ⟨_, rfl, _, rfl, _, rfl, sz (we hxw), _, rfl, _, rfl, sz (we hyw), ?_⟩
        rw [SX.S_len, TxO.cut_to]
        refine ⟨_, rfl, rfl, _, rfl, ?_⟩
        rw [str_dec]
        refine ite2 (fun d => ?_) (fun d => no fun z => d (decide_eq_true (TxO.pre_take.mpr z.2)))
        have hp := TxO.pre_take.mp (of_decide_eq_true d)
        refine ⟨_, rfl, .inl ⟨rfl, _, SqL.of hT5⟩, _, rfl, _, rfl, _, rfl, sz (we hxw), _, rfl, _, rfl, sz (we hyw), ?_⟩
        rw [SX.S_len, TxO.cut_from]
        refine ⟨Ta, _, _, rfl, rfl, hT5, lt_size (by rw [txts_len]; omega), ?_⟩
        refine ⟨td ++ [y.drop x.length], _, rfl, by rw [upd_ne nTK.symm]; exact hK5, by rw [upd_same, ← txts_cat]; rfl, s5.updNew hT0, fun l hl => ?_, fun z hz v hv n p => List.mem_append_left _ (t2 z hz v hv n p), fun z hz n p => ?_, by simp; omega⟩
        · rcases List.mem_append.mp hl with h | h
          · exact t1 l h
          · rw [List.mem_singleton.mp h]
            exact ends_mem hyw (hl12 y hyw) _
        · rw [eyj] at hz
          rcases List.mem_append.mp hz with h | h
          · exact List.mem_append_left _ (t4 z h n p)
          · rw [List.mem_singleton.mp h]
            exact List.mem_append_right _ (List.mem_singleton.mpr rfl)
      · rintro σ H5 ⟨td, v4, rfl, hK5, hT5, s5, t1, t2, t4, t3⟩
        rw [wl, List.take_length] at t4
        rw [wl] at t3
        refine ⟨td, _, _, rfl, hK5, hT5, s5, t1, fun z hz v hv n p => ?_, by rw [Nat.add_mul, Nat.one_mul]; exact t3⟩
        rw [exi] at hz
        rcases List.mem_append.mp hz with h | h
        · exact t2 z h v hv n p
        · rw [List.mem_singleton.mp h] at n p ⊢
          exact t4 v hv n p
    · rintro σ H4 ⟨td, v3, v4, rfl, hK4, hT4, s4, t1, t2, t3⟩
      rw [wl, List.take_length] at t2
      rw [wl] at t3
      have G0 : Sg1 ws [] td := ⟨fun x hx y hy n p => .inr (t2 x hx y hy n p), by simp, by simp, List.nodup_nil, by simp, t1⟩
      have b0 : td.length ≤ 1600 := Nat.le_trans t3 (Nat.mul_le_mul hn hn)
      clear t1 t2 t3
      refine ⟨fun m σ H' => ∃ (kn td : List (List Nat)) (v3 v4 v5 v6 : Option V), σ = [some (.ref a), some (.ref Ka), some (.ref Ta), v3, v4, v5, v6] ∧ H' Ka = some (.lst (txts kn)) ∧ H' Ta = some (.lst (txts td)) ∧ Same H H' ∧ Sg1 ws kn td ∧ m = (13 * ws.length - kn.length) * (ws.length + 1) + td.length ∧ m ≤ 22920, ⟨_, [], td, _, _, _, _, rfl, hK4, hT4, s4, G0, rfl, ?_⟩, ?_⟩
      · have : (13 * ws.length - ([] : List (List Nat)).length) * (ws.length + 1) ≤ 520 * 41 := Nat.mul_le_mul (by simp; omega) (by omega)
        omega
      · rintro m σ H5 ⟨kn, td, v3, v4, v5, v6, rfl, hK5, hT5, s5, G, rfl, hmb⟩
        have knl : kn.length ≤ 13 * ws.length := by
          rw [← ends_len]
          exact List.Nodup.length_le_of_subset G.nd G.ke
        refine ⟨_, rfl, Nat.zero_le _, fun Z hZ => ?_⟩
        have sZ : Same H5 (upd H5 Z (.lst [])) := Same.new _ hZ
        have small : ∀ u ∈ td, ∀ c ∈ u, c < 1114112 := fun u hu c hc => by
          obtain ⟨v, hv, h2⟩ := List.mem_flatMap.mp (G.te u hu)
          obtain ⟨j, _, rfl⟩ := List.mem_map.mp h2
          exact (hw v hv).2.2 c (List.mem_of_mem_drop hc)
        refine ⟨_, _, .lst (SqL.of (sZ _ _ hT5)) (dp_txts td), .lst (SqL.of upd_same) (dp_txts []), shaped_txts small, shaped_txts (by simp), _, rfl, ?_⟩
        have e0 : (!PyData.eqv (.list (txtD td)) (.list (txtD []))) = !decide (td = []) := by
          show (!PyData.eqvAll (txtD td) (txtD [])) = _
          rw [eqv_txts]
        rw [e0]
        have sz5 := s5.trans sZ
        have hK6 := sZ _ _ hK5
        have hT6 := sZ _ _ hT5
        generalize upd H5 Z (.lst []) = H6 at *
        refine ite2 (fun c => ?_) (fun c => ?_)
        · have htd : td ≠ [] := fun z => by simp [z] at c
          obtain ⟨l, hl⟩ : ∃ l, td[td.length - 1]? = some l := ⟨_, List.getElem?_eq_getElem (by have := List.length_pos_iff.mpr htd; omega)⟩
          have hlm := List.mem_of_getElem? hl
          have etd : td = td.dropLast ++ [l] := by
            have e1 := List.dropLast_concat_getLast htd
            have e2 : td.getLast htd = l := by
              rw [List.getLast_eq_getElem]
              exact Option.some.inj ((List.getElem?_eq_getElem _).symm.trans hl)
            rw [e2] at e1
            exact e1.symm
          have hpos := List.length_pos_iff.mpr htd
          have hle := G.te l hlm
          refine ⟨_, fun _ _ h => h, ?_⟩
          refine ⟨_, rfl, .inl ⟨rfl, _, SqL.of hT6⟩, Ta, _, _, rfl, rfl, hT6, by rw [txts_len, txts, List.getElem?_map, hl]; rfl, ?_⟩
          rw [txts_drop]
          have s7 : Same H (upd H6 Ta (.lst (txts td.dropLast))) := sz5.updNew hT0
          have hT7 : upd H6 Ta (.lst (txts td.dropLast)) Ta = some (.lst (txts td.dropLast)) := upd_same
          have hK7 : upd H6 Ta (.lst (txts td.dropLast)) Ka = some (.lst (txts kn)) := by rw [upd_ne nTK.symm]; exact hK6
          generalize upd H6 Ta (.lst (txts td.dropLast)) = H7 at *
          refine ⟨_, rfl, rfl, _, rfl, ?_⟩
          rw [str_nil]
          refine ite2 (fun d => k H7 false s7 (fun z => by cases z)) (fun d => ?_)
          have hln : l ≠ [] := fun z => d (decide_eq_true z)
          refine ⟨_, rfl, _, rfl, Ka, _, rfl, .inl (SqL.of hK7), rfl, flats kn, _, rfl, ?_⟩
          rw [if_pos rfl, inV_txts]
          refine ite2 (fun f => ?_) (fun f => ?_)
          · have hlk : l ∉ kn := fun z => by simp [z] at f
            refine ⟨_, rfl, .inl ⟨rfl, _, SqL.of hK7⟩, _, rfl, Ka, _, _, rfl, rfl, hK7, lt_size (by rw [txts_len]; omega), ?_⟩
            have s8 : Same H (upd H7 Ka (.lst (txts kn ++ [V.str (SX.S l)]))) := s7.updNew hK0
            have hK8 : upd H7 Ka (.lst (txts kn ++ [V.str (SX.S l)])) Ka = some (.lst (txts (kn ++ [l]))) := by rw [upd_same, ← txts_cat]; rfl
            have hT8 : upd H7 Ka (.lst (txts kn ++ [V.str (SX.S l)])) Ta = some (.lst (txts td.dropLast)) := by rw [upd_ne nTK]; exact hT7
            generalize upd H7 Ka (.lst (txts kn ++ [V.str (SX.S l)])) = H8 at *
            have knd : (kn ++ [l]).Nodup := List.nodup_append.mpr ⟨G.nd, by simp, fun x hx y hy e => by
              rw [List.mem_singleton.mp hy] at e
              subst e
              exact hlk hx⟩
            have kne : ∀ x ∈ kn ++ [l], x ∈ ends ws := fun x hx => by
              rcases List.mem_append.mp hx with h | h
              · exact G.ke x h
              · rw [List.mem_singleton.mp h]; exact hle
            have knl2 : kn.length + 1 ≤ 13 * ws.length := by
              have := List.Nodup.length_le_of_subset knd kne
              rw [ends_len] at this
              simpa using this
            have shift : ∀ {x : List Nat}, x ∈ kn ∨ x ∈ td → x ∈ kn ++ [l] ∨ x ∈ td.dropLast := fun {x} h => by
              rcases h with h | h
              · exact .inl (List.mem_append_left _ h)
              · rw [etd] at h
                rcases List.mem_append.mp h with h | h
                · exact .inr h
                · exact .inl (List.mem_append_right _ h)
            refine ⟨_, rfl, a, rfl, ⟨_, SqL.of (s8 _ _ ha)⟩, for_list (K := K) (a := a) (xs := txts ws) (fun j σ H' => ∃ (td' : List (List Nat)) (v6 : Option V), σ = [some (.ref a), some (.ref Ka), some (.ref Ta), v3, v4, some (.str (SX.S l)), v6] ∧ H' Ka = some (.lst (txts (kn ++ [l]))) ∧ H' Ta = some (.lst (txts td')) ∧ Same H H' ∧
                (∀ x ∈ td', x ∈ ends ws) ∧ (∀ x ∈ td.dropLast, x ∈ td') ∧ (∀ v ∈ ws.take j, (l <+: v → v.drop l.length ∈ td') ∧ (¬ l <+: v → v <+: l → l.drop v.length ∈ td')) ∧ td'.length ≤ td.length - 1 + j) ?_ ?_ ?_ ?_⟩
            · exact ⟨td.dropLast, v6, rfl, hK8, hT8, s8, fun x hx => G.te x (List.dropLast_subset _ hx), fun x hx => hx, by simp, by rw [List.length_dropLast]; omega⟩
            · rintro j σ H9 _ ⟨_, _, _, _, _, s9, _⟩
              exact SqL.of (s9 _ _ ha)
            · rintro j y σ H9 hy ⟨td', v6, rfl, hK9, hT9, s9, t1, t2, t3, t4⟩
              obtain ⟨v, hv, rfl⟩ := txt_at hy
              have hvw := List.mem_of_getElem? hv
              have hj := (List.getElem?_eq_some_iff.mp hv).1
              have evj : ws.take (j + 1) = ws.take j ++ [v] := by rw [List.take_add_one, hv]; rfl
              have room : td'.length + 1 ≤ 100000 := by
                have : (13 * ws.length - kn.length) * (ws.length + 1) + td.length ≤ 22920 := hmb
                omega
              have stay : (¬ l <+: v) → (¬ v <+: l) → ∃ (td'' : List (List Nat)) (v6' : Option V), [some (V.ref a), some (.ref Ka), some (.ref Ta), v3, v4, some (.str (SX.S l)), some (.str (SX.S v))] = [some (V.ref a), some (.ref Ka), some (.ref Ta), v3, v4, some (.str (SX.S l)), v6'] ∧ H9 Ka = some (.lst (txts (kn ++ [l]))) ∧ H9 Ta = some (.lst (txts td'')) ∧ Same H H9 ∧
                  (∀ x ∈ td'', x ∈ ends ws) ∧ (∀ x ∈ td.dropLast, x ∈ td'') ∧ (∀ v ∈ ws.take (j + 1), (l <+: v → v.drop l.length ∈ td'') ∧ (¬ l <+: v → v <+: l → l.drop v.length ∈ td'')) ∧ td''.length ≤ td.length - 1 + (j + 1) := fun n1 n2 => by
                refine ⟨td', _, rfl, hK9, hT9, s9, t1, t2, fun z hz => ?_, by omega⟩
                rw [evj] at hz
                rcases List.mem_append.mp hz with h | h
                · exact t3 z h
                · rw [List.mem_singleton.mp h]
                  exact ⟨fun q => absurd q n1, fun _ q => absurd q n2⟩
              have more : ∀ z : List Nat, z ∈ ends ws → ((l <+: v → v.drop l.length = z) ∧ (¬ l <+: v → v <+: l → l.drop v.length = z)) → ∃ (td'' : List (List Nat)) (v6' : Option V), [some (V.ref a), some (.ref Ka), some (.ref Ta), v3, v4, some (.str (SX.S l)), some (.str (SX.S v))] = [some (V.ref a), some (.ref Ka), some (.ref Ta), v3, v4, some (.str (SX.S l)), v6'] ∧ upd H9 Ta (.lst (txts td' ++ [V.str (SX.S z)])) Ka = some (.lst (txts (kn ++ [l]))) ∧ upd H9 Ta (.lst (txts td' ++ [V.str (SX.S z)])) Ta = some (.lst (txts td'')) ∧ Same H (upd H9 Ta (.lst (txts td' ++ [V.str (SX.S z)]))) ∧
                  (∀ x ∈ td'', x ∈ ends ws) ∧ (∀ x ∈ td.dropLast, x ∈ td'') ∧ (∀ v ∈ ws.take (j + 1), (l <+: v → v.drop l.length ∈ td'') ∧ (¬ l <+: v → v <+: l → l.drop v.length ∈ td'')) ∧ td''.length ≤ td.length - 1 + (j + 1) := fun z hz e => by
                refine ⟨td' ++ [z], _, rfl, by rw [upd_ne nTK.symm]; exact hK9, by rw [upd_same, ← txts_cat]; rfl, s9.updNew hT0, fun x hx => ?_, fun x hx => List.mem_append_left _ (t2 x hx), fun y hy => ?_, by simp; omega⟩
                · rcases List.mem_append.mp hx with h | h
                  · exact t1 x h
                  · rw [List.mem_singleton.mp h]; exact hz
                · rw [evj] at hy
                  rcases List.mem_append.mp hy with h | h
                  · exact ⟨fun q => List.mem_append_left _ ((t3 y h).1 q), fun q r => List.mem_append_left _ ((t3 y h).2 q r)⟩
                  · rw [List.mem_singleton.mp h]
                    exact ⟨fun q => by rw [e.1 q]; simp, fun q r => by rw [e.2 q r]; simp⟩
              refine ⟨_, rfl, _, rfl, _, rfl, sz hle, _, rfl, _, rfl, sz (we hvw), ?_⟩
              rw [SX.S_len, TxO.cut_to]
              refine ⟨_, rfl, rfl, _, rfl, ?_⟩
              rw [str_dec]
              refine ite2 (fun g => ?_) (fun g => ?_)
              · have hp := TxO.pre_take.mp (of_decide_eq_true g)
                refine ⟨_, rfl, .inl ⟨rfl, _, SqL.of hT9⟩, _, rfl, _, rfl, _, rfl, sz hle, _, rfl, _, rfl, sz (we hvw), ?_⟩
                rw [SX.S_len, TxO.cut_from]
                exact ⟨Ta, _, _, rfl, rfl, hT9, lt_size (by rw [txts_len]; omega), more _ (ends_mem hvw (hl12 v hvw) _) ⟨fun _ => rfl, fun q => absurd hp q⟩⟩
              · have hp : ¬ l <+: v := fun z => g (decide_eq_true (TxO.pre_take.mpr z))
                refine ⟨_, rfl, _, rfl, _, rfl, sz (we hvw), _, rfl, _, rfl, sz hle, ?_⟩
                rw [SX.S_len, TxO.cut_to]
                refine ⟨_, rfl, rfl, _, rfl, ?_⟩
                rw [str_dec]
                refine ite2 (fun g2 => ?_) (fun g2 => stay hp fun z => g2 (decide_eq_true (TxO.pre_take.mpr z)))
                refine ⟨_, rfl, .inl ⟨rfl, _, SqL.of hT9⟩, _, rfl, _, rfl, _, rfl, sz (we hvw), _, rfl, _, rfl, sz hle, ?_⟩
                rw [SX.S_len, TxO.cut_from]
                exact ⟨Ta, _, _, rfl, rfl, hT9, lt_size (by rw [txts_len]; omega), more _ (ends_drop hl12 hle _) ⟨fun q => absurd q hp, fun _ _ => rfl⟩⟩
            · rintro σ H9 ⟨td', v6, rfl, hK9, hT9, s9, t1, t2, t3, t4⟩
              rw [wl, List.take_length] at t3
              rw [wl] at t4
              have lt : (13 * ws.length - (kn ++ [l]).length) * (ws.length + 1) + td'.length < (13 * ws.length - kn.length) * (ws.length + 1) + td.length := by
                have e1 : 13 * ws.length - kn.length = (13 * ws.length - (kn ++ [l]).length) + 1 := by
                  rw [List.length_append, List.length_singleton]
                  omega
                rw [e1, Nat.add_mul, Nat.one_mul]
                omega
              refine ⟨_, lt, kn ++ [l], td', _, _, _, _, rfl, hK9, hT9, s9, ⟨fun x hx y hy n p => ?_, fun x hx => ?_, ?_, knd, kne, t1⟩, rfl, by omega⟩
              · rcases shift (G.st x hx y hy n p) with h | h
                · exact .inl h
                · exact .inr (t2 _ h)
              · rcases List.mem_append.mp hx with h | h
                · intro v hv
                  obtain ⟨a1, a2⟩ := G.sp x h v hv
                  exact ⟨fun q => (shift (a1 q)).imp id (t2 _), fun q r => (shift (a2 q r)).imp id (t2 _)⟩
                · rw [List.mem_singleton.mp h]
                  intro v hv
                  exact ⟨fun q => .inr ((t3 v hv).1 q), fun q r => .inr ((t3 v hv).2 q r)⟩
              · intro z
                rcases List.mem_append.mp z with h | h
                · exact G.no h
                · exact hln (List.mem_singleton.mp h).symm
          · have hlk : l ∈ kn := by
              by_cases q : l ∈ kn
              · exact q
              · exact absurd (by simp [q]) f
            have shift : ∀ {x : List Nat}, x ∈ kn ∨ x ∈ td → x ∈ kn ∨ x ∈ td.dropLast := fun {x} h => by
              rcases h with h | h
              · exact .inl h
              · rw [etd] at h
                rcases List.mem_append.mp h with h | h
                · exact .inr h
                · rw [List.mem_singleton.mp h]; exact .inl hlk
            refine ⟨(13 * ws.length - kn.length) * (ws.length + 1) + td.dropLast.length, by rw [List.length_dropLast]; omega, kn, td.dropLast, _, _, _, _, rfl, hK7, hT7, s7, ⟨fun x hx y hy n p => shift (G.st x hx y hy n p), fun x hx v hv => ⟨fun q => shift ((G.sp x hx v hv).1 q), fun q r => shift ((G.sp x hx v hv).2 q r)⟩, G.no, G.nd, G.ke, fun x hx => G.te x (List.dropLast_subset _ hx)⟩, rfl, by rw [List.length_dropLast]; omega⟩
        · have htd : td = [] := by
            by_cases q : td = []
            · exact q
            · exact absurd (by simp [q]) c
          subst htd
          exact k H6 true sz5 fun _ => single_uq hnd G fun u hu => (hw u hu).1
end
end J


set_option Elab.async false
set_option linter.all false
set_option maxRecDepth 100000
set_option maxHeartbeats 4000000
namespace J
open PySem L2
def WordL (sg : List Nat) (m : Nat) (u : List Nat) : Prop := 1 ≤ u.length ∧ u.length ≤ m ∧ ∀ c ∈ u, c ∈ sg
theorem WordL.word {sg : List Nat} {m : Nat} {u : List Nat} (h : WordL sg m u) (hm : m ≤ 12) : Word sg u := ⟨h.1, Nat.le_trans h.2.1 hm, h.2.2⟩
theorem S_cat (u v : List Nat) : SX.S u ++ SX.S v = SX.S (u ++ v) := by
  show PySem.Str.mk _ = PySem.Str.mk _
  simp [SX.S]
theorem at_txt {ws : List (List Nat)} {r : Int} (h0 : 0 ≤ r) (h1 : r < ((txts ws).length : Int)) : ∃ u, u ∈ ws ∧ atI (txts ws) r = some (.str (SX.S u)) := by
  obtain ⟨v, hv, hat⟩ := atI_mem (xs := txts ws) h0 h1
  obtain ⟨u, huw, rfl⟩ := List.mem_map.mp hv
  exact ⟨u, huw, hat⟩
def ones (sg : List Nat) : List (List Nat) := sg.map fun c => [c]
theorem one_pre {u : List Nat} {c d : Nat} (h : u ++ [c] <+: u ++ [d]) : c = d := by
  have := List.prefix_append_right_inj u |>.mp h
  have := List.prefix_iff_eq_take.mp this
  simpa using this
theorem plain_ext {sg : List Nat} (hs : sg.Pairwise (· < ·)) (u : List Nat) : Plain (sg.map fun c => u ++ [c]) := by
  refine List.pairwise_map.mpr (hs.imp fun {c d} h => ⟨fun p => ?_, fun p => ?_⟩)
  · have := one_pre p; omega
  · have := one_pre p; omega
theorem plain_ones {sg : List Nat} (hs : sg.Pairwise (· < ·)) : Plain (ones sg) := plain_ext hs []
theorem plain_grow {sg : List Nat} (hs : sg.Pairwise (· < ·)) {ws : List (List Nat)} (h : Plain ws) {j : Nat} {u : List Nat} (hj : ws[j]? = some u) : Plain (ws.eraseIdx j ++ sg.map fun c => u ++ [c]) := by
  obtain ⟨hl, e⟩ := List.getElem?_eq_some_iff.mp hj
  have pm : ws.Perm (u :: ws.eraseIdx j) := by
    have e2 : ws = ws.take j ++ u :: ws.drop (j + 1) := by
      rw [← e, ← List.drop_eq_getElem_cons hl, List.take_append_drop]
    rw [List.eraseIdx_eq_take_drop_succ]
    exact (List.Perm.of_eq e2).trans List.perm_middle
  have h2 := List.pairwise_cons.mp (h.perm pm.symm)
  refine List.pairwise_append.mpr ⟨h2.2, plain_ext hs u, fun v hv x hx => ?_⟩
  obtain ⟨c, _, rfl⟩ := List.mem_map.mp hx
  obtain ⟨a, b⟩ := h2.1 v hv
  refine ⟨fun p => ?_, fun p => a ((List.prefix_append u [c]).trans p)⟩
  by_cases l : v.length ≤ u.length
  · exact b (List.prefix_of_prefix_length_le p (List.prefix_append u [c]) l)
  · have hl := p.length_le
    rw [List.length_append, List.length_singleton] at hl
    have := p.eq_of_length (by rw [List.length_append, List.length_singleton]; omega)
    exact a (this ▸ List.prefix_append u [c])
def spTree (K : PySem.W.Frag) (ns : List Int) : Sp := fun vs H Q _ => ∃ (a p : Addr) (sg : List Nat) (tm lg : Nat), vs = [.ref a, .ref p, .str (SX.S sg), .int (tm : Int), .int (lg : Int)] ∧ St K ns a H p ∧ Signs sg ∧ tm ≤ 8 ∧ 1 ≤ lg ∧ lg ≤ 5 ∧
  ∀ H' (r : Addr) us, Ex p H H' → St K ns a H' p → H r = none → r ≠ p → H' r = some (.lst (txts us)) → Plain us → TxK.Cov sg 5 us → 1 ≤ us.length → us.length ≤ 40 → (∀ u ∈ us, WordL sg lg u) → Q (.ref r) H'
theorem cov_part' {sg : List Nat} {ws : List (List Nat)} {u : List Nat} {j L : Nat} (h : TxK.Cov sg L ws) (hj : ws[j]? = some u) (hu : u.length < L) : TxK.Cov sg L (ws.eraseIdx j ++ sg.map fun c => u ++ [c]) := by
  obtain ⟨hl, e⟩ := List.getElem?_eq_some_iff.mp hj
  refine TxK.cov_part h hu (fun w hw ne => ?_) (fun c hc => List.mem_append_right _ (List.mem_map.mpr ⟨c, hc, rfl⟩))
  refine List.mem_append_left _ ?_
  have e2 : ws = ws.take j ++ u :: ws.drop (j + 1) := by
    rw [← e, ← List.drop_eq_getElem_cons hl, List.take_append_drop]
  rw [List.eraseIdx_eq_take_drop_succ]
  rw [e2] at hw
  rcases List.mem_append.mp hw with h | h
  · exact List.mem_append_left _ h
  · rcases List.mem_cons.mp h with h | h
    · exact absurd h ne
    · exact List.mem_append_right _ h
section
variable {P : Program} {w : World} {K : PySem.W.Frag} {mg : Str → Option Value} {base : Heap}
theorem ok_l_tree (T : Tx K mg) (ns : List Int) : FnOk P w K mg base CX0 3 T.f_l_tree T.fd_l_tree P_l_tree (spTree K ns) := by
  have G_l_take : FnOk P w K mg base CX0 1 T.f_l_take T.fd_l_take P_l_take (spTake K ns) := ok_l_take T ns
  have G_l_shuffled : FnOk P w K mg base CX0 2 T.f_l_shuffled T.fd_l_shuffled P_l_shuffled (spShuf K ns) := ok_l_shuffled T ns
  refine T.F_l_tree.ok sc_l_tree (fun vs H Q E h => ?_) (fun cdv A outer s H vs Q E hr h => ?_)
  · obtain ⟨a, p, sg, tm, lg, rfl, _⟩ := h
    rfl
  · obtain ⟨a, p, sg, tm, lg, rfl, hst, hsg, htm, hl1, hlg, k⟩ := h
    refine ⟨_, (pss_cons (ps_setLc (i := 5) (own := [("_law_sign", 9)]) (g := (gName 9)) rfl sc_l_tree.nd rfl rfl (sw_true rfl rfl rfl (by decide +kernel)) (pi_str (pv 2)) (blkOk_by (N := N_l_tree) (sc := defScope s_l_tree) (by decide +kernel)) (fun _ _ _ _ _ => (pg_name (i := 9) sc_l_tree.nd rfl (Or.inl rfl))) (fun _ _ _ _ _ => pts_nil) (fun _ _ _ _ _ => (pv 9)))
        (pss_cons (ps_for PassesOwn.never rfl (pi_range1 rfl T.n_range (pa_cons (pe_call G_l_take (hr.mono (by decide)) rfl T.m_l_take T.F_l_take.kp T.b_l_take .nil pass0 (pa_cons (pv 0) (pa_cons (pv 1) (pa_cons (pe_op op_add (pv 3) pe_int) pa_nil)))) pa_nil)) (pg_name (i := 6) sc_l_tree.nd rfl (Or.inl rfl)) (pss_cons (ps_set (i := 7) sc_l_tree.nd rfl (Or.inl rfl) (pe_call G_l_take (hr.mono (by decide)) rfl T.m_l_take T.F_l_take.kp T.b_l_take .nil pass0 (pa_cons (pv 0) (pa_cons (pv 1) (pa_cons (pe_callB (call_len_seqK (K := K) rfl) rfl T.n_len (by decide +kernel) (pa_cons (pv 5) pa_nil)) pa_nil)))))
        (pss_one (ps_if (pt_cmpR op_lt (pe_callB call_len_str rfl T.n_len (by decide +kernel) (pa_cons (pe_ix (ix_listK (K := K) rfl) (pv 5) (pv 7) (fun _ _ => rfl)) pa_nil)) (pv 4) (nomark _)) (pss_cons (ps_set (i := 8) sc_l_tree.nd rfl (Or.inr rfl) (pe_bm PySem.F.plainAttrs_list PySem.F.slot_list_pop PySem.F.type_list_pop mt_popAt (pv 5) (pa_cons (pv 7) pa_nil)))
        (pss_one (ps_set (i := 5) sc_l_tree.nd rfl (Or.inl rfl) (pe_op op_cat (pv 5) (pe_lc (own := [("_law_sign", 9)]) (g := (gName 9)) rfl sc_l_tree.nd (pi_str (pv 2)) (blkOk_by (N := N_l_tree) (sc := defScope s_l_tree) (by decide +kernel)) (fun _ _ _ _ _ => (pg_name (i := 9) sc_l_tree.nd rfl (Or.inl rfl))) (fun _ _ _ _ _ => pts_nil) (fun _ _ _ _ _ => (pe_op op_add_str (pv 8) (pv 9)))))))) pss_nil))))
        (pss_one (ps_ret (pe_call G_l_shuffled (hr.mono (by decide)) rfl T.m_l_shuffled T.F_l_shuffled.kp T.b_l_shuffled .nil pass0 (pa_cons (pv 0) (pa_cons (pv 1) (pa_cons (pv 5) pa_nil)))))))), ?_⟩
    have hs4 := hsg.2.1
    have hs1 := hsg.1
    have hlen : (SX.S sg).cps.size = sg.length := SX.S_len sg
    refine ⟨_, rfl, _, rfl, fun F hF => lc_it (walk_str (z := SX.S sg)) (fun m H' => H' F = some (.lst (txts (ones (sg.take m)))) ∧ Same H H') ⟨upd_same, Same.new _ hF⟩ (fun _ _ _ _ => trivial) ?_ ?_⟩
    · rintro m x H6 H7 hm ⟨hDl, s6⟩ ⟨rfl, c, hc, rfl⟩
      have q : sg[m]? = some c := by simpa using hc
      have hm2 : m < sg.length := (List.getElem?_eq_some_iff.mp q).1
      refine ⟨rfl, _, rfl, _, hDl, lt_size (by rw [txts_len, ones, List.length_map, List.length_take]; omega), ?_, s6.updNew hF⟩
      rw [upd_same, List.take_add_one, q, ones, ones, List.map_append, ← txts_cat]
      rfl
    · rintro H1 ⟨hF1, s1⟩
      rw [hlen, List.take_length] at hF1
      have st1 := hst.same s1
      have nF := hst.ne hF
      refine ⟨_, rfl, _, rfl, _, rfl, _, _, rfl, rfl, a, p, _, rfl, st1, by omega, by omega, fun H2 r x2 st2 r0 r1 => ?_⟩
      have X2 : Ex p H H2 := (Same.ex s1).trans x2
      refine ⟨_, rfl, by omega, by omega, for_range (lo := 0) (n := r.toNat) (fun i σ H' => ∃ (F : Addr) (ws : List (List Nat)) (v6 v7 v8 : Option V), σ = [some (.ref a), some (.ref p), some (.str (SX.S sg)), some (.int (tm : Int)), some (.int (lg : Int)), some (.ref F), v6, v7, v8, none] ∧ Ex p H H' ∧ St K ns a H' p ∧ H F = none ∧ F ≠ p ∧ H' F = some (.lst (txts ws)) ∧ Plain ws ∧ TxK.Cov sg 5 ws ∧ (∀ u ∈ ws, WordL sg lg u) ∧ 1 ≤ ws.length ∧ ws.length ≤ 4 + 4 * i) ?_ ?_ ?_⟩
      · refine ⟨F, ones sg, none, none, none, rfl, X2, st2, hF, nF, x2 _ _ nF hF1, plain_ones hsg.2.2.2, ?_, fun u hu => ?_, by rw [ones, List.length_map]; omega, by rw [ones, List.length_map]; omega⟩
        · intro y hl hy
          cases y with
          | nil => cases hl
          | cons c r => exact ⟨[c], List.mem_map.mpr ⟨c, hy c (by simp), rfl⟩, ⟨r, rfl⟩⟩
        obtain ⟨c, hc, rfl⟩ := List.mem_map.mp hu
        exact ⟨Nat.le_refl 1, by show 1 ≤ lg; omega, fun d hd => by rw [List.mem_singleton.mp hd]; exact hc⟩
      · rintro i σ H3 hi ⟨F, ws, v6, v7, v8, rfl, x3, st3, hF0, nF, hF3, hpl, hcv, hw, l1, l2⟩
        refine ⟨_, rfl, _, rfl, _, rfl, F, _, rfl, .inl (SqL.of hF3), a, p, _, rfl, st3, by rw [txts_len]; omega, by rw [txts_len]; omega, fun H4 r4 x4 st4 r40 r41 => ?_⟩
        rw [txts_len] at r41
        obtain ⟨j, rfl⟩ := Int.eq_ofNat_of_zero_le r40
        have hj : j < ws.length := by exact_mod_cast r41
        have ej : ws[j]? = some ws[j] := List.getElem?_eq_getElem hj
        generalize ws[j] = u at ej
        have huw := hw u (List.mem_of_getElem? ej)
        have ht : (txts ws)[j]? = some (.str (SX.S u)) := by rw [txts, List.getElem?_map, ej]; rfl
        have hF4 := x4 _ _ nF hF3
        have X4 := x3.trans x4
        refine ⟨_, rfl, _, rfl, F, _, _, _, rfl, rfl, SqL.of hF4, atI_nat ht, _, rfl, le_size (by rw [SX.S_len]; have := huw.2.1; omega), _, rfl, _, _, rfl, rfl, _, rfl, ?_⟩
        refine ite2 (fun c => ?_) (fun c => ⟨F, ws, _, _, _, rfl, X4, st4, hF0, nF, hF4, hpl, hcv, hw, l1, by omega⟩)
        have c' := of_decide_eq_true c
        rw [SX.S_len] at c'
        refine ⟨_, rfl, .inl ⟨rfl, _, SqL.of hF4⟩, _, rfl, F, txts ws, _, j, _, rfl, rfl, hF4, by omega, by omega, by rw [txts_len]; exact seq_at (by omega) (by omega), ht, ?_⟩
        rw [txts_erase]
        have X5 : Ex p H (upd H4 F (.lst (txts (ws.eraseIdx j)))) := X4.updNew hF0
        have st5 := hst.upd st4 X5 nF
        have gF5 : upd H4 F (.lst (txts (ws.eraseIdx j))) F = some (.lst (txts (ws.eraseIdx j))) := upd_same
        have le := List.length_eraseIdx_of_lt hj
        generalize upd H4 F (.lst (txts (ws.eraseIdx j))) = H5 at *
        refine ⟨_, rfl, _, rfl, _, rfl, fun D hD => lc_it (walk_str (z := SX.S sg)) (fun m H' => H' D = some (.lst (txts ((sg.take m).map fun c => u ++ [c]))) ∧ Same H5 H') ⟨upd_same, Same.new _ hD⟩ (fun _ _ _ _ => trivial) ?_ ?_⟩
        · rintro m x H6 H7 hm ⟨hDl, s6⟩ ⟨rfl, c, hc, rfl⟩
          have q : sg[m]? = some c := by simpa using hc
          have hm2 : m < sg.length := (List.getElem?_eq_some_iff.mp q).1
          refine ⟨rfl, _, rfl, _, rfl, SX.S u, SX.S [c], rfl, rfl, le_size (by rw [SX.S_len, SX.S_len, List.length_singleton]; omega), _, hDl, lt_size (by rw [txts_len, List.length_map, List.length_take]; omega), ?_, s6.updNew hD⟩
          rw [upd_same, List.take_add_one, q, List.map_append, S_cat, ← txts_cat]
          rfl
        · rintro H6 ⟨hDl, s6⟩
          rw [hlen, List.take_length] at hDl
          refine ⟨F, D, _, _, rfl, rfl, s6 _ _ gF5, hDl, le_size (by rw [txts_len, txts_len, List.length_map]; omega), fun N hN => ?_⟩
          have s7 := s6.trans (Same.new (txts (ws.eraseIdx j) ++ txts (sg.map fun c => u ++ [c]) |> HO.lst) hN)
          have X7 := X5.trans (Same.ex (p := p) s7)
          have st7 := st5.same s7
          refine ⟨N, ws.eraseIdx j ++ sg.map (fun c => u ++ [c]), _, _, _, rfl, X7, st7, X5.free (s6.free hN) ((st5.same s6).ne hN), (st5.same s6).ne hN, by rw [upd_same, txts_cat], plain_grow hsg.2.2.2 hpl ej, cov_part' hcv ej (by omega), fun v hv => ?_, by simp; omega, by simp [le]; omega⟩
          rcases List.mem_append.mp hv with h | h
          · exact hw v (List.mem_of_mem_eraseIdx h)
          · obtain ⟨c, hc, rfl⟩ := List.mem_map.mp h
            refine ⟨by simp, by rw [List.length_append, List.length_singleton]; omega, fun d hd => ?_⟩
            rcases List.mem_append.mp hd with h | h
            · exact huw.2.2 d h
            · rw [List.mem_singleton.mp h]; exact hc
      · rintro σ H3 ⟨F, ws, v6, v7, v8, rfl, x3, st3, hF0, nF, hF3, hpl, hcv, hw, l1, l2⟩
        refine ⟨_, rfl, _, rfl, _, rfl, a, p, F, ws, rfl, st3, nF, hF3, by omega, fun H5 r5 us x5 st5 hr0 nr hr hperm => ?_⟩
        have hl := hperm.length_eq
        exact k H5 r5 us (x3.trans x5) st5 (x3.free hr0 nr) nr hr (hpl.perm hperm) (fun y hl hy => let ⟨w, hw, hp⟩ := hcv y hl hy; ⟨w, hperm.mem_iff.mpr hw, hp⟩) (by omega) (by omega) fun u hu => hw u (hperm.mem_iff.mp hu)
end
end J


set_option Elab.async false
set_option linter.all false
set_option maxRecDepth 100000
set_option maxHeartbeats 4000000
namespace J
open PySem L2
/-! ### the law's inner -/
def spInner (K : PySem.W.Frag) (ns : List Int) : Sp := fun vs H Q _ => ∃ (a p : Addr) (sg : List Nat), vs = [.ref a, .ref p, .str (SX.S sg)] ∧ St K ns a H p ∧ Signs sg ∧
  ∀ H' (q : Addr) ws, Ex p H H' → St K ns a H' p → H q = none → q ≠ p → H' q = some (.lst (txts ws)) → Uq ws → 1 ≤ ws.length → ws.length ≤ 4 → (∀ u ∈ ws, WordL sg 3 u) → Q (.ref q) H'
theorem revS_S (u : List Nat) : (⟨(SX.S u).cps.toList.reverse.toArray⟩ : Str) = SX.S u.reverse := by
  show (⟨(u.toArray.toList.reverse).toArray⟩ : Str) = ⟨u.reverse.toArray⟩
  simp
theorem cut_take (vs : List (List Nat)) (n : Int) (h : 0 ≤ n) : cutV (txts vs) none (some n) = txts (vs.take n.toNat) := by
  obtain ⟨m, rfl⟩ := Int.eq_ofNat_of_zero_le h
  unfold cutV
  rw [HT.sIx_nat, HT.sIx_none]
  show ((txts vs).drop 0).take (min m (txts vs).length - 0) = txts (vs.take m)
  rw [List.drop_zero, Nat.sub_zero, ← List.take_take, List.take_length]
  unfold txts
  rw [List.map_take]
section
variable {P : Program} {w : World} {K : PySem.W.Frag} {mg : Str → Option Value} {base : Heap}
theorem ok_l_inner (T : Tx K mg) (ns : List Int) : FnOk P w K mg base CX0 4 T.f_l_inner T.fd_l_inner P_l_inner (spInner K ns) := by
  have G_l_take : FnOk P w K mg base CX0 1 T.f_l_take T.fd_l_take P_l_take (spTake K ns) := ok_l_take T ns
  have G_l_words : FnOk P w K mg base CX0 3 T.f_l_words T.fd_l_words P_l_words (spWords K ns) := ok_l_words T ns
  have G_l_tree : FnOk P w K mg base CX0 3 T.f_l_tree T.fd_l_tree P_l_tree (spTree K ns) := ok_l_tree T ns
  have G_l_single : FnOk P w K mg base CX0 1 T.f_l_single T.fd_l_single P_l_single (spSingle K) := ok_l_single T
  refine T.F_l_inner.ok sc_l_inner (fun vs H Q E h => ?_) (fun cdv A outer s H vs Q E hr h => ?_)
  · obtain ⟨a, p, sg, rfl, _⟩ := h
    rfl
  · obtain ⟨a, p, sg, rfl, hst, hsg, k⟩ := h
    refine ⟨_, (pss_cons (ps_set (i := 3) sc_l_inner.nd rfl (Or.inl rfl) (pe_call G_l_words (hr.mono (by decide)) rfl T.m_l_words T.F_l_words.kp T.b_l_words .nil pass0 (pa_cons (pv 0) (pa_cons (pv 1) (pa_cons (pv 2) (pa_cons pe_int (pa_cons pe_int pa_nil)))))))
        (C8.pss_cut (ps_if (pt_not (pt_val (pe_call G_l_single (hr.mono (by decide)) rfl T.m_l_single T.F_l_single.kp T.b_l_single .nil pass0 (pa_cons (pv 3) pa_nil)))) (pss_one (ps_set (i := 3) sc_l_inner.nd rfl (Or.inl rfl) (pe_slice (sl_listK (K := K) rfl) (pe_call G_l_tree (hr.mono (by decide)) rfl T.m_l_tree T.F_l_tree.kp T.b_l_tree .nil pass0 (pa_cons (pv 0) (pa_cons (pv 1) (pa_cons (pv 2) (pa_cons pe_int (pa_cons pe_int pa_nil)))))) po_none (po_some (pe_op op_add pe_int (pe_call G_l_take (hr.mono (by decide)) rfl T.m_l_take T.F_l_take.kp T.b_l_take .nil pass0 (pa_cons (pv 0) (pa_cons (pv 1) (pa_cons pe_int pa_nil))))))))) pss_nil)
        (C8.pss_cut (ps_if (pt_cmpR op_eq (pe_call G_l_take (hr.mono (by decide)) rfl T.m_l_take T.F_l_take.kp T.b_l_take .nil pass0 (pa_cons (pv 0) (pa_cons (pv 1) (pa_cons pe_int pa_nil)))) pe_int (nomark _)) (pss_one (ps_setLc (i := 3) (own := [("_law_word_here", 4)]) (g := (gName 4)) rfl sc_l_inner.nd rfl rfl (sw_true rfl rfl rfl (by decide +kernel)) (pi_list (pv 3)) (blkOk_by (N := N_l_inner) (sc := defScope s_l_inner) (by decide +kernel)) (fun _ _ _ _ _ => (pg_name (i := 4) sc_l_inner.nd rfl (Or.inl rfl))) (fun _ _ _ _ _ => pts_nil) (fun _ _ _ _ _ => (pe_revS (pv 4))))) pss_nil)
        (pss_one (ps_ret (pv 3)))))), ?_⟩
    have hc : ∀ c ∈ sg, c < 1114112 := fun c hc => by have := (hsg.2.2.1 c hc).2; omega
    refine ⟨_, rfl, _, rfl, _, rfl, a, p, sg, 4, 3, rfl, hst, hsg, by decide, by decide, by decide, by decide, fun H1 q ws x1 st1 hq0 nq hq hws w1 w4 => ?_⟩
    refine ⟨fun σ' H' => ∃ (q : Addr) (ws : List (List Nat)), σ' = [some (.ref a), some (.ref p), some (.str (SX.S sg)), some (.ref q), none] ∧ Ex p H H' ∧ St K ns a H' p ∧ H q = none ∧ q ≠ p ∧ H' q = some (.lst (txts ws)) ∧ Uq ws ∧ 1 ≤ ws.length ∧ ws.length ≤ 4 ∧ ∀ u ∈ ws, WordL sg 3 u, ?_, ?_⟩
    · refine ⟨_, rfl, q, ws, rfl, hq, fun u hu => ?_, by omega, fun H2 b s2 hb => ⟨b, rfl, ?_⟩⟩
      · have := (hws u hu).1
        exact ⟨fun z => by rw [z] at this; exact absurd this.1 (by decide), this.2.1, fun c hcu => hc c (this.2.2 c hcu)⟩
      cases b with
      | true =>
        refine iteF ⟨q, ws, rfl, x1.trans (Same.ex s2), st1.same s2, hq0, nq, s2 _ _ hq, hb rfl, w1, by omega, fun u hu => ?_⟩
        obtain ⟨h1, h2⟩ := hws u hu
        exact ⟨h1.1, by omega, h1.2.2⟩
      | false =>
        have st2 := st1.same s2
        refine iteT ⟨_, rfl, _, rfl, _, rfl, a, p, sg, 2, 3, rfl, st2, hsg, by decide, by decide, by decide, fun H3 r us x3 st3 hr0 nr hr hpl _ u1 u40 huw => ?_⟩
        refine ⟨_, rfl, _, rfl, a, p, 4, rfl, st3, by decide, by decide, fun H4 r4 x4 st4 r40 r41 => ?_⟩
        refine ⟨_, _, rfl, rfl, _, rfl, r, _, rfl, SqL.of (x4 _ _ nr hr), fun N hN => ?_⟩
        rw [cut_take us _ (by omega)]
        have X4 := ((x1.trans (Same.ex (p := p) s2)).trans x3).trans x4
        have e : ((1 + r4).toNat : Int) = 1 + r4 := Int.toNat_of_nonneg (by omega)
        generalize (1 + r4).toNat = m at *
        refine ⟨N, us.take m, rfl, X4.trans (Ex.new _ hN), st4.same (Same.new _ hN), X4.free hN (st4.ne hN), st4.ne hN, upd_same, ?_, ?_, ?_, ?_⟩
        · exact plain_uq (hpl.sublist (List.take_sublist _ _)) fun u hu z => by
            have := (huw u (List.mem_of_mem_take hu)).1
            rw [z] at this
            exact absurd this (by decide)
        · rw [List.length_take]; omega
        · rw [List.length_take]; omega
        · exact fun u hu => huw u (List.mem_of_mem_take hu)
    rintro σ' H2 ⟨q, ws, rfl, x2, st2, hq0, nq, hq, huq, w1, w4, hw⟩
    refine ⟨fun σ' H' => ∃ (q : Addr) (ws : List (List Nat)), σ' = [some (.ref a), some (.ref p), some (.str (SX.S sg)), some (.ref q), none] ∧ Ex p H H' ∧ St K ns a H' p ∧ H q = none ∧ q ≠ p ∧ H' q = some (.lst (txts ws)) ∧ Uq ws ∧ 1 ≤ ws.length ∧ ws.length ≤ 4 ∧ ∀ u ∈ ws, WordL sg 3 u, ?_, ?_⟩
    · refine ⟨_, rfl, _, rfl, a, p, 2, rfl, st2, by decide, by decide, fun H3 r x3 st3 r0 r1 => ⟨rfl, _, rfl, ?_⟩⟩
      have hq3 := x3 _ _ nq hq
      have X3 := x2.trans x3
      refine ite2 (fun c => ?_) (fun c => ⟨q, ws, rfl, X3, st3, hq0, nq, hq3, huq, w1, w4, hw⟩)
      refine ⟨_, rfl, q, rfl, ⟨_, SqL.of hq3⟩, fun D hD => lc_list (K := K) (a := q) (xs := txts ws) (fun i H' => H' D = some (.lst (txts ((ws.take i).map List.reverse))) ∧ Same H3 H') ⟨upd_same, Same.new _ hD⟩ (fun i H' _ ⟨_, sm⟩ => SqL.of (sm _ _ hq3)) ?_ ?_⟩
      · rintro i y H4 hy ⟨hDl, sm⟩
        obtain ⟨u, hu, rfl⟩ := txt_at hy
        have hul := (hw u (List.mem_of_getElem? hu)).2.1
        have hi := (List.getElem?_eq_some_iff.mp hu).1
        refine ⟨rfl, _, rfl, _, rfl, le_size (by rw [SX.S_len]; omega), _, hDl, lt_size (by rw [txts_len, List.length_map, List.length_take]; omega), ?_, sm.updNew hD⟩
        rw [revS_S, upd_same, ← take_snoc hu, List.map_append]
        unfold txts
        rw [List.map_append]
        rfl
      · rintro H4 ⟨hDl, sm⟩
        rw [txts_len, List.take_length] at hDl
        refine ⟨D, ws.map List.reverse, rfl, X3.trans (Same.ex sm), st3.same sm, X3.free hD (st3.ne hD), st3.ne hD, hDl, uq_rev huq, by rw [List.length_map]; exact w1, by rw [List.length_map]; exact w4, fun v hv => ?_⟩
        obtain ⟨u, hu, rfl⟩ := List.mem_map.mp hv
        obtain ⟨q1, q2, q3⟩ := hw u hu
        exact ⟨by rw [List.length_reverse]; exact q1, by rw [List.length_reverse]; exact q2, fun c hc => q3 c (List.mem_reverse.mp hc)⟩
    rintro σ' H3 ⟨q, ws, rfl, x3, st3, hq0, nq, hq, huq, w1, w4, hw⟩
    exact ⟨_, rfl, k H3 q ws x3 st3 hq0 nq hq huq w1 w4 hw⟩
end
end J


set_option Elab.async false
set_option linter.all false
set_option maxRecDepth 100000
set_option maxHeartbeats 4000000
namespace J
open PySem L2
open LamX
theorem exm_own {K : PySem.W.Frag} {D : Addr} (b : PySem.W.subIn K (.ref D) (.type "BaseException") = some true) (c : PySem.W.isClsIn K D = true) (t : PySem.W.typeIn K (.ref D) = some (.type "type")) (q : PySem.W.subIn K (.ref D) (.ref D) = some true) :
    PySem.W.exmOne K (.ref D) (.ref D) = some true := by
  have c' : (PySem.W.clsIn K D).isSome = true := c
  unfold PySem.W.exmOne
  simp [b, c', t, q, PySem.W.kitCls]
theorem exm_no {K : PySem.W.Frag} {D D' : Addr} (b : PySem.W.subIn K (.ref D) (.type "BaseException") = some true) (c : PySem.W.isClsIn K D = true) (t : PySem.W.typeIn K (.ref D) = some (.type "type")) (q : PySem.W.subIn K (.ref D') (.ref D) = some false) :
    PySem.W.exmOne K (.ref D') (.ref D) = some false := by
  have c' : (PySem.W.clsIn K D).isSome = true := c
  unfold PySem.W.exmOne
  simp [b, c', t, q, PySem.W.kitCls]
theorem takes_len {X : Cx} {W : WX} (tk : Takes X W) : Takes X (fun cls d σ H => σ.length = X.N.length → W cls d σ H) := by
  rintro er ta ⟨g, B, t0, pins, τ, G, cls, d, e, J0, n, u, sky, na, o, y, q⟩
  exact tk er ta ⟨g, B, t0, pins, τ, G, cls, d, e, J0, n, u, sky, na, o, y, q J0.len⟩
/-- what is made of a call: unlike, not one way, the limit, or told -/
def TErr (CU CW CL : Addr) : (XK → Hp → VK → Prop) → Hp → VK → Prop := fun tl H Q => ∃ Ech : XK,
  (∀ cls d H', Ech cls d H' → (cls = .ref CU ∧ ∀ t, H' t = none → Q (.ref t) (upd H' t (.tup [.str "unlike"]))) ∨ (cls = .ref CW ∧ ∀ t, H' t = none → Q (.ref t) (upd H' t (.tup [.str "way"]))) ∨
    (∃ e n, cls = .ref CL ∧ d = some e ∧ H' e = some (.xd (fs_LimitExceeded (.int n))) ∧ ∀ t, H' t = none → Q (.ref t) (upd H' t (.tup [.str "limit", .int n])))) ∧
  ∀ Qr : VK, (∀ v H1, (∀ t, H1 t = none → Q (.ref t) (upd H1 t (.tup [.str "told", v]))) → Qr v H1) → tl Ech H Qr
theorem err_gives {X : Cx} (T : Tx X.K X.mg) {cdg : Value} {q : Str} : GivesTo X N_l_error "_law_error" (defScope s_l_error) T.f_l_error cdg (defBody s_l_error) "_law_call" q (TErr T.C_Unlike T.C_NotOneWay T.C_LimitExceeded) := by
  intro f c' s H Q tl act hc h
  obtain ⟨Ech, hE, htl⟩ := h
  have xI : XfC X.K T.C_InvalidLoom := ⟨T.E_InvalidLoom.hg, T.E_InvalidLoom.hk, T.E_InvalidLoom.hs, T.E_InvalidLoom.hd⟩
  have xL : XfC X.K T.C_LimitExceeded := ⟨T.E_LimitExceeded.hg, T.E_LimitExceeded.hk, T.E_LimitExceeded.hs, T.E_LimitExceeded.hd⟩
  refine ⟨_, pss_cons (ps_set (i := 1) sc_l_error.nd rfl (Or.inl rfl) pe_non) (pss_cons (ps_try_cls
      (tb := fun W D σ H => ∃ Ech : XK, (∀ cls d (σ' : L2.St) H', σ'.length = 3 → Ech cls d H' → W cls d σ' H') ∧ tAsg (tTup (tCons (tC (.str "told")) (tCons (fun σZ HZ Q => σZ[0]? = some (some (.ref f)) ∧ HZ c' = some (CodeO c' q) ∧ tl Ech HZ Q) tNil))) (gName 1) D σ H)
      (Wout := fun _ _ _ _ => False) rfl rfl L2.takes0 (fun W pn xe tk _ => ?_)
      (.named (i := 2) ⟨rfl, by decide, Or.inl T.g_InvalidLoom⟩ sc_l_error.nd rfl rfl (fun g oe cls d pn hz hf => pss_one (ps_set (i := 1) sc_l_error.nd rfl (Or.inl rfl) (by exact (pe_tup (pa_cons pe_str (pa_cons (pe_xf xI T.nx_InvalidLoom_part hz hf (pv 2)) (pa_cons (pe_xf xI T.nx_InvalidLoom_at hz hf (pv 2)) pa_nil)))))))
      (.plain ⟨rfl, by decide, Or.inl T.g_NotABook⟩ (fun g oe cls d pn hz hf => pss_one (ps_set (i := 1) sc_l_error.nd rfl (Or.inl rfl) (by exact (pe_tup (pa_cons pe_str pa_nil)))))
      (.plain ⟨rfl, by decide, Or.inl T.g_Unlike⟩ (fun g oe cls d pn hz hf => pss_one (ps_set (i := 1) sc_l_error.nd rfl (Or.inl rfl) (by exact (pe_tup (pa_cons pe_str pa_nil)))))
      (.plain ⟨rfl, by decide, Or.inl T.g_NotOneWay⟩ (fun g oe cls d pn hz hf => pss_one (ps_set (i := 1) sc_l_error.nd rfl (Or.inl rfl) (by exact (pe_tup (pa_cons pe_str pa_nil)))))
      (.named (i := 2) ⟨rfl, by decide, Or.inl T.g_LimitExceeded⟩ sc_l_error.nd rfl rfl (fun g oe cls d pn hz hf => pss_one (ps_set (i := 1) sc_l_error.nd rfl (Or.inl rfl) (by exact (pe_tup (pa_cons pe_str (pa_cons (pe_xf xL T.nx_LimitExceeded_limit hz hf (pv 2)) pa_nil)))))) .nil))))))
      (pss_one (ps_ret (pv 1)))), ?_⟩
  · refine ⟨fun pins s' σ H' D I h' => ?_⟩
    obtain ⟨Ech, hW, h3⟩ := h'
    have hp := fun p1 p2 => act _ pn xe Ech p1 p2 (takes_len tk) (fun cls d σ' H' e hl => hW cls d σ' H' hl e)
    refine (pss_one (ps_set (i := 1) sc_l_error.nd rfl (Or.inl rfl) (pe_tup (pa_cons pe_str (pa_cons (hp _ _) pa_nil))))).run pins s' σ H' D I h3
  · refine ⟨Ech, fun cls d σ' H' hl he => ?_, rfl, hc, htl _ fun v H1 k => ?_⟩
    · obtain ⟨z0, z1, z2, rfl⟩ : ∃ z0 z1 z2, σ' = [z0, z1, z2] := by
        match σ', hl with
        | [z0, z1, z2], _ => exact ⟨z0, z1, z2, rfl⟩
      rcases hE cls d H' he with ⟨rfl, k⟩ | ⟨rfl, k⟩ | ⟨e, n, rfl, rfl, hx, k⟩
      · refine ⟨false, exm_no T.E_InvalidLoom.hs T.cl_InvalidLoom T.ty_InvalidLoom T.su_Unlike_InvalidLoom, fun e => Bool.noConfusion e, fun _ => ?_⟩
        refine ⟨false, exm_no T.E_NotABook.hs T.cl_NotABook T.ty_NotABook T.su_Unlike_NotABook, fun e => Bool.noConfusion e, fun _ => ?_⟩
        refine ⟨true, exm_own T.E_Unlike.hs T.cl_Unlike T.ty_Unlike T.su_Unlike_Unlike, fun _ g hg => ?_, fun e => Bool.noConfusion e⟩
        refine ⟨le_size (by simp), fun t ht => ?_⟩
        exact ⟨_, rfl, k t ht⟩
      · refine ⟨false, exm_no T.E_InvalidLoom.hs T.cl_InvalidLoom T.ty_InvalidLoom T.su_NotOneWay_InvalidLoom, fun e => Bool.noConfusion e, fun _ => ?_⟩
        refine ⟨false, exm_no T.E_NotABook.hs T.cl_NotABook T.ty_NotABook T.su_NotOneWay_NotABook, fun e => Bool.noConfusion e, fun _ => ?_⟩
        refine ⟨false, exm_no T.E_Unlike.hs T.cl_Unlike T.ty_Unlike T.su_NotOneWay_Unlike, fun e => Bool.noConfusion e, fun _ => ?_⟩
        refine ⟨true, exm_own T.E_NotOneWay.hs T.cl_NotOneWay T.ty_NotOneWay T.su_NotOneWay_NotOneWay, fun _ g hg => ?_, fun e => Bool.noConfusion e⟩
        refine ⟨le_size (by simp), fun t ht => ?_⟩
        exact ⟨_, rfl, k t ht⟩
      · refine ⟨false, exm_no T.E_InvalidLoom.hs T.cl_InvalidLoom T.ty_InvalidLoom T.su_LimitExceeded_InvalidLoom, fun e => Bool.noConfusion e, fun _ => ?_⟩
        refine ⟨false, exm_no T.E_NotABook.hs T.cl_NotABook T.ty_NotABook T.su_LimitExceeded_NotABook, fun e => Bool.noConfusion e, fun _ => ?_⟩
        refine ⟨false, exm_no T.E_Unlike.hs T.cl_Unlike T.ty_Unlike T.su_LimitExceeded_Unlike, fun e => Bool.noConfusion e, fun _ => ?_⟩
        refine ⟨false, exm_no T.E_NotOneWay.hs T.cl_NotOneWay T.ty_NotOneWay T.su_LimitExceeded_NotOneWay, fun e => Bool.noConfusion e, fun _ => ?_⟩
        refine ⟨true, exm_own T.E_LimitExceeded.hs T.cl_LimitExceeded T.ty_LimitExceeded T.su_LimitExceeded_LimitExceeded, fun _ g hg => ?_, fun e => Bool.noConfusion e⟩
        refine ⟨_, rfl, rfl, rfl, e, _, _, rfl, hx, rfl, ?_⟩
        refine ⟨le_size (by simp), fun t ht => ?_⟩
        exact ⟨_, rfl, k t ht⟩
    · exact ⟨le_size (by simp), fun t ht => ⟨_, rfl, k t ht⟩⟩
end J


set_option Elab.async false
set_option linter.all false
set_option maxRecDepth 100000
set_option maxHeartbeats 4000000
namespace J
open PySem L2
open LamX
theorem _root_.L2.Fun.okT {P : Program} {w : World} {K : PySem.W.Frag} {mg : Str → Option Value} {base : Heap} {x qual : Str} {st : Stmt} {f : Addr} {fd : FuncData} {N ps : List Str} {k : Nat} {sp : Sp} {c : Addr} (F : Fun K x qual st f fd) (hc : fd.code = .ref c) (S : FnScope N ps (defScope st)) (len : ∀ vs H Q E, sp vs H Q E → vs.length = ps.length)
    (hbody : ∀ (A : Around) (outer : List Env) (s : Shared) (H : Hp) (vs : List V) (Q : VK) (E : XK), Room k (A.deeper (PyProof.Rows.envOfC qual (defScope st) s.heap.objs.size f (.ref c))) → sp vs H Q E →
      ∃ t, PSs (cxOf CX0 P w K mg base N qual (defScope st) f (.ref c) A outer s H E).nox (defBody st) t ∧ t { nx := fun _ H' => Q .non H', rt := Q } (start N vs) H) : FnOk P w K mg base CX0 (k + 1) f fd ps sp := by
  obtain ⟨oc, od, kV, doc, pm, an, cdv, ct, osl, rfl, lk, hcd⟩ := F.ex
  obtain rfl : cdv = .ref c := hc
  refine fn_of lk hcd S len fun A outer s H vs Q E hr hsp => ?_
  obtain ⟨t, h, q⟩ := hbody A outer s H vs Q E hr hsp
  exact ⟨t, h.nox, q⟩
/-- the script where tables may change -/
def ScrN (K : PySem.W.Frag) (ns : List Int) (a : Addr) (H : Hp) (p : Addr) : Prop :=
  (∃ o, H a = some o ∧ a ≠ p ∧ (∀ ps, o ≠ .tbl ps) ∧ ∀ H' : Hp, H' a = some o → SqL K H' a (ns.map V.int)) ∨ ∀ H' : Hp, SqL K H' a (ns.map V.int)
theorem ScrN.mk {K : PySem.W.Frag} {ns : List Int} {a p : Addr} {H : Hp} (h : SqL K H a (ns.map V.int)) (hp : H p = none) : ScrN K ns a H p := by
  rcases h with h | h
  · rcases h with h | ⟨o, h⟩
    · exact .inl ⟨_, h, fun z => hp_ne h hp z.symm, fun ps z => (nomatch z), fun H' h' => .inl (.inl h')⟩
    · exact .inl ⟨_, h, fun z => hp_ne h hp z.symm, fun ps z => (nomatch z), fun H' h' => .inl (.inr ⟨o, h'⟩)⟩
  · exact .inr fun H' => .inr h
theorem ScrN.scr {K : PySem.W.Frag} {ns : List Int} {a p : Addr} {H : Hp} (h : ScrN K ns a H p) : Scr K ns a H p := fun H' x => by
  rcases h with ⟨o, h1, h2, h3, h4⟩ | h
  · exact h4 H' (x _ _ h2 h1)
  · exact h H'
theorem ScrN.ex {K : PySem.W.Frag} {ns : List Int} {a p : Addr} {H H' : Hp} (h : ScrN K ns a H p) (x : Ex p H H') : ScrN K ns a H' p := by
  rcases h with ⟨o, h1, h2, h3, h4⟩ | h
  · exact .inl ⟨o, x _ _ h2 h1, h2, h3, h4⟩
  · exact .inr h
theorem ScrN.same {K : PySem.W.Frag} {ns : List Int} {a p : Addr} {H H' : Hp} (h : ScrN K ns a H p) (x : Same H H') : ScrN K ns a H' p := h.ex (Same.ex x)
theorem ScrN.extN {K : PySem.W.Frag} {ns : List Int} {a p : Addr} {H H' : Hp} (h : ScrN K ns a H p) (x : ExtN H H') : ScrN K ns a H' p := by
  rcases h with ⟨o, h1, h2, h3, h4⟩ | h
  · exact .inl ⟨o, x _ _ h1 h3, h2, h3, h4⟩
  · exact .inr h
theorem PoolAt.extN {H H' : Hp} {p : Addr} (h : PoolAt H p) (x : ExtN H H') : PoolAt H' p := by
  obtain ⟨a, b, c, d, h1, h2⟩ := h
  exact ⟨a, b, c, d, x _ _ h1 (fun ps z => (nomatch z)), h2⟩
theorem LoomAt.extN {C : Addr} {H H' : Hp} {p : Addr} {sg : List Nat} {us : List V} {as : List Arc} (h : LoomAt C H p sg us as) (x : ExtN H H') : LoomAt C H' p sg us as := by
  obtain ⟨dx, T, h1, h2, h3, h4, h5⟩ := h
  refine ⟨dx, T, x _ _ h1 (fun ps z => (nomatch z)), x _ _ h2 (fun ps z => (nomatch z)), ⟨h3.1, fun i a ha => ?_⟩, h4, h5⟩
  obtain ⟨t, e1, e2⟩ := h3.2 i a ha
  exact ⟨t, e1, x _ _ e2 (fun ps z => (nomatch z))⟩
theorem Tabs.ex {T : List (Addr × Str)} {H H' : Hp} {p : Addr} (h : Tabs T H) (x : Ex p H H') (g : PoolAt H p) : Tabs T H' := fun q hq => by
  obtain ⟨a, b, c, d, hp, _⟩ := g
  obtain ⟨ps, h1, h2, h3⟩ := h q hq
  refine ⟨ps, x _ _ (fun z => by rw [z, hp] at h1; cases h1) h1, h2, fun pos cv hc => ?_⟩
  obtain ⟨c', e1, e2⟩ := h3 pos cv hc
  refine ⟨c', e1, x _ _ (fun z => ?_) e2⟩
  rw [z, hp] at e2
  have e3 := Option.some.inj e2
  unfold CodeO at e3
  cases e3
theorem Tabs.same {T : List (Addr × Str)} {H H' : Hp} (h : Tabs T H) (s : Same H H') : Tabs T H' := h.ext s
/-- all that the law keeps -/
structure Lw (K : PySem.W.Frag) (ns : List Int) (a P : Addr) (ql : Str) (H : Hp) (p : Addr) : Prop where
  pool : PoolAt H p
  scr : ScrN K ns a H p
  tab : Tabs [(P, ql)] H
theorem Lw.st {K : PySem.W.Frag} {ns : List Int} {a P : Addr} {ql : Str} {H : Hp} {p : Addr} (h : Lw K ns a P ql H p) : St K ns a H p := ⟨h.pool, h.scr.scr⟩
theorem Lw.ex {K : PySem.W.Frag} {ns : List Int} {a P : Addr} {ql : Str} {H H' : Hp} {p : Addr} (h : Lw K ns a P ql H p) (x : Ex p H H') (g : PoolAt H' p) : Lw K ns a P ql H' p := ⟨g, h.scr.ex x, Tabs.ex h.tab x h.pool⟩
theorem Lw.same {K : PySem.W.Frag} {ns : List Int} {a P : Addr} {ql : Str} {H H' : Hp} {p : Addr} (h : Lw K ns a P ql H p) (s : Same H H') : Lw K ns a P ql H' p := ⟨h.pool.same s, h.scr.same s, Tabs.same h.tab s⟩
theorem cutS_to (x : List Nat) (k : Nat) : cutS (SX.S x) none (some (k : Int)) = SX.S (x.take k) := by
  unfold cutS
  rw [HT.sIx_nat, HT.sIx_none, SX.S_len]
  show SX.S ((x.drop 0).take (min k x.length - 0)) = _
  rw [List.drop_zero, Nat.sub_zero, ← List.take_take, List.take_length]
theorem LoomAt.exp {C : Addr} {H H' : Hp} {p p' : Addr} {sg : List Nat} {us : List V} {as : List Arc} (h : LoomAt C H p sg us as) (x : Ex p' H H') (g : PoolAt H p') : LoomAt C H' p sg us as := by
  obtain ⟨b0, b1, b2, b3, hp, _⟩ := g
  obtain ⟨dx, T, h1, h2, h3, h4, h5⟩ := h
  exact ⟨dx, T, x _ _ (fun z => by rw [z, hp] at h1; cases h1) h1, x _ _ (fun z => by rw [z, hp] at h2; cases h2) h2, h3.ex x hp, h4, h5⟩
/-- what stands in a turn -/
structure Fx (C p q b : Addr) (sg : List Nat) (ws : List (List Nat)) (H : Hp) : Prop where
  hq : H q = some (.lst (txts ws))
  nq : q ≠ p
  l1 : ∃ us, LoomAt C H b sg us (bka ws)
theorem Fx.same {C p q b : Addr} {sg : List Nat} {ws : List (List Nat)} {H H' : Hp} (h : Fx C p q b sg ws H) (s : Same H H') : Fx C p q b sg ws H' :=
  ⟨s _ _ h.hq, h.nq, h.l1.imp fun _ l => l.same s⟩
theorem Fx.extN {C p q b : Addr} {sg : List Nat} {ws : List (List Nat)} {H H' : Hp} (h : Fx C p q b sg ws H) (s : ExtN H H') : Fx C p q b sg ws H' :=
  ⟨s _ _ h.hq (fun ps z => (nomatch z)), h.nq, h.l1.imp fun _ l => LoomAt.extN l s⟩
theorem Fx.ex {C p q b : Addr} {sg : List Nat} {ws : List (List Nat)} {H H' : Hp} (h : Fx C p q b sg ws H) (x : Ex p H H') (g : PoolAt H p) : Fx C p q b sg ws H' :=
  ⟨x _ _ h.nq h.hq, h.nq, h.l1.imp fun _ l => l.exp x g⟩
theorem Lw.extN {K : PySem.W.Frag} {ns : List Int} {a P : Addr} {ql : Str} {H H' : Hp} {p : Addr} (h : Lw K ns a P ql H p) (x : ExtN H H') (t : Tabs [(P, ql)] H') : Lw K ns a P ql H' p := ⟨PoolAt.extN h.pool x, h.scr.extN x, t⟩
theorem ne_tup {K : PySem.W.Frag} {H : Hp} {a b : Addr} {xs : List V} {ds : List PyData} {Q : VK} (ha : H a = some (.tup xs)) (hb : H b = some (.tup xs)) (hd : DpAll K H xs ds) (hs : SeqAt.shaped (.tuple ds) = true) (q : Q (.bl false) H) : rNeD K (.ref a) (.ref b) H Q := by
  refine ⟨_, _, .tup (SqT.of ha) hd, .tup (SqT.of hb) hd, hs, hs, ?_⟩
  rw [SeqAt.eqv_refl _ (SeqAt.canLay_of_shaped hs)]
  exact q
def qLam : Str := Str.ofString "law" ++ Str.ofString ".<locals>." ++ "<lambda>"
def spLaw (K : PySem.W.Frag) (Pt : Addr) : Sp := fun vs H Q _ => ∃ (a : Addr) (ns : List Int), vs = [.ref a] ∧ SqL K H a (ns.map V.int) ∧ ns.length ≤ 63 ∧ H Pt = some (.tbl #[]) ∧ ∀ H', Q (.bl true) H'
end J


set_option Elab.async false
set_option linter.all false
set_option maxRecDepth 100000
set_option maxHeartbeats 4000000
namespace J
open PySem L2
/-! ### what the law of k35 asks of books -/
theorem signs5 {v : V} (h : v ∈ ([.str "ab", .str "ab", .str "abc", .str "xz", .str "a"] : List V)) : ∃ sg, v = .str (SX.S sg) ∧ Signs sg ∧ sg ≠ [98, 102] := by
  simp only [List.mem_cons, List.not_mem_nil, or_false] at h
  rcases h with rfl | rfl | rfl | rfl | rfl
  · exact ⟨[97, 98], rfl, by decide, by decide⟩
  · exact ⟨[97, 98], rfl, by decide, by decide⟩
  · exact ⟨[97, 98, 99], rfl, by decide, by decide⟩
  · exact ⟨[120, 122], rfl, by decide, by decide⟩
  · exact ⟨[97], rfl, by decide, by decide⟩
theorem idx4 {n : Nat} (h1 : 1 ≤ n) (h4 : n ≤ 4) : abcdL.take n ∈ lets ∧ (∀ c ∈ abcdL.take n, abcdL.idxOf c = (abcdL.take n).idxOf c ∧ c ∈ abcdL) ∧ ∀ i, i < n → (abcdL.take n).idxOf (abcdL.getD i 0) = i := by
  have : n = 1 ∨ n = 2 ∨ n = 3 ∨ n = 4 := by omega
  rcases this with rfl | rfl | rfl | rfl <;> decide
theorem abcd_lets : abcdL ∈ lets := by decide
/-- a row's letters stand for its words -/
theorem spell_ltr {ws : List (List Nat)} (h1 : 1 ≤ ws.length) (h4 : ws.length ≤ 4) {r : List Nat} (hr : Val ws r) : spell ws (abcdL.take ws.length) (ltr r) = txR ws r := by
  obtain ⟨_, _, hi⟩ := idx4 h1 h4
  unfold spell txR ltr
  rw [List.map_map]
  congr 1
  refine List.map_congr_left fun i hir => ?_
  show pc ws (abcdL.take ws.length) (abcdL.getD i 0) = ws.getD i []
  unfold pc
  rw [hi i (hr i hir)]
theorem spell_outU {ws : List (List Nat)} (hw : Wd (bka ws)) (hu : Uq ws) (h1 : 1 ≤ ws.length) (h4 : ws.length ≤ 4) {x : List Nat} (hx : rdg (bka ws) 0 x ≠ []) : spell ws (abcdL.take ws.length) (outU ws x) = x := by
  rcases uq_rdg hw hu x with z | ⟨r, z, hv, ht⟩
  · exact absurd z hx
  · unfold outU
    rw [z]
    show spell ws _ (ltr r) = x
    rw [spell_ltr h1 h4 hv, ← ht]
theorem outU_word {sg : List Nat} {ws : List (List Nat)} (hW : ∀ u ∈ ws, Word sg u) (hu : Uq ws) (h4 : ws.length ≤ 4) {x : List Nat} (hx : Word sg x) (hr : rdg (bka ws) 0 x ≠ []) : Word (abcdL.take ws.length) (outU ws x) := by
  rcases uq_rdg (wd_book hW) hu x with z | ⟨r, z, hv, ht⟩
  · exact absurd z hr
  · unfold outU
    rw [z]
    show Word _ (ltr r)
    have l1 := val_len (fun v hv => (hW v hv).1) hv
    rw [← ht] at l1
    refine ⟨?_, ?_, fun c hc => ?_⟩
    · unfold ltr
      rw [List.length_map]
      cases r with
      | nil =>
        rw [txR_nil] at ht
        have := hx.1
        rw [ht] at this
        simp at this
      | cons a b => simp
    · unfold ltr
      rw [List.length_map]
      have := hx.2.1
      omega
    · obtain ⟨i, hi, rfl⟩ := List.mem_map.mp hc
      exact (ltr_at (hv i hi) h4).2
theorem due_some {ws : List (List Nat)} {x : List Nat} (hx : rdg (bka ws) 0 x ≠ []) : ov (due ws x) = .str (SX.S (outU ws x)) := by
  unfold due outU
  cases h : rdg (bka ws) 0 x with
  | nil => exact absurd h hx
  | cons a b => rfl
theorem due_non {ws : List (List Nat)} {x : List Nat} : ov (due ws x) = .non ↔ rdg (bka ws) 0 x = [] := by
  unfold due
  cases h : rdg (bka ws) 0 x with
  | nil => exact ⟨fun _ => rfl, fun _ => rfl⟩
  | cons a b => exact ⟨fun z => (nomatch z), fun z => (nomatch z)⟩
/-- the book of the inner words themselves -/
theorem outU_self {ws : List (List Nat)} (hw : Wd (bka ws)) (hu : Uq ws) (h4 : ws.length ≤ 4) : (∀ u ∈ ws, rdg (bka ws) 0 u ≠ []) ∧ ws.map (outU ws) = ones (abcdL.take ws.length) := by
  have one : ∀ i, i < ws.length → rdg (bka ws) 0 (ws.getD i []) = [[i]] := fun i hi => by
    have := rdg_of hw hu (r := [i]) (fun j hj => by rw [List.mem_singleton.mp hj]; exact hi)
    rwa [txR_one] at this
  constructor
  · intro u hum
    obtain ⟨i, hi, e⟩ := List.mem_iff_getElem.mp hum
    have := one i hi
    rw [List.getD_eq_getElem?_getD, List.getElem?_eq_getElem hi, e] at this
    change rdg (bka ws) 0 u = _ at this
    rw [this]
    simp
  · apply List.ext_getElem?
    intro i
    unfold ones
    rw [List.getElem?_map, List.getElem?_map]
    by_cases hi : i < ws.length
    · rw [at_getD hi, (ltr_at hi h4).1]
      show some (outU ws (ws.getD i [])) = some [abcdL.getD i 0]
      unfold outU
      rw [one i hi]
      rfl
    · rw [List.getElem?_eq_none (by omega : ws.length ≤ i), List.getElem?_eq_none (by rw [List.length_take]; omega)]
      rfl
theorem ones_word (lt : List Nat) : ∀ u ∈ ones lt, Word lt u := fun u hu => by
  obtain ⟨c, hc, rfl⟩ := List.mem_map.mp hu
  exact ⟨by simp, by simp, fun d hd => by rw [List.mem_singleton.mp hd]; exact hc⟩
def five : List (List Nat) := [[97, 97], [97, 98], [97, 99], [98, 97], [98, 98]]
instance (ws : List (List Nat)) : Decidable (Plain ws) := by unfold Plain; infer_instance
theorem five_uq : Uq five := plain_uq (by decide) (by decide)
theorem inV_due (ws : List (List Nat)) (ms : List (List Nat)) : inV V.non (ms.map fun u => ov (due ws u)) = decide (∃ u ∈ ms, rdg (bka ws) 0 u = []) := by
  unfold inV
  rw [List.any_map]
  have key : ∀ u, eqV (ov (due ws u)) V.non = decide (rdg (bka ws) 0 u = []) := fun u => by
    unfold due
    cases h : rdg (bka ws) 0 u with
    | nil => rfl
    | cons a b => rfl
  by_cases c : ∃ u ∈ ms, rdg (bka ws) 0 u = []
  · rw [decide_eq_true c, List.any_eq_true]
    obtain ⟨u, hu, e⟩ := c
    refine ⟨u, hu, ?_⟩
    show eqV (ov (due ws u)) V.non = true
    rw [key, decide_eq_true e]
  · rw [decide_eq_false c, List.any_eq_false]
    intro u hu
    show ¬ eqV (ov (due ws u)) V.non = true
    rw [key]
    intro z
    exact c ⟨u, hu, of_decide_eq_true z⟩
theorem flat_due (ws : List (List Nat)) (ms : List (List Nat)) : (ms.map fun u => ov (due ws u)).all flatV = true := by
  rw [List.all_map, List.all_eq_true]
  intro u _
  show flatV (ov (due ws u)) = true
  cases due ws u <;> rfl
theorem due_txts {ws : List (List Nat)} {ms : List (List Nat)} (h : ∀ u ∈ ms, rdg (bka ws) 0 u ≠ []) : (ms.map fun u => ov (due ws u)) = txts (ms.map (outU ws)) := by
  unfold txts
  rw [List.map_map]
  exact List.map_congr_left fun u hu => due_some (h u hu)
theorem ne_loom {C : Addr} {H : Hp} {a b : Addr} {sg : List Nat} {us us' : List V} {as : List Arc} {Q : VK} (h1 : LoomAt C H a sg us as) (h2 : LoomAt C H b sg us' as) (k : ∀ H', Same H H' → Q (.bl false) H') : rNeB C (Eql C) (.ref a) (.ref b) H Q := by
  obtain ⟨dx, T, q1, _⟩ := id h1
  obtain ⟨dy, T', q2, _⟩ := id h2
  exact ⟨a, b, _, _, _, _, true, rfl, rfl, q1, q2, ⟨sg, us, as, sg, us', as, h1, h2, by simp⟩, fun H' x => k H' x⟩
def scL : Scope := { kind := ScopeKind.function, names := [(Str.ofString ".0", NameKind.local), (Str.ofString "_law_word_here", NameKind.local), (Str.ofString "_law_words_here", NameKind.cell)], isGenerator := false, isCoroutine := false }
theorem spell_take {sg : List Nat} {ws : List (List Nat)} (h1 : 1 ≤ ws.length) (h4 : ws.length ≤ 4) (hw : ∀ u ∈ ws, WordL sg 3 u) {u : List Nat} (hu : Word (abcdL.take ws.length) u) (hu4 : u.length ≤ 4) : Word sg (spell ws (abcdL.take ws.length) u) := by
  have hll := (abcdL_signs h1 h4).2
  refine spell_word (Nat.le_of_eq hll) (fun v hv => (hw v hv).word (by decide)) hu ?_
  have h := flat_len (ls := u.map (pc ws (abcdL.take ws.length))) (k := 3) fun l h => by
    obtain ⟨c, hc, rfl⟩ := List.mem_map.mp h
    exact (hw _ (pc_at (Nat.le_of_eq hll) (hu.2.2 c hc)).2).2.1
  rw [List.length_map] at h
  unfold spell
  omega
end J


set_option Elab.async false
set_option linter.all false
set_option maxRecDepth 100000
set_option maxHeartbeats 4000000
namespace J
open PySem L2
open LamX
section
variable {P : Program} {w : World} {K : PySem.W.Frag} {mg : Str → Option Value} {base : Heap}
theorem ok_law (T : Tx K mg) (TB : TabB base mg T.cLaw T.pLaw) : FnOk P w K mg base CX0 10 T.f_law T.fd_law P_law (spLaw K T.pLaw) := by
  refine T.F_law.okT T.co_law sc_law (fun vs H Q E h => ?_) (fun A outer s H vs Q E hr h => ?_)
  · obtain ⟨a, ns, rfl, _⟩ := h
    rfl
  · obtain ⟨a, ns, rfl, hS, hlen, hTab, k⟩ := h
    have G_l_take : FnOk P w K mg base CX0 1 T.f_l_take T.fd_l_take P_l_take (spTake K ns) := ok_l_take T ns
    have G_l_word : FnOk P w K mg base CX0 2 T.f_l_word T.fd_l_word P_l_word (spWord K ns) := ok_l_word T ns
    have G_l_words : FnOk P w K mg base CX0 3 T.f_l_words T.fd_l_words P_l_words (spWords K ns) := ok_l_words T ns
    have G_l_inner : FnOk P w K mg base CX0 4 T.f_l_inner T.fd_l_inner P_l_inner (spInner K ns) := ok_l_inner T ns
    have G_l_shuffled : FnOk P w K mg base CX0 2 T.f_l_shuffled T.fd_l_shuffled P_l_shuffled (spShuf K ns) := ok_l_shuffled T ns
    have G_book : FnOk P w K mg base CX0 6 T.f_book T.fd_book P_book (spBook T.C_Loom) := ok_book T
    have G_joined : FnOk P w K mg base (L2.CX P w) 7 T.f_joined T.fd_joined P_joined (spJoined T.C_Loom T.C_Unlike T.C_LimitExceeded) := ok_joined T
    have G_apart : FnOk P w K mg base (L2.CX P w) 7 T.f_apart T.fd_apart P_apart (spApart T.C_Loom T.C_NotOneWay T.C_LimitExceeded T.C_Unlike) := ok_apart T
    have G_l_spelled : FnOk P w K mg base CX0 1 T.f_l_spelled T.fd_l_spelled P_l_spelled spSpelled := ok_l_spelled T
    have G_Loom_eq : FnOk P w K mg base CX0 1 T.f_Loom_eq T.fd_Loom_eq P_Loom_eq (spEqB (Eql T.C_Loom)) := ok_Loom_eq T
    have KB_apart_a_book_inner : KBn K T.fd_apart P_apart 0 ["a_book", "inner"] (fun _ ws => ws) (fun _ zs => zs) :=
      T.F_apart.kbinds (fun x => x) (fun _ _ _ _ _ _ ws hl => match ws, hl with | [_, _], _ => rfl) (fun h => h)
    obtain ⟨ocE, odE, kVE, docE, pmE, anE, cdvE, ctE, oslE, hfd, lkE, hcE⟩ := T.F_l_error.ex
    rw [hfd] at lkE
    have bE : Binds K (PySem.W.fnOf "_law_error" "_law_error" (defArgs s_l_error) (defBody s_l_error) (defScope s_l_error) .none kVE docE pmE anE cdvE ctE) P_l_error [] := hfd ▸ T.b_l_error
    have hu : ∀ p ∈ [(T.pLaw, qLam)], p.1 = T.pLaw → p.2 = qLam := fun p hp _ => by rw [List.mem_singleton.mp hp]
    refine ⟨_, (pss_cons (ps_set (i := 1) sc_law.nd rfl (Or.inl rfl) (pe_lst (pa_cons pe_int (pa_cons pe_int (pa_cons pe_int (pa_cons pe_int pa_nil))))))
        (pss_cons (ps_for PassesOwn.never rfl (pi_range1 rfl T.n_range (pa_cons pe_int pa_nil)) (pg_name (i := 2) sc_law.nd rfl (Or.inl rfl)) (pss_cons (ps_set (i := 3) sc_law.nd rfl (Or.inr rfl) (pe_ix (ix_listK (K := K) rfl) (pe_lst (pa_cons pe_str (pa_cons pe_str (pa_cons pe_str (pa_cons pe_str (pa_cons pe_str pa_nil)))))) (pe_call G_l_take (hr.mono (by decide)) rfl T.m_l_take T.F_l_take.kp T.b_l_take .nil pass0 (pa_cons (pv 0) (pa_cons (pv 1) (pa_cons pe_int pa_nil)))) (fun _ _ => rfl)))
        (pss_cons (ps_set (i := 4) sc_law.nd rfl (Or.inr rfl) (pe_call G_l_inner (hr.mono (by decide)) rfl T.m_l_inner T.F_l_inner.kp T.b_l_inner .nil pass0 (pa_cons (pv 0) (pa_cons (pv 1) (pa_cons (pv 3) pa_nil)))))
        (pss_cons (ps_set (i := 5) sc_law.nd rfl (Or.inl rfl) (pe_slice sl_str pe_str po_none (po_some (pe_callB (call_len_seqK (K := K) rfl) rfl T.n_len (by decide +kernel) (pa_cons (pv 4) pa_nil)))))
        (pss_cons (ps_set (i := 6) sc_law.nd rfl (Or.inr rfl) (pe_call G_book (hr.mono (by decide)) rfl T.m_book T.F_book.kp T.b_book .nil pass0 (pa_cons (pv 3) (pa_cons (pv 4) pa_nil))))
        (pss_cons (ps_setLc (i := 7) (own := [("_law_word_here", 12)]) (g := (gName 12)) rfl sc_law.nd rfl rfl (sw_true rfl rfl rfl (by decide +kernel)) (pi_list (pe_call G_l_words (hr.mono (by decide)) rfl T.m_l_words T.F_l_words.kp T.b_l_words .nil pass0 (pa_cons (pv 0) (pa_cons (pv 1) (pa_cons (pv 5) (pa_cons pe_int (pa_cons pe_int pa_nil))))))) (blkOk_by (N := N_law) (sc := defScope s_law) (by decide +kernel)) (fun _ _ _ _ _ => (pg_name (i := 12) sc_law.nd rfl (Or.inl rfl))) (fun _ _ _ _ _ => (pts_one (pt_cmpR op_lt (pe_op op_mul (pe_callB call_len_str rfl T.n_len (by decide +kernel) (pa_cons (pv 12) pa_nil)) pe_int) pe_int (nomark _)))) (fun _ _ _ _ _ => (pv 12)))
        (pss_cons (ps_setLc (i := 8) (own := [("_law_word_here", 12)]) (g := (gName 12)) rfl sc_law.nd rfl rfl (sw_true rfl rfl rfl (by decide +kernel)) (pi_list (pv 7)) (blkOk_by (N := N_law) (sc := defScope s_law) (by decide +kernel)) (fun _ _ _ _ _ => (pg_name (i := 12) sc_law.nd rfl (Or.inl rfl))) (fun _ _ _ _ _ => pts_nil) (fun _ _ _ _ _ => (pe_joinK (K := K) rfl pe_str (pe_lc (own := [("_law_sign", 14)]) (g := (gName 14)) rfl sc_law.nd (pi_str (pv 12)) (blkOk_by (N := N_law) (sc := scL) (by decide +kernel)) (fun _ _ _ _ _ => (pg_name (i := 14) sc_law.nd rfl (Or.inl rfl))) (fun _ _ _ _ _ => pts_nil) (fun _ _ _ _ _ => (pe_ix (ix_listK (K := K) rfl) (pv 4) (pe_bmK (K := K) rfl PySem.F.plainAttrs_str PySem.F.slot_str_index PySem.F.type_str_index mt_sindex pe_str (pa_cons (pv 14) pa_nil)) (fun _ _ => rfl)))))))
        (C8.pss_cut (ps_if (pt_cmpR op_eq (pe_call G_l_take (hr.mono (by decide)) rfl T.m_l_take T.F_l_take.kp T.b_l_take .nil pass0 (pa_cons (pv 0) (pa_cons (pv 1) (pa_cons pe_int pa_nil)))) pe_int (nomark _)) (pss_one (ps_expr (pe_bm PySem.F.plainAttrs_list PySem.F.slot_list_append PySem.F.type_list_append mt_append (pv 8) (pa_cons (pe_call G_l_word (hr.mono (by decide)) rfl T.m_l_word T.F_l_word.kp T.b_l_word .nil pass0 (pa_cons (pv 0) (pa_cons (pv 1) (pa_cons (pv 3) (pa_cons pe_int pa_nil))))) pa_nil)))) pss_nil)
        (C8.pss_cut (ps_set (i := 8) sc_law.nd rfl (Or.inl rfl) (pe_ifExp (pt_cmpR (op_neD hr.units) (pv 8) (pe_lst pa_nil) (nomark _)) (pe_call G_l_shuffled (hr.mono (by decide)) rfl T.m_l_shuffled T.F_l_shuffled.kp T.b_l_shuffled .nil pass0 (pa_cons (pv 0) (pa_cons (pv 1) (pa_cons (pv 8) pa_nil)))) (pe_lst (pa_cons (pe_ix ix_str (pv 3) pe_int (fun _ _ => rfl)) pa_nil))))
        (pss_cons (ps_setLc (i := 9) (own := [("_law_text", 13)]) (g := (gName 13)) rfl sc_law.nd rfl rfl (sw_true rfl rfl rfl (by decide +kernel)) (pi_list (pv 8)) (blkOk_by (N := N_law) (sc := defScope s_law) (by decide +kernel)) (fun _ _ _ _ _ => (pg_name (i := 13) sc_law.nd rfl (Or.inl rfl))) (fun _ _ _ _ _ => pts_nil) (fun _ _ _ _ _ => (pe_call G_l_spelled (hr.mono (by decide)) rfl T.m_l_spelled T.F_l_spelled.kp T.b_l_spelled .nil pass0 (pa_cons (pv 4) (pa_cons (pv 13) pa_nil)))))
        (C8.pss_cut (ps_set (i := 10) sc_law.nd rfl (Or.inl rfl) (pe_call G_apart (hr.mono (by decide)) rfl T.m_apart T.F_apart.kp T.b_apart .nil passL (pa_cons (pe_call G_book (hr.mono (by decide)) rfl T.m_book T.F_book.kp T.b_book .nil pass0 (pa_cons (pv 3) (pa_cons (pv 8) pa_nil))) (pa_cons (pv 6) pa_nil))))
        (C8.pss_cut (ps_if (pt_cmpR op_in_seq pe_non (pv 9) rfl) (pss_one (ps_if (pt_cmpR op_notN (pv 10) pe_non (nomark _)) (pss_one (ps_ret pe_bl)) pss_nil)) (pss_one (ps_if (PW.pt (pw_or (pt_cmpR (op_neB (C := T.C_Loom) G_Loom_eq T.eq_Loom T.fn_Loom_eq T.ne_Loom T.im_Loom T.b_Loom_eq pass0 (hr.mono (by decide))) (pv 10) (pe_call G_book (hr.mono (by decide)) rfl T.m_book T.F_book.kp T.b_book .nil pass0 (pa_cons (pv 5) (pa_cons (pv 9) pa_nil))) (nomark _)) (pw_or1 (pt_cmpR (op_neB (C := T.C_Loom) G_Loom_eq T.eq_Loom T.fn_Loom_eq T.ne_Loom T.im_Loom T.b_Loom_eq pass0 (hr.mono (by decide))) (pe_call G_joined (hr.mono (by decide)) rfl T.m_joined T.F_joined.kp T.b_joined .nil passL (pa_cons (pv 6) (pa_cons (pv 10) pa_nil))) (pe_call G_book (hr.mono (by decide)) rfl T.m_book T.F_book.kp T.b_book .nil pass0 (pa_cons (pv 3) (pa_cons (pv 8) pa_nil))) (nomark _))))) (pss_one (ps_ret pe_bl)) pss_nil)))
        (pss_cons (ps_if (pt_cmpR (op_neB (C := T.C_Loom) G_Loom_eq T.eq_Loom T.fn_Loom_eq T.ne_Loom T.im_Loom T.b_Loom_eq pass0 (hr.mono (by decide))) (pe_callN0 G_apart (hr.mono (by decide)) rfl T.m_apart T.F_apart.kp KB_apart_a_book_inner passL (pk_cons (pv 6) (pk_cons (pv 6) pk_nil))) (pe_call G_book (hr.mono (by decide)) rfl T.m_book T.F_book.kp T.b_book .nil pass0 (pa_cons (pv 5) (pa_cons (pe_lc (own := [("_law_sign", 14)]) (g := (gName 14)) rfl sc_law.nd (pi_str (pv 5)) (blkOk_by (N := N_law) (sc := defScope s_law) (by decide +kernel)) (fun _ _ _ _ _ => (pg_name (i := 14) sc_law.nd rfl (Or.inl rfl))) (fun _ _ _ _ _ => pts_nil) (fun _ _ _ _ _ => (pv 14))) pa_nil))) (nomark _)) (pss_one (ps_ret pe_bl)) pss_nil)
        (pss_cons (ps_set (i := 11) sc_law.nd rfl (Or.inr rfl) (pe_call G_book (hr.mono (by decide)) rfl T.m_book T.F_book.kp T.b_book .nil pass0 (pa_cons pe_str (pa_cons (pe_lst (pa_cons pe_str (pa_cons pe_str (pa_cons pe_str (pa_cons pe_str (pa_cons pe_str pa_nil)))))) pa_nil))))
        (C8.pss_cut (ps_if (pt_cmpR (op_neD hr.units) (pe_lamcall (k := 7) (T := [(T.pLaw, qLam)]) (TT := TErr T.C_Unlike T.C_NotOneWay T.C_LimitExceeded) (a := "_law_call") rfl T.m_l_error T.F_l_error.kp lkE hcE bE sc_l_error rfl (Or.inl rfl) (err_gives (X := (cxOf CX0 P w K mg base N_law "law" (defScope s_law) T.f_law (.ref T.cLaw) A outer s H E).nox) T) TB rfl (List.mem_singleton.mpr rfl) hu (hr.mono (by decide)) (lamS_by (sc := defScope s_law) (by decide +kernel)) rfl (fun _ _ _ _ _ => rfl) (fun A outer s H E f c' hr2 => (pe_callS G_apart (hr2.mono (by decide)) rfl T.m_apart T.F_apart.kp T.b_apart (fun σ => passAt (takes_of rfl rfl rfl rfl) σ) (pa_cons (pv 11) (pa_cons (pv 11) pa_nil))))) (pe_tup (pa_cons pe_str (pa_cons pe_int pa_nil))) (nomark _)) (pss_one (ps_ret pe_bl)) pss_nil)
        (C8.pss_cut (ps_if (pt_cmpR (op_neD hr.units) (pe_lamcall (k := 7) (T := [(T.pLaw, qLam)]) (TT := TErr T.C_Unlike T.C_NotOneWay T.C_LimitExceeded) (a := "_law_call") rfl T.m_l_error T.F_l_error.kp lkE hcE bE sc_l_error rfl (Or.inl rfl) (err_gives (X := (cxOf CX0 P w K mg base N_law "law" (defScope s_law) T.f_law (.ref T.cLaw) A outer s H E).nox) T) TB rfl (List.mem_singleton.mpr rfl) hu (hr.mono (by decide)) (lamS_by (sc := defScope s_law) (by decide +kernel)) rfl (fun _ _ _ _ _ => rfl) (fun A outer s H E f c' hr2 => (pe_callS G_apart (hr2.mono (by decide)) rfl T.m_apart T.F_apart.kp T.b_apart (fun σ => passAt (takes_of rfl rfl rfl rfl) σ) (pa_cons (pv 6) (pa_cons (pe_call G_book (hr2.mono (by decide)) rfl T.m_book T.F_book.kp T.b_book .nil pass0 (pa_cons (pv 3) (pa_cons (pe_op op_cat (pv 4) (pv 4)) pa_nil))) pa_nil))))) (pe_tup (pa_cons pe_str pa_nil)) (nomark _)) (pss_one (ps_ret pe_bl)) pss_nil)
        (pss_one (ps_if (pt_cmpR (op_neD hr.units) (pe_lamcall (k := 7) (T := [(T.pLaw, qLam)]) (TT := TErr T.C_Unlike T.C_NotOneWay T.C_LimitExceeded) (a := "_law_call") rfl T.m_l_error T.F_l_error.kp lkE hcE bE sc_l_error rfl (Or.inl rfl) (err_gives (X := (cxOf CX0 P w K mg base N_law "law" (defScope s_law) T.f_law (.ref T.cLaw) A outer s H E).nox) T) TB rfl (List.mem_singleton.mpr rfl) hu (hr.mono (by decide)) (lamS_by (sc := defScope s_law) (by decide +kernel)) rfl (fun _ _ _ _ _ => rfl) (fun A outer s H E f c' hr2 => (pe_callS G_apart (hr2.mono (by decide)) rfl T.m_apart T.F_apart.kp T.b_apart (fun σ => passAt (takes_of rfl rfl rfl rfl) σ) (pa_cons (pv 6) (pa_cons (pe_call G_book (hr2.mono (by decide)) rfl T.m_book T.F_book.kp T.b_book .nil pass0 (pa_cons pe_str (pa_cons (pe_lst (pa_cons pe_str (pa_cons pe_str pa_nil))) pa_nil))) pa_nil))))) (pe_tup (pa_cons pe_str pa_nil)) (nomark _)) (pss_one (ps_ret pe_bl)) pss_nil))))))))))))))))))
        (pss_one (ps_ret pe_bl)))), ?_⟩
    refine ⟨le_size (by simp), fun p hp => ?_⟩
    have n0 : Lw K ns a T.pLaw qLam (upd H p (.lst [.int 0, .int 0, .int 0, .int 0])) p := ⟨⟨0, 0, 0, 0, upd_same, Int.le_refl _⟩, (ScrN.mk hS hp).ex (Ex.new _ hp), fun q hq => by rw [List.mem_singleton.mp hq]; exact (TabS.nil hTab).ext (Same.new _ hp)⟩
    generalize upd H p (.lst [.int 0, .int 0, .int 0, .int 0]) = H1 at *
    refine ⟨4, rfl, by decide, by decide, for_range (lo := 0) (n := 4) (fun i σ H' => ∃ v2 v3 v4 v5 v6 v7 v8 v9 v10 v11 : Option V, σ = [some (.ref a), some (.ref p), v2, v3, v4, v5, v6, v7, v8, v9, v10, v11, none, none, none] ∧ Lw K ns a T.pLaw qLam H' p) ?_ ?_ ?_⟩
    · exact ⟨none, none, none, none, none, none, none, none, none, none, rfl, n0⟩
    · rintro i σ H2 hi ⟨v2, v3, v4, v5, v6, v7, v8, v9, v10, v11, rfl, n2⟩
      clear n0
      -- signs
      refine ⟨le_size (by simp), fun l hl => ?_⟩
      have nlp := n2.st.ne hl
      have s3 : Same H2 (upd H2 l (.lst [.str "ab", .str "ab", .str "abc", .str "xz", .str "a"])) := Same.new _ hl
      have gl : upd H2 l (.lst [.str "ab", .str "ab", .str "abc", .str "xz", .str "a"]) l = some (.lst [.str "ab", .str "ab", .str "abc", .str "xz", .str "a"]) := upd_same
      have n3 := n2.same s3
      generalize upd H2 l (.lst [.str "ab", .str "ab", .str "abc", .str "xz", .str "a"]) = H3 at *
      refine ⟨_, rfl, _, rfl, a, p, 5, rfl, n3.st, by decide, by decide, fun H4 r4 x4 st4 r40 r41 => ?_⟩
      have n4 := n3.ex x4 st4.1
      obtain ⟨v, hv, hat⟩ := atI_mem (xs := ([.str "ab", .str "ab", .str "abc", .str "xz", .str "a"] : List V)) r40 (by simpa using r41)
      obtain ⟨sg, rfl, hsg, hsgn⟩ := signs5 hv
      refine ⟨l, _, _, _, rfl, rfl, SqL.of (x4 _ _ nlp gl), hat, ?_⟩
      clear hv hat gl s3 n2 n3 hl x4 st4
      -- the inner words
      refine ⟨_, rfl, _, rfl, _, rfl, a, p, sg, rfl, n4.st, hsg, fun H5 q ws x5 st5 _ nq hq huq w1 w4 hw => ?_⟩
      have n5 := n4.ex x5 st5.1
      clear n4 x5 st5
      have hwW : ∀ u ∈ ws, Word sg u := fun u hu => (hw u hu).word (by decide)
      have hw12 : ∀ u ∈ ws, 1 ≤ u.length ∧ u.length ≤ 12 := fun u hu => ⟨(hwW u hu).1, (hwW u hu).2.1⟩
      have hwd := wd_book hwW
      have wl : (txts ws).length = ws.length := txts_len ws
      obtain ⟨hlt, hll⟩ := abcdL_signs w1 w4
      obtain ⟨hltm, hidx, _⟩ := idx4 w1 w4
      have hcut : cutS (SX.S abcdL) none (some ((ws.length : Nat) : Int)) = SX.S (abcdL.take ws.length) := cutS_to _ _
      refine ⟨_, rfl, q, _, rfl, .inl (SqL.of hq), _, rfl, ?_⟩
      rw [wl, abcdL_S]
      refine ⟨_, rfl, le_size (by decide), ?_⟩
      rw [hcut]
      generalize hlt0 : abcdL.take ws.length = lt at *
      -- the inner book
      refine ⟨_, rfl, _, rfl, q, sg, ws, rfl, .inl hq, hsg, by omega, by omega, hwW, fun H6 b us s6 _ hL => ?_⟩
      have n6 := n5.same s6
      have F6 : Fx T.C_Loom p q b sg ws H6 := ⟨s6 _ _ hq, nq, ⟨us, hL⟩⟩
      clear n5 s6 hq hL us
      -- the outer words
      have wsd : ∀ u : List Nat, Word lt u → (SX.S u).length ≤ sizeLine := fun u h => le_size (by rw [SX.S_len]; have := h.2.1; omega)
      refine ⟨_, rfl, _, rfl, _, rfl, a, p, lt, 4, 4, rfl, n6.st, hlt, by decide, by decide, by decide, by decide, fun H7 q2 os x7 st7 _ nq2 hq2 hos o1 o4 => ⟨q2, rfl, ⟨_, SqL.of hq2⟩, fun D hD => lc_list (K := K) (a := q2) (xs := txts os) (fun i H' => H' D = some (.lst (txts (os.take i))) ∧ Same H7 H') ⟨upd_same, Same.new _ hD⟩ (fun i H' _ ⟨_, sm⟩ => SqL.of (sm _ _ hq2)) ?_ ?_⟩⟩
      · rintro i y H8 hy ⟨hDl, sm⟩
        obtain ⟨u, hu, rfl⟩ := txt_at hy
        obtain ⟨huw, hu4⟩ := hos u (List.mem_of_getElem? hu)
        have hio := (List.getElem?_eq_some_iff.mp hu).1
        refine ⟨rfl, _, rfl, _, rfl, wsd u huw, _, _, rfl, rfl, .inr ⟨by decide, by decide⟩, _, _, rfl, rfl, _, rfl, ?_⟩
        rw [SX.S_len]
        rw [decide_eq_true (by omega : ((u.length : Nat) : Int) * 3 < 13)]
        refine iteT ⟨_, rfl, _, hDl, lt_size (by rw [txts_len, List.length_take]; omega), ?_, sm.updNew hD⟩
        rw [upd_same, ← take_snoc hu, ← txts_cat]
        rfl
      rintro H8 ⟨hD8, s8⟩
      rw [txts_len, List.take_length] at hD8
      have n8 := (n6.ex x7 st7.1).same s8
      have F8 := (F6.ex x7 n6.pool).same s8
      have hosW : ∀ u ∈ os, Word lt u := fun u hu => (hos u hu).1
      have hos4 : ∀ u ∈ os, u.length ≤ 4 := fun u hu => by have := (hos u hu).2; omega
      clear n6 F6 x7 st7 s8 hq2
      -- what is made of them
      refine ⟨_, rfl, D, rfl, ⟨_, SqL.of hD8⟩, fun M hM => lc_list (K := K) (a := D) (xs := txts os) (fun i H' => H' M = some (.lst (txts ((os.take i).map (spell ws lt)))) ∧ Same H8 H') ⟨upd_same, Same.new _ hM⟩ (fun i H' _ ⟨_, sm⟩ => SqL.of (sm _ _ hD8)) ?_ ?_⟩
      · rintro i y H9 hy ⟨hDl, sm⟩
        obtain ⟨u, hu, rfl⟩ := txt_at hy
        have hum := List.mem_of_getElem? hu
        have huw := hosW u hum
        have hio := (List.getElem?_eq_some_iff.mp hu).1
        have hq9 := sm _ _ F8.hq
        refine ⟨rfl, ⟨_, rfl⟩, _, rfl, _, rfl, fun D2 hD2 => lc_it (walk_str (z := SX.S u)) (fun i H' => H' D2 = some (.lst ((((u.take i).map (pc ws lt)).map SX.S).map V.str)) ∧ Same H9 H') ⟨upd_same, Same.new _ hD2⟩ (fun _ _ _ _ => trivial) ?_ ?_⟩
        · rintro j x H10 H11 hj ⟨hD5, sm5⟩ ⟨rfl, c, hc, rfl⟩
          have hul := huw.2.1
          have hc2 : u[j]? = some c := by simpa using hc
          have hcl := huw.2.2 c (List.mem_of_getElem? hc2)
          obtain ⟨p1, p2⟩ := pc_at (ws := ws) (Nat.le_of_eq hll) hcl
          obtain ⟨i1, i2⟩ := hidx c hcl
          have hta : (txts ws)[abcdL.idxOf c]? = some (.str (SX.S (pc ws lt c))) := by rw [i1, txts, List.getElem?_map, p1]; rfl
          refine ⟨rfl, _, rfl, rfl, _, rfl, SX.S abcdL, SX.S [c], abcdL.idxOf c, [], rfl, rfl, occ34 abcdL abcd_lets c i2, q, _, _, _, rfl, rfl, SqL.of (sm5 _ _ hq9), atI_nat hta, ?_⟩
          refine ⟨_, hD5, lt_size (by simp; omega), ?_, sm5.updNew hD2⟩
          rw [upd_same, ← take_snoc hc2]
          simp
        · rintro H10 ⟨hD5, sm5⟩
          have et : u.take (SX.S u).cps.size = u := List.take_of_length_le (Nat.le_of_eq (SX.S_len u).symm)
          rw [et] at hD5
          refine ⟨_, _, (u.map (pc ws lt)).map SX.S, rfl, rfl, .inl (SqL.of hD5), ?_, ?_⟩
          · have := spell_len (Nat.le_of_eq hll) (fun v hv => (hw12 v hv).2) huw
            rw [sum_flat, emptyS, SX.S_len, List.length_nil, Nat.mul_zero, Nat.add_zero]
            exact Nat.le_trans this (by decide)
          · rw [emptyS, join_flat]
            refine ⟨_, sm5 _ _ hDl, lt_size (by rw [txts, List.length_map, List.length_map, List.length_take]; omega), ?_, (sm.trans sm5).updNew hM⟩
            rw [upd_same, ← take_snoc hu]
            simp [txts, spell]
      rintro H9 ⟨hM9, s9⟩
      rw [txts_len, List.take_length] at hM9
      have hms : ∀ u ∈ os.map (spell ws lt), Word sg u := fun u hu => by
        obtain ⟨v, hv, rfl⟩ := List.mem_map.mp hu
        rw [← hlt0]
        exact spell_take w1 w4 hw (by rw [hlt0]; exact hosW v hv) (hos4 v hv)
      have hml : (os.map (spell ws lt)).length = os.length := List.length_map _
      have nMp := n8.st.ne hM
      generalize os.map (spell ws lt) = ms at *
      refine ⟨fun σ' H' => ∃ ms : List (List Nat), σ' = [some (.ref a), some (.ref p), some (.int (0 + (i : Int))), some (.str (SX.S sg)), some (.ref q), some (.str (SX.S lt)), some (.ref b), some (.ref D), some (.ref M), v9, v10, v11, none, none, none] ∧ Lw K ns a T.pLaw qLam H' p ∧ Fx T.C_Loom p q b sg ws H' ∧ H' M = some (.lst (txts ms)) ∧ (∀ u ∈ ms, Word sg u) ∧ 1 ≤ ms.length ∧ ms.length ≤ 5, ?_, ?_⟩
      · have n9 := n8.same s9
        have F9 := F8.same s9
        refine ⟨_, rfl, _, rfl, a, p, 2, rfl, n9.st, by decide, by decide, fun H10 r x10 st10 r0 r1 => ⟨rfl, _, rfl, ?_⟩⟩
        have n10 := n9.ex x10 st10.1
        have F10 := F9.ex x10 n9.pool
        have hM10 := x10 _ _ nMp hM9
        refine ite2 (fun c => ?_) (fun c => ⟨ms, rfl, n10, F10, hM10, hms, by omega, by omega⟩)
        refine ⟨_, rfl, .inl ⟨rfl, _, SqL.of hM10⟩, _, rfl, _, rfl, _, rfl, a, p, sg, 5, rfl, st10, hsg, by decide, by decide, fun H11 u x11 st11 hu hu5 => ?_⟩
        refine ⟨M, _, _, rfl, rfl, x11 _ _ nMp hM10, lt_size (by rw [txts_len]; omega), ?_⟩
        have X : Ex p H8 (upd H11 M (.lst (txts ms ++ [V.str (SX.S u)]))) := (((Same.ex s9).trans x10).trans x11).updNew hM
        have g : PoolAt (upd H11 M (.lst (txts ms ++ [V.str (SX.S u)]))) p := by
          obtain ⟨b0, b1, b2, b3, e1, e2⟩ := st11.1
          exact ⟨b0, b1, b2, b3, by rw [upd_ne nMp.symm]; exact e1, e2⟩
        refine ⟨ms ++ [u], rfl, n8.ex X g, F8.ex X n8.pool, by rw [upd_same, ← txts_cat]; rfl, fun v hv => ?_, by simp, by simp; omega⟩
        rcases List.mem_append.mp hv with h | h
        · exact hms v h
        · rw [List.mem_singleton.mp h]; exact hu
      clear n8 F8 hM9 s9 hms hml hD8 hM os hos o1 o4 hosW hos4
      rintro σ' H10 ⟨ms, rfl, n10, F10, hM10, hms, m1, m5⟩
      -- shuffled
      have hsm : ∀ u ∈ ms, ∀ c ∈ u, c < 1114112 := fun u hu c hc => by have := (hsg.2.2.1 c ((hms u hu).2.2 c hc)).2; omega
      refine ⟨fun σ' H' => ∃ (M : Addr) (ms : List (List Nat)), σ' = [some (.ref a), some (.ref p), some (.int (0 + (i : Int))), some (.str (SX.S sg)), some (.ref q), some (.str (SX.S lt)), some (.ref b), some (.ref D), some (.ref M), v9, v10, v11, none, none, none] ∧ Lw K ns a T.pLaw qLam H' p ∧ Fx T.C_Loom p q b sg ws H' ∧ H' M = some (.lst (txts ms)) ∧ M ≠ p ∧ (∀ u ∈ ms, Word sg u) ∧ 1 ≤ ms.length ∧ ms.length ≤ 5, ?_, ?_⟩
      · refine ⟨_, rfl, Nat.zero_le _, fun Z hZ => ?_⟩
        have sZ : Same H10 (upd H10 Z (.lst [])) := Same.new _ hZ
        refine ⟨_, _, .lst (SqL.of (sZ _ _ hM10)) (dp_txts ms), .lst (SqL.of upd_same) (dp_txts []), shaped_txts hsm, shaped_txts (by simp), _, rfl, ?_⟩
        have e0 : (!PyData.eqv (.list (txtD ms)) (.list (txtD []))) = true := by
          show (!PyData.eqvAll (txtD ms) (txtD [])) = _
          rw [eqv_txts, decide_eq_false (fun z => by rw [z] at m1; simp at m1)]
          rfl
        rw [e0]
        have n11 := n10.same sZ
        have F11 := F10.same sZ
        have hM11 := sZ _ _ hM10
        generalize upd H10 Z (.lst []) = H11 at *
        refine iteT ⟨_, rfl, _, rfl, _, rfl, a, p, M, ms, rfl, n11.st, nMp, hM11, by omega, fun H12 r us x12 st12 _ nr hr hperm => ?_⟩
        refine ⟨r, us, rfl, n11.ex x12 st12.1, F11.ex x12 n11.pool, hr, nr, fun u hu => hms u (hperm.mem_iff.mp hu), by rw [hperm.length_eq]; exact m1, by rw [hperm.length_eq]; exact m5⟩
      clear n10 F10 hM10 hms m1 m5 hsm nMp ms M
      rintro σ' H11 ⟨M, ms, rfl, n11, F11, hM11, nMp, hms, m1, m5⟩
      -- what is due
      have m12 : ∀ u ∈ ms, u.length ≤ 12 := fun u hu => (hms u hu).2.1
      have ml : (txts ms).length = ms.length := txts_len ms
      refine ⟨_, rfl, M, rfl, ⟨_, SqL.of hM11⟩, fun Y hY => lc_list (K := K) (a := M) (xs := txts ms) (fun i H' => H' Y = some (.lst ((ms.take i).map fun u => ov (due ws u))) ∧ Same H11 H') ⟨upd_same, Same.new _ hY⟩ (fun i H' _ ⟨_, sm⟩ => SqL.of (sm _ _ hM11)) ?_ ?_⟩
      · rintro i y H12 hy ⟨hDl, sm⟩
        obtain ⟨u, hu, rfl⟩ := txt_at hy
        have hio := (List.getElem?_eq_some_iff.mp hu).1
        refine ⟨rfl, _, rfl, _, rfl, q, ws, u, rfl, sm _ _ F11.hq, huq, w4, hw12, m12 u (List.mem_of_getElem? hu), fun H13 s13 => ?_⟩
        refine ⟨_, s13 _ _ hDl, lt_size (by rw [List.length_map, List.length_take]; omega), ?_, (sm.trans s13).updNew hY⟩
        rw [upd_same, ← take_snoc hu, List.map_append]
        rfl
      rintro H12 ⟨hY12, s12⟩
      rw [ml, List.take_length] at hY12
      have n12 := n11.same s12
      have F12 := F11.same s12
      have hM12 := s12 _ _ hM11
      clear n11 F11 hM11 s12 hY
      -- told
      refine ⟨fun σ' H' => ∃ v : V, σ' = [some (.ref a), some (.ref p), some (.int (0 + (i : Int))), some (.str (SX.S sg)), some (.ref q), some (.str (SX.S lt)), some (.ref b), some (.ref D), some (.ref M), some (.ref Y), some v, v11, none, none, none] ∧ Same H12 H' ∧ ((∃ u ∈ ms, rdg (bka ws) 0 u = []) ∧ v = .non ∨ (∀ u ∈ ms, rdg (bka ws) 0 u ≠ []) ∧ ∃ b3 us', v = .ref b3 ∧ LoomAt T.C_Loom H' b3 lt us' (bka (ms.map (outU ws)))), ?_, ?_⟩
      · obtain ⟨us, hL⟩ := F12.l1
        refine ⟨_, rfl, _, rfl, M, sg, ms, rfl, .inl hM12, hsg, m1, by omega, hms, fun H13 b2 us2 s13 _ hL2 => ?_⟩
        refine ⟨_, rfl, b2, b, sg, sg, us2, us, ms, ws, rfl, hL2, hL.same s13, .inr ⟨rfl, .inr (.inr ⟨huq, w4, fun hno H14 s14 => ⟨_, rfl, s13.trans s14, .inl ⟨hno, rfl⟩⟩, fun hyes H14 b3 us3 s14 _ hL3 => ?_⟩)⟩⟩
        rw [hlt0] at hL3
        exact ⟨_, rfl, s13.trans s14, .inr ⟨hyes, b3, us3, rfl, hL3⟩⟩
      rintro σ' H13 ⟨v, rfl, s13, hv⟩
      have n13 := n12.same s13
      have F13 := F12.same s13
      have hM13 := s13 _ _ hM12
      have hY13 := s13 _ _ hY12
      clear n12 F12 hM12 hY12 s13
      -- held against what is due
      refine ⟨fun σ' H' => σ' = [some (.ref a), some (.ref p), some (.int (0 + (i : Int))), some (.str (SX.S sg)), some (.ref q), some (.str (SX.S lt)), some (.ref b), some (.ref D), some (.ref M), some (.ref Y), some v, v11, none, none, none] ∧ Lw K ns a T.pLaw qLam H' p ∧ Fx T.C_Loom p q b sg ws H', ?_, ?_⟩
      · refine ⟨_, rfl, Y, _, rfl, .inl (SqL.of hY13), rfl, flat_due ws ms, _, rfl, ?_⟩
        rw [if_neg (by decide), inV_due]
        refine ite2 (fun c => ?_) (fun c => ?_)
        · obtain ⟨u, hu, hz⟩ := of_decide_eq_true c
          rcases hv with ⟨_, rfl⟩ | ⟨h1, _⟩
          · exact ⟨_, rfl, rfl, _, rfl, ite2 (fun c => absurd c (by decide)) fun _ => ⟨rfl, n13, F13⟩⟩
          · exact absurd hz (h1 u hu)
        · rcases hv with ⟨h1, _⟩ | ⟨hall, b3, us3, rfl, hL3⟩
          · exact absurd (decide_eq_true h1) c
          rw [due_txts hall] at hY13
          have how : ∀ u ∈ ms.map (outU ws), Word lt u := fun u hu => by
            obtain ⟨x, hx, rfl⟩ := List.mem_map.mp hu
            rw [← hlt0]
            exact outU_word hwW huq w4 (hms x hx) (hall x hx)
          refine ⟨_, rfl, _, rfl, _, rfl, Y, lt, ms.map (outU ws), rfl, .inl hY13, hlt, by rw [List.length_map]; exact m1, by rw [List.length_map]; omega, how, fun H14 b4 us4 s14 _ hL4 => ?_⟩
          refine ne_loom (hL3.same s14) hL4 fun H15 s15 => ⟨_, rfl, iteF ?_⟩
          have S15 := s14.trans s15
          have esp : (ms.map (outU ws)).map (spell ws lt) = ms := by
            rw [List.map_map]
            conv => rhs; rw [← List.map_id ms]
            refine List.map_congr_left fun u hu => ?_
            show spell ws lt (outU ws u) = u
            rw [← hlt0]
            exact spell_outU hwd huq w1 w4 (hall u hu)
          obtain ⟨us, hL⟩ := F13.l1
          refine ⟨_, rfl, _, rfl, b, b3, sg, lt, us, us3, ws, ms.map (outU ws), rfl, hL.same S15, hL3.same S15, .inr ⟨hll, hltm, fun hb => ?_, fun _ H16 r us5 s16 _ hL5 => ?_⟩⟩
          · rw [esp] at hb
            obtain ⟨u, hu, hl⟩ := hb
            have := m12 u hu
            omega
          rw [esp] at hL5
          have S16 := S15.trans s16
          refine ⟨_, rfl, _, rfl, M, sg, ms, rfl, .inl (S16 _ _ hM13), hsg, m1, by omega, hms, fun H17 b6 us6 s17 _ hL6 => ?_⟩
          refine ne_loom (hL5.same s17) hL6 fun H18 s18 => ⟨_, rfl, iteF ⟨rfl, ?_, ?_⟩⟩
          · exact n13.same ((S16.trans s17).trans s18)
          · exact F13.same ((S16.trans s17).trans s18)
      clear n13 F13 hM13 hY13 hv m12 ml hms m1 m5 nMp
      rintro σ' H14 ⟨rfl, n14, F14⟩
      -- the inner book taken apart by itself
      obtain ⟨us, hL⟩ := F14.l1
      obtain ⟨sf1, sf2⟩ := outU_self hwd huq w4
      refine ⟨_, rfl, _, rfl, rfl, rfl, b, b, sg, sg, us, us, ws, ws, rfl, hL, hL, .inr ⟨rfl, .inr (.inr ⟨huq, w4, fun ⟨u, hu, hz⟩ => absurd hz (sf1 u hu), fun _ H15 r us3 s15 _ hL3 => ?_⟩)⟩⟩
      rw [sf2, hlt0] at hL3
      refine ⟨_, rfl, _, rfl, _, rfl, fun D6 hD6 => lc_it (walk_str (z := SX.S lt)) (fun i H' => H' D6 = some (.lst (txts (ones (lt.take i)))) ∧ Same H15 H') ⟨upd_same, Same.new _ hD6⟩ (fun _ _ _ _ => trivial) ?_ ?_⟩
      · rintro j x H16 H17 hj ⟨hDl, sm⟩ ⟨rfl, c, hc, rfl⟩
        have hc2 : lt[j]? = some c := by simpa using hc
        refine ⟨rfl, _, rfl, _, hDl, lt_size (by simp [txts, ones]; omega), ?_, sm.updNew hD6⟩
        rw [upd_same, ← take_snoc hc2]
        simp [txts, ones]
      rintro H16 ⟨hDl, s16⟩
      have et : lt.take (SX.S lt).cps.size = lt := List.take_of_length_le (Nat.le_of_eq (SX.S_len lt).symm)
      rw [et] at hDl
      have hol : (ones lt).length = ws.length := by unfold ones; rw [List.length_map]; exact hll
      refine ⟨D6, lt, ones lt, rfl, .inl hDl, hlt, by omega, by omega, ones_word lt, fun H17 b4 us4 s17 _ hL4 => ?_⟩
      refine ne_loom ((hL3.same s16).same s17) hL4 fun H18 s18 => ⟨_, rfl, iteF ?_⟩
      have S18 := ((s15.trans s16).trans s17).trans s18
      have n18 := n14.same S18
      have F18 := F14.same S18
      clear n14 F14 hL hL3 hL4 s15 s16 s17 s18 S18 hDl sf1 sf2 hD6 us
      -- five words
      refine ⟨le_size (by simp), fun l5 hl5 => ?_⟩
      have s19 : Same H18 (upd H18 l5 (.lst [V.str "aa", V.str "ab", V.str "ac", V.str "ba", V.str "bb"])) := Same.new _ hl5
      have gl5 : upd H18 l5 (.lst [V.str "aa", V.str "ab", V.str "ac", V.str "ba", V.str "bb"]) l5 = some (.lst (txts five)) := upd_same
      have n19 := n18.same s19
      have F19 := F18.same s19
      generalize upd H18 l5 (.lst [V.str "aa", V.str "ab", V.str "ac", V.str "ba", V.str "bb"]) = H19 at *
      rw [show Str.ofString "abc" = SX.S [97, 98, 99] from by decide +kernel]
      refine ⟨l5, [97, 98, 99], five, rfl, .inl gl5, by decide, by decide, by decide, by unfold Word; decide, fun H20 b5 us5 s20 _ hL5 => ?_⟩
      have n20 := n19.same s20
      have F20 := F19.same s20
      clear n18 F18 n19 F19 s19 gl5 hl5 s20
      -- the limit
      refine ⟨fun σ' H' => σ' = [some (.ref a), some (.ref p), some (.int (0 + (i : Int))), some (.str (SX.S sg)), some (.ref q), some (.str (SX.S lt)), some (.ref b), some (.ref D), some (.ref M), some (.ref Y), some v, some (.ref b5), none, none, none] ∧ Lw K ns a T.pLaw qLam H' p ∧ Fx T.C_Loom p q b sg ws H', ?_, ?_⟩
      · refine ⟨n20.tab, fun H21 e21 t21 => ⟨fun cls d H' => cls = .ref T.C_LimitExceeded ∧ Same H21 H' ∧ ∃ e, d = some e ∧ H' e = some (.xd (fs_LimitExceeded (.int 4))), ?_, fun Qr hQr => ?_⟩⟩
        · rintro cls d H' ⟨rfl, s22, e, rfl, he⟩
          refine .inr (.inr ⟨e, 4, rfl, rfl, he, fun t ht => ?_⟩)
          have s24 : Same H21 (upd H' t (.tup [.str "limit", .int 4])) := s22.trans (Same.new _ ht)
          have g24 : upd H' t (.tup [.str "limit", .int 4]) t = some (.tup [.str "limit", .int 4]) := upd_same
          generalize upd H' t (.tup [.str "limit", .int 4]) = H24 at *
          refine ⟨le_size (by simp), fun t2 ht2 => ?_⟩
          have s25 : Same H24 (upd H24 t2 (.tup [.str "limit", .int 4])) := Same.new _ ht2
          refine ne_tup (ds := [.str "limit", .int 4]) (s25 _ _ g24) upd_same (.cons (.str _) (.cons (.int _) .nil)) (by decide +kernel) ⟨false, rfl, iteF ?_⟩
          exact ⟨rfl, ((n20.extN e21 t21).same s24).same s25, ((F20.extN e21).same s24).same s25⟩
        · have hL5' := LoomAt.extN hL5 e21
          exact ⟨_, rfl, _, rfl, b5, b5, [97, 98, 99], [97, 98, 99], us5, us5, five, five, rfl, hL5', hL5', .inr ⟨rfl, .inr (.inl ⟨five_uq, by decide, fun H22 e s22 he => ⟨rfl, s22, e, rfl, he⟩⟩)⟩⟩
      clear n20 F20 hL5
      rintro σ' H20 ⟨rfl, n20, F20⟩
      -- not one way
      refine ⟨fun σ' H' => σ' = [some (.ref a), some (.ref p), some (.int (0 + (i : Int))), some (.str (SX.S sg)), some (.ref q), some (.str (SX.S lt)), some (.ref b), some (.ref D), some (.ref M), some (.ref Y), some v, some (.ref b5), none, none, none] ∧ Lw K ns a T.pLaw qLam H' p ∧ Fx T.C_Loom p q b sg ws H', ?_, ?_⟩
      · refine ⟨n20.tab, fun H21 e21 t21 => ⟨fun cls d H' => cls = .ref T.C_NotOneWay ∧ Same H21 H', ?_, fun Qr hQr => ?_⟩⟩
        · rintro cls d H' ⟨rfl, s22⟩
          refine .inr (.inl ⟨rfl, fun t ht => ?_⟩)
          have s24 : Same H21 (upd H' t (.tup [.str "way"])) := s22.trans (Same.new _ ht)
          have g24 : upd H' t (.tup [.str "way"]) t = some (.tup [.str "way"]) := upd_same
          generalize upd H' t (.tup [.str "way"]) = H24 at *
          refine ⟨le_size (by simp), fun t2 ht2 => ?_⟩
          have s25 : Same H24 (upd H24 t2 (.tup [.str "way"])) := Same.new _ ht2
          refine ne_tup (ds := [.str "way"]) (s25 _ _ g24) upd_same (.cons (.str _) .nil) (by decide +kernel) ⟨false, rfl, iteF ?_⟩
          exact ⟨rfl, ((n20.extN e21 t21).same s24).same s25, ((F20.extN e21).same s24).same s25⟩
        · have F21 := F20.extN e21
          obtain ⟨us, hL⟩ := F21.l1
          have hq21 := F21.hq
          refine ⟨_, rfl, _, rfl, _, rfl, _, rfl, q, q, _, _, rfl, rfl, hq21, hq21, le_size (by rw [wl]; omega), fun g hg => ?_⟩
          have sg2 : Same H21 (upd H21 g (.lst (txts ws ++ txts ws))) := Same.new _ hg
          have gg : upd H21 g (.lst (txts ws ++ txts ws)) g = some (.lst (txts (ws ++ ws))) := by rw [upd_same, txts_cat]
          generalize upd H21 g (.lst (txts ws ++ txts ws)) = H22 at *
          refine ⟨g, sg, ws ++ ws, rfl, .inl gg, hsg, by rw [List.length_append]; omega, by rw [List.length_append]; omega, fun u hu => (List.mem_append.mp hu).elim (hwW u) (hwW u), fun H23 b6 us6 s23 _ hL6 => ?_⟩
          obtain ⟨u0, hu0⟩ : ∃ u0, ws[0]? = some u0 := ⟨ws[0]'(by omega), List.getElem?_eq_getElem (by omega)⟩
          refine ⟨b, b6, sg, sg, us, us6, ws, ws ++ ws, rfl, (hL.same sg2).same s23, hL6, .inr ⟨rfl, .inl ⟨⟨0, ws.length, u0, by omega, by rw [List.getElem?_append_left (by omega)]; exact hu0, by rw [List.getElem?_append_right (Nat.le_refl _), Nat.sub_self]; exact hu0⟩, fun H24 s24 => ⟨rfl, (sg2.trans s23).trans s24⟩⟩⟩⟩
      clear n20 F20
      rintro σ' H20 ⟨rfl, n20, F20⟩
      -- unlike
      refine ⟨n20.tab, fun H21 e21 t21 => ⟨fun cls d H' => cls = .ref T.C_Unlike ∧ Same H21 H', ?_, fun Qr hQr => ?_⟩⟩
      · rintro cls d H' ⟨rfl, s22⟩
        refine .inl ⟨rfl, fun t ht => ?_⟩
        have s24 : Same H21 (upd H' t (.tup [.str "unlike"])) := s22.trans (Same.new _ ht)
        have g24 : upd H' t (.tup [.str "unlike"]) t = some (.tup [.str "unlike"]) := upd_same
        generalize upd H' t (.tup [.str "unlike"]) = H24 at *
        refine ⟨le_size (by simp), fun t2 ht2 => ?_⟩
        have s25 : Same H24 (upd H24 t2 (.tup [.str "unlike"])) := Same.new _ ht2
        refine ne_tup (ds := [.str "unlike"]) (s25 _ _ g24) upd_same (.cons (.str _) .nil) (by decide +kernel) ⟨false, rfl, iteF ?_⟩
        exact ⟨_, _, _, _, _, _, _, _, _, _, rfl, ((n20.extN e21 t21).same s24).same s25⟩
      · have F21 := F20.extN e21
        obtain ⟨us, hL⟩ := F21.l1
        refine ⟨_, rfl, le_size (by simp), fun l6 hl6 => ?_⟩
        have s22 : Same H21 (upd H21 l6 (.lst [V.str "b", V.str "b"])) := Same.new _ hl6
        have g22 : upd H21 l6 (.lst [V.str "b", V.str "b"]) l6 = some (.lst (txts [[98], [98]])) := upd_same
        generalize upd H21 l6 (.lst [V.str "b", V.str "b"]) = H22 at *
        rw [show Str.ofString "bf" = SX.S [98, 102] from by decide +kernel]
        refine ⟨l6, [98, 102], [[98], [98]], rfl, .inl g22, by decide, by decide, by decide, by unfold Word; decide, fun H23 b6 us6 s23 _ hL6 => ?_⟩
        exact ⟨b, b6, sg, [98, 102], us, us6, ws, [[98], [98]], rfl, (hL.same s22).same s23, hL6, .inl ⟨hsgn, fun H24 s24 => ⟨rfl, (s22.trans s23).trans s24⟩⟩⟩
    · rintro σ H2 ⟨v2, v3, v4, v5, v6, v7, v8, v9, v10, v11, rfl, n2⟩
      exact k _
end
end J


set_option Elab.async false
set_option linter.all false
set_option maxRecDepth 100000
set_option maxHeartbeats 4000000
namespace J
open PySem L2
theorem all_mk {l : PySem.W.OpenLaw} {w : World} {K : PySem.W.Frag} {h : Heap} {mg : Str → Option Value} {fa f_InvalidLoom_init f_LimitExceeded_init f_is_number f_is_sequence f_is_signs f_is_string_over f_is_word f_check_signs f_check_state f_check_text f_is_arc f_Loom_init f_Loom_eq f_met f_book f_is_book f_check_book f_words f_goes_on f_live_arcs f_readings f_arcs_by_state f_starts f_steps f_explored f_is_even f_one_way f_check_alike f_joined f_apart f_l_take f_l_word f_l_words f_l_tree f_l_shuffled f_l_single f_l_error f_l_inner f_l_spelled f_law cLaw pLaw C_InvalidLoom C_LimitExceeded C_Loom C_Unlike C_NotABook C_UnknownState C_InvalidText C_NotOneWay : Addr} (X : K.In h) (G : h.Ns mainGlobals mg) (own : LamX.OwnTab K fa h) (hfa : mg "law" = some (.ref fa))
    {od_InvalidLoom_init an_InvalidLoom_init : Option Addr} {sl_InvalidLoom_init : Array (Option Value)} {oc_InvalidLoom_init kV_InvalidLoom_init dc_InvalidLoom_init pm_InvalidLoom_init cd_InvalidLoom_init ct_InvalidLoom_init : Value}
    {od_LimitExceeded_init an_LimitExceeded_init : Option Addr} {sl_LimitExceeded_init : Array (Option Value)} {oc_LimitExceeded_init kV_LimitExceeded_init dc_LimitExceeded_init pm_LimitExceeded_init cd_LimitExceeded_init ct_LimitExceeded_init : Value}
    {od_is_number an_is_number : Option Addr} {sl_is_number : Array (Option Value)} {oc_is_number kV_is_number dc_is_number pm_is_number cd_is_number ct_is_number : Value}
    {od_is_sequence an_is_sequence : Option Addr} {sl_is_sequence : Array (Option Value)} {oc_is_sequence kV_is_sequence dc_is_sequence pm_is_sequence cd_is_sequence ct_is_sequence : Value}
    {od_is_signs an_is_signs : Option Addr} {sl_is_signs : Array (Option Value)} {oc_is_signs kV_is_signs dc_is_signs pm_is_signs cd_is_signs ct_is_signs : Value}
    {od_is_string_over an_is_string_over : Option Addr} {sl_is_string_over : Array (Option Value)} {oc_is_string_over kV_is_string_over dc_is_string_over pm_is_string_over cd_is_string_over ct_is_string_over : Value}
    {od_is_word an_is_word : Option Addr} {sl_is_word : Array (Option Value)} {oc_is_word kV_is_word dc_is_word pm_is_word cd_is_word ct_is_word : Value}
    {od_check_signs an_check_signs : Option Addr} {sl_check_signs : Array (Option Value)} {oc_check_signs kV_check_signs dc_check_signs pm_check_signs cd_check_signs ct_check_signs : Value}
    {od_check_state an_check_state : Option Addr} {sl_check_state : Array (Option Value)} {oc_check_state kV_check_state dc_check_state pm_check_state cd_check_state ct_check_state : Value}
    {od_check_text an_check_text : Option Addr} {sl_check_text : Array (Option Value)} {oc_check_text kV_check_text dc_check_text pm_check_text cd_check_text ct_check_text : Value}
    {od_is_arc an_is_arc : Option Addr} {sl_is_arc : Array (Option Value)} {oc_is_arc kV_is_arc dc_is_arc pm_is_arc cd_is_arc ct_is_arc : Value}
    {od_Loom_init an_Loom_init : Option Addr} {sl_Loom_init : Array (Option Value)} {oc_Loom_init kV_Loom_init dc_Loom_init pm_Loom_init cd_Loom_init ct_Loom_init : Value}
    {od_Loom_eq an_Loom_eq : Option Addr} {sl_Loom_eq : Array (Option Value)} {oc_Loom_eq kV_Loom_eq dc_Loom_eq pm_Loom_eq cd_Loom_eq ct_Loom_eq : Value}
    {od_met an_met : Option Addr} {sl_met : Array (Option Value)} {oc_met kV_met dc_met pm_met cd_met ct_met : Value}
    {od_book an_book : Option Addr} {sl_book : Array (Option Value)} {oc_book kV_book dc_book pm_book cd_book ct_book : Value}
    {od_is_book an_is_book : Option Addr} {sl_is_book : Array (Option Value)} {oc_is_book kV_is_book dc_is_book pm_is_book cd_is_book ct_is_book : Value}
    {od_check_book an_check_book : Option Addr} {sl_check_book : Array (Option Value)} {oc_check_book kV_check_book dc_check_book pm_check_book cd_check_book ct_check_book : Value}
    {od_words an_words : Option Addr} {sl_words : Array (Option Value)} {oc_words kV_words dc_words pm_words cd_words ct_words : Value}
    {od_goes_on an_goes_on : Option Addr} {sl_goes_on : Array (Option Value)} {oc_goes_on kV_goes_on dc_goes_on pm_goes_on cd_goes_on ct_goes_on : Value}
    {od_live_arcs an_live_arcs : Option Addr} {sl_live_arcs : Array (Option Value)} {oc_live_arcs kV_live_arcs dc_live_arcs pm_live_arcs cd_live_arcs ct_live_arcs : Value}
    {od_readings an_readings : Option Addr} {sl_readings : Array (Option Value)} {oc_readings kV_readings dc_readings pm_readings cd_readings ct_readings : Value}
    {od_arcs_by_state an_arcs_by_state : Option Addr} {sl_arcs_by_state : Array (Option Value)} {oc_arcs_by_state kV_arcs_by_state dc_arcs_by_state pm_arcs_by_state cd_arcs_by_state ct_arcs_by_state : Value}
    {od_starts an_starts : Option Addr} {sl_starts : Array (Option Value)} {oc_starts kV_starts dc_starts pm_starts cd_starts ct_starts : Value}
    {od_steps an_steps : Option Addr} {sl_steps : Array (Option Value)} {oc_steps kV_steps dc_steps pm_steps cd_steps ct_steps : Value}
    {od_explored an_explored : Option Addr} {sl_explored : Array (Option Value)} {oc_explored kV_explored dc_explored pm_explored cd_explored ct_explored : Value}
    {od_is_even an_is_even : Option Addr} {sl_is_even : Array (Option Value)} {oc_is_even kV_is_even dc_is_even pm_is_even cd_is_even ct_is_even : Value}
    {od_one_way an_one_way : Option Addr} {sl_one_way : Array (Option Value)} {oc_one_way kV_one_way dc_one_way pm_one_way cd_one_way ct_one_way : Value}
    {od_check_alike an_check_alike : Option Addr} {sl_check_alike : Array (Option Value)} {oc_check_alike kV_check_alike dc_check_alike pm_check_alike cd_check_alike ct_check_alike : Value}
    {od_joined an_joined : Option Addr} {sl_joined : Array (Option Value)} {oc_joined kV_joined dc_joined pm_joined cd_joined ct_joined : Value}
    {od_apart an_apart : Option Addr} {sl_apart : Array (Option Value)} {oc_apart kV_apart dc_apart pm_apart cd_apart ct_apart : Value}
    {od_l_take an_l_take : Option Addr} {sl_l_take : Array (Option Value)} {oc_l_take kV_l_take dc_l_take pm_l_take cd_l_take ct_l_take : Value}
    {od_l_word an_l_word : Option Addr} {sl_l_word : Array (Option Value)} {oc_l_word kV_l_word dc_l_word pm_l_word cd_l_word ct_l_word : Value}
    {od_l_words an_l_words : Option Addr} {sl_l_words : Array (Option Value)} {oc_l_words kV_l_words dc_l_words pm_l_words cd_l_words ct_l_words : Value}
    {od_l_tree an_l_tree : Option Addr} {sl_l_tree : Array (Option Value)} {oc_l_tree kV_l_tree dc_l_tree pm_l_tree cd_l_tree ct_l_tree : Value}
    {od_l_shuffled an_l_shuffled : Option Addr} {sl_l_shuffled : Array (Option Value)} {oc_l_shuffled kV_l_shuffled dc_l_shuffled pm_l_shuffled cd_l_shuffled ct_l_shuffled : Value}
    {od_l_single an_l_single : Option Addr} {sl_l_single : Array (Option Value)} {oc_l_single kV_l_single dc_l_single pm_l_single cd_l_single ct_l_single : Value}
    {od_l_error an_l_error : Option Addr} {sl_l_error : Array (Option Value)} {oc_l_error kV_l_error dc_l_error pm_l_error cd_l_error ct_l_error : Value}
    {od_l_inner an_l_inner : Option Addr} {sl_l_inner : Array (Option Value)} {oc_l_inner kV_l_inner dc_l_inner pm_l_inner cd_l_inner ct_l_inner : Value}
    {od_l_spelled an_l_spelled : Option Addr} {sl_l_spelled : Array (Option Value)} {oc_l_spelled kV_l_spelled dc_l_spelled pm_l_spelled cd_l_spelled ct_l_spelled : Value}
    {od_law an_law : Option Addr} {sl_law : Array (Option Value)} {oc_law kV_law dc_law pm_law ct_law : Value}
    {eL : Value} {dL : Option Addr} {vL : Array Value} {slL : Array (Option Value)}
    {nm_InvalidLoom q_InvalidLoom : Str} {ns_InvalidLoom : Addr} {bs_InvalidLoom : List Value} {sn_InvalidLoom : List Str} {sub_InvalidLoom : List Value} {ab_InvalidLoom : Bool} {col_InvalidLoom : Option Bool} {dd_InvalidLoom : Option Addr} {m0_InvalidLoom m1_InvalidLoom m2_InvalidLoom m3_InvalidLoom m5_InvalidLoom : Option Value}
    {nm_LimitExceeded q_LimitExceeded : Str} {ns_LimitExceeded : Addr} {bs_LimitExceeded : List Value} {sn_LimitExceeded : List Str} {sub_LimitExceeded : List Value} {ab_LimitExceeded : Bool} {col_LimitExceeded : Option Bool} {dd_LimitExceeded : Option Addr} {m0_LimitExceeded m1_LimitExceeded m2_LimitExceeded m3_LimitExceeded m5_LimitExceeded : Option Value}
    {t_MOST_SIGNS : Tok}
    {t_LONGEST_WORD : Tok}
    {t_LONGEST_TEXT : Tok}
    {t_LAST_STATE : Tok}
    {t_MOST_ARCS : Tok}
    {t_MOST_READINGS : Tok}
    {t_LETTERS : Tok}
    (a_CNotOneWay : PySem.W.nsIn K mainGlobals "NotOneWay" = some (some (.ref C_NotOneWay)))
    (a_CInvalidText : PySem.W.nsIn K mainGlobals "InvalidText" = some (some (.ref C_InvalidText)))
    (a_CUnknownState : PySem.W.nsIn K mainGlobals "UnknownState" = some (some (.ref C_UnknownState)))
    (a_CNotABook : PySem.W.nsIn K mainGlobals "NotABook" = some (some (.ref C_NotABook)))
    (a_CUnlike : PySem.W.nsIn K mainGlobals "Unlike" = some (some (.ref C_Unlike)))
    (a_CLoom : PySem.W.nsIn K mainGlobals "Loom" = some (some (.ref C_Loom)))
    (a_CLimitExceeded : PySem.W.nsIn K mainGlobals "LimitExceeded" = some (some (.ref C_LimitExceeded)))
    (a_CInvalidLoom : PySem.W.nsIn K mainGlobals "InvalidLoom" = some (some (.ref C_InvalidLoom)))
    (a_InvalidLoom_init : PySem.W.findIn K (.ref C_InvalidLoom) "__init__" = some (some (.ref f_InvalidLoom_init)))
    (i_InvalidLoom_init : PySem.W.isFn K (.ref f_InvalidLoom_init) = true)
    (l_InvalidLoom_init : K.lookup f_InvalidLoom_init = some ⟨oc_InvalidLoom_init, od_InvalidLoom_init, .func (PySem.W.fnOf "__init__" "InvalidLoom.__init__" (defArgs s_InvalidLoom_init) (defBody s_InvalidLoom_init) (defScope s_InvalidLoom_init) .none kV_InvalidLoom_init dc_InvalidLoom_init pm_InvalidLoom_init an_InvalidLoom_init cd_InvalidLoom_init ct_InvalidLoom_init), sl_InvalidLoom_init⟩)
    (c_InvalidLoom_init : PySem.W.codeIn K cd_InvalidLoom_init "InvalidLoom.__init__" = true)
    (k_InvalidLoom_init : PySem.W.keepIn K (.ref f_InvalidLoom_init) = true)
    (a_LimitExceeded_init : PySem.W.findIn K (.ref C_LimitExceeded) "__init__" = some (some (.ref f_LimitExceeded_init)))
    (i_LimitExceeded_init : PySem.W.isFn K (.ref f_LimitExceeded_init) = true)
    (l_LimitExceeded_init : K.lookup f_LimitExceeded_init = some ⟨oc_LimitExceeded_init, od_LimitExceeded_init, .func (PySem.W.fnOf "__init__" "LimitExceeded.__init__" (defArgs s_LimitExceeded_init) (defBody s_LimitExceeded_init) (defScope s_LimitExceeded_init) .none kV_LimitExceeded_init dc_LimitExceeded_init pm_LimitExceeded_init an_LimitExceeded_init cd_LimitExceeded_init ct_LimitExceeded_init), sl_LimitExceeded_init⟩)
    (c_LimitExceeded_init : PySem.W.codeIn K cd_LimitExceeded_init "LimitExceeded.__init__" = true)
    (k_LimitExceeded_init : PySem.W.keepIn K (.ref f_LimitExceeded_init) = true)
    (a_is_number : PySem.W.nsIn K mainGlobals "is_number" = some (some (.ref f_is_number)))
    (l_is_number : K.lookup f_is_number = some ⟨oc_is_number, od_is_number, .func (PySem.W.fnOf "is_number" "is_number" (defArgs s_is_number) (defBody s_is_number) (defScope s_is_number) .none kV_is_number dc_is_number pm_is_number an_is_number cd_is_number ct_is_number), sl_is_number⟩)
    (c_is_number : PySem.W.codeIn K cd_is_number "is_number" = true)
    (k_is_number : PySem.W.keepIn K (.ref f_is_number) = true)
    (a_is_sequence : PySem.W.nsIn K mainGlobals "is_sequence" = some (some (.ref f_is_sequence)))
    (l_is_sequence : K.lookup f_is_sequence = some ⟨oc_is_sequence, od_is_sequence, .func (PySem.W.fnOf "is_sequence" "is_sequence" (defArgs s_is_sequence) (defBody s_is_sequence) (defScope s_is_sequence) .none kV_is_sequence dc_is_sequence pm_is_sequence an_is_sequence cd_is_sequence ct_is_sequence), sl_is_sequence⟩)
    (c_is_sequence : PySem.W.codeIn K cd_is_sequence "is_sequence" = true)
    (k_is_sequence : PySem.W.keepIn K (.ref f_is_sequence) = true)
    (a_is_signs : PySem.W.nsIn K mainGlobals "is_signs" = some (some (.ref f_is_signs)))
    (l_is_signs : K.lookup f_is_signs = some ⟨oc_is_signs, od_is_signs, .func (PySem.W.fnOf "is_signs" "is_signs" (defArgs s_is_signs) (defBody s_is_signs) (defScope s_is_signs) .none kV_is_signs dc_is_signs pm_is_signs an_is_signs cd_is_signs ct_is_signs), sl_is_signs⟩)
    (c_is_signs : PySem.W.codeIn K cd_is_signs "is_signs" = true)
    (k_is_signs : PySem.W.keepIn K (.ref f_is_signs) = true)
    (a_is_string_over : PySem.W.nsIn K mainGlobals "is_string_over" = some (some (.ref f_is_string_over)))
    (l_is_string_over : K.lookup f_is_string_over = some ⟨oc_is_string_over, od_is_string_over, .func (PySem.W.fnOf "is_string_over" "is_string_over" (defArgs s_is_string_over) (defBody s_is_string_over) (defScope s_is_string_over) .none kV_is_string_over dc_is_string_over pm_is_string_over an_is_string_over cd_is_string_over ct_is_string_over), sl_is_string_over⟩)
    (c_is_string_over : PySem.W.codeIn K cd_is_string_over "is_string_over" = true)
    (k_is_string_over : PySem.W.keepIn K (.ref f_is_string_over) = true)
    (a_is_word : PySem.W.nsIn K mainGlobals "is_word" = some (some (.ref f_is_word)))
    (l_is_word : K.lookup f_is_word = some ⟨oc_is_word, od_is_word, .func (PySem.W.fnOf "is_word" "is_word" (defArgs s_is_word) (defBody s_is_word) (defScope s_is_word) .none kV_is_word dc_is_word pm_is_word an_is_word cd_is_word ct_is_word), sl_is_word⟩)
    (c_is_word : PySem.W.codeIn K cd_is_word "is_word" = true)
    (k_is_word : PySem.W.keepIn K (.ref f_is_word) = true)
    (a_check_signs : PySem.W.nsIn K mainGlobals "check_signs" = some (some (.ref f_check_signs)))
    (l_check_signs : K.lookup f_check_signs = some ⟨oc_check_signs, od_check_signs, .func (PySem.W.fnOf "check_signs" "check_signs" (defArgs s_check_signs) (defBody s_check_signs) (defScope s_check_signs) .none kV_check_signs dc_check_signs pm_check_signs an_check_signs cd_check_signs ct_check_signs), sl_check_signs⟩)
    (c_check_signs : PySem.W.codeIn K cd_check_signs "check_signs" = true)
    (k_check_signs : PySem.W.keepIn K (.ref f_check_signs) = true)
    (a_check_state : PySem.W.nsIn K mainGlobals "check_state" = some (some (.ref f_check_state)))
    (l_check_state : K.lookup f_check_state = some ⟨oc_check_state, od_check_state, .func (PySem.W.fnOf "check_state" "check_state" (defArgs s_check_state) (defBody s_check_state) (defScope s_check_state) .none kV_check_state dc_check_state pm_check_state an_check_state cd_check_state ct_check_state), sl_check_state⟩)
    (c_check_state : PySem.W.codeIn K cd_check_state "check_state" = true)
    (k_check_state : PySem.W.keepIn K (.ref f_check_state) = true)
    (a_check_text : PySem.W.nsIn K mainGlobals "check_text" = some (some (.ref f_check_text)))
    (l_check_text : K.lookup f_check_text = some ⟨oc_check_text, od_check_text, .func (PySem.W.fnOf "check_text" "check_text" (defArgs s_check_text) (defBody s_check_text) (defScope s_check_text) .none kV_check_text dc_check_text pm_check_text an_check_text cd_check_text ct_check_text), sl_check_text⟩)
    (c_check_text : PySem.W.codeIn K cd_check_text "check_text" = true)
    (k_check_text : PySem.W.keepIn K (.ref f_check_text) = true)
    (a_is_arc : PySem.W.nsIn K mainGlobals "is_arc" = some (some (.ref f_is_arc)))
    (l_is_arc : K.lookup f_is_arc = some ⟨oc_is_arc, od_is_arc, .func (PySem.W.fnOf "is_arc" "is_arc" (defArgs s_is_arc) (defBody s_is_arc) (defScope s_is_arc) .none kV_is_arc dc_is_arc pm_is_arc an_is_arc cd_is_arc ct_is_arc), sl_is_arc⟩)
    (c_is_arc : PySem.W.codeIn K cd_is_arc "is_arc" = true)
    (k_is_arc : PySem.W.keepIn K (.ref f_is_arc) = true)
    (a_Loom_init : PySem.W.findIn K (.ref C_Loom) "__init__" = some (some (.ref f_Loom_init)))
    (i_Loom_init : PySem.W.isFn K (.ref f_Loom_init) = true)
    (l_Loom_init : K.lookup f_Loom_init = some ⟨oc_Loom_init, od_Loom_init, .func (PySem.W.fnOf "__init__" "Loom.__init__" (defArgs s_Loom_init) (defBody s_Loom_init) (defScope s_Loom_init) .none kV_Loom_init dc_Loom_init pm_Loom_init an_Loom_init cd_Loom_init ct_Loom_init), sl_Loom_init⟩)
    (c_Loom_init : PySem.W.codeIn K cd_Loom_init "Loom.__init__" = true)
    (k_Loom_init : PySem.W.keepIn K (.ref f_Loom_init) = true)
    (a_Loom_eq : PySem.W.findIn K (.ref C_Loom) "__eq__" = some (some (.ref f_Loom_eq)))
    (l_Loom_eq : K.lookup f_Loom_eq = some ⟨oc_Loom_eq, od_Loom_eq, .func (PySem.W.fnOf "__eq__" "Loom.__eq__" (defArgs s_Loom_eq) (defBody s_Loom_eq) (defScope s_Loom_eq) .none kV_Loom_eq dc_Loom_eq pm_Loom_eq an_Loom_eq cd_Loom_eq ct_Loom_eq), sl_Loom_eq⟩)
    (c_Loom_eq : PySem.W.codeIn K cd_Loom_eq "Loom.__eq__" = true)
    (k_Loom_eq : PySem.W.keepIn K (.ref f_Loom_eq) = true)
    (a_met : PySem.W.nsIn K mainGlobals "met" = some (some (.ref f_met)))
    (l_met : K.lookup f_met = some ⟨oc_met, od_met, .func (PySem.W.fnOf "met" "met" (defArgs s_met) (defBody s_met) (defScope s_met) .none kV_met dc_met pm_met an_met cd_met ct_met), sl_met⟩)
    (c_met : PySem.W.codeIn K cd_met "met" = true)
    (k_met : PySem.W.keepIn K (.ref f_met) = true)
    (a_book : PySem.W.nsIn K mainGlobals "book" = some (some (.ref f_book)))
    (l_book : K.lookup f_book = some ⟨oc_book, od_book, .func (PySem.W.fnOf "book" "book" (defArgs s_book) (defBody s_book) (defScope s_book) .none kV_book dc_book pm_book an_book cd_book ct_book), sl_book⟩)
    (c_book : PySem.W.codeIn K cd_book "book" = true)
    (k_book : PySem.W.keepIn K (.ref f_book) = true)
    (a_is_book : PySem.W.nsIn K mainGlobals "is_book" = some (some (.ref f_is_book)))
    (l_is_book : K.lookup f_is_book = some ⟨oc_is_book, od_is_book, .func (PySem.W.fnOf "is_book" "is_book" (defArgs s_is_book) (defBody s_is_book) (defScope s_is_book) .none kV_is_book dc_is_book pm_is_book an_is_book cd_is_book ct_is_book), sl_is_book⟩)
    (c_is_book : PySem.W.codeIn K cd_is_book "is_book" = true)
    (k_is_book : PySem.W.keepIn K (.ref f_is_book) = true)
    (a_check_book : PySem.W.nsIn K mainGlobals "check_book" = some (some (.ref f_check_book)))
    (l_check_book : K.lookup f_check_book = some ⟨oc_check_book, od_check_book, .func (PySem.W.fnOf "check_book" "check_book" (defArgs s_check_book) (defBody s_check_book) (defScope s_check_book) .none kV_check_book dc_check_book pm_check_book an_check_book cd_check_book ct_check_book), sl_check_book⟩)
    (c_check_book : PySem.W.codeIn K cd_check_book "check_book" = true)
    (k_check_book : PySem.W.keepIn K (.ref f_check_book) = true)
    (a_words : PySem.W.nsIn K mainGlobals "words" = some (some (.ref f_words)))
    (l_words : K.lookup f_words = some ⟨oc_words, od_words, .func (PySem.W.fnOf "words" "words" (defArgs s_words) (defBody s_words) (defScope s_words) .none kV_words dc_words pm_words an_words cd_words ct_words), sl_words⟩)
    (c_words : PySem.W.codeIn K cd_words "words" = true)
    (k_words : PySem.W.keepIn K (.ref f_words) = true)
    (a_goes_on : PySem.W.nsIn K mainGlobals "goes_on" = some (some (.ref f_goes_on)))
    (l_goes_on : K.lookup f_goes_on = some ⟨oc_goes_on, od_goes_on, .func (PySem.W.fnOf "goes_on" "goes_on" (defArgs s_goes_on) (defBody s_goes_on) (defScope s_goes_on) .none kV_goes_on dc_goes_on pm_goes_on an_goes_on cd_goes_on ct_goes_on), sl_goes_on⟩)
    (c_goes_on : PySem.W.codeIn K cd_goes_on "goes_on" = true)
    (k_goes_on : PySem.W.keepIn K (.ref f_goes_on) = true)
    (a_live_arcs : PySem.W.nsIn K mainGlobals "live_arcs" = some (some (.ref f_live_arcs)))
    (l_live_arcs : K.lookup f_live_arcs = some ⟨oc_live_arcs, od_live_arcs, .func (PySem.W.fnOf "live_arcs" "live_arcs" (defArgs s_live_arcs) (defBody s_live_arcs) (defScope s_live_arcs) .none kV_live_arcs dc_live_arcs pm_live_arcs an_live_arcs cd_live_arcs ct_live_arcs), sl_live_arcs⟩)
    (c_live_arcs : PySem.W.codeIn K cd_live_arcs "live_arcs" = true)
    (k_live_arcs : PySem.W.keepIn K (.ref f_live_arcs) = true)
    (a_readings : PySem.W.nsIn K mainGlobals "readings" = some (some (.ref f_readings)))
    (l_readings : K.lookup f_readings = some ⟨oc_readings, od_readings, .func (PySem.W.fnOf "readings" "readings" (defArgs s_readings) (defBody s_readings) (defScope s_readings) .none kV_readings dc_readings pm_readings an_readings cd_readings ct_readings), sl_readings⟩)
    (c_readings : PySem.W.codeIn K cd_readings "readings" = true)
    (k_readings : PySem.W.keepIn K (.ref f_readings) = true)
    (a_arcs_by_state : PySem.W.nsIn K mainGlobals "arcs_by_state" = some (some (.ref f_arcs_by_state)))
    (l_arcs_by_state : K.lookup f_arcs_by_state = some ⟨oc_arcs_by_state, od_arcs_by_state, .func (PySem.W.fnOf "arcs_by_state" "arcs_by_state" (defArgs s_arcs_by_state) (defBody s_arcs_by_state) (defScope s_arcs_by_state) .none kV_arcs_by_state dc_arcs_by_state pm_arcs_by_state an_arcs_by_state cd_arcs_by_state ct_arcs_by_state), sl_arcs_by_state⟩)
    (c_arcs_by_state : PySem.W.codeIn K cd_arcs_by_state "arcs_by_state" = true)
    (k_arcs_by_state : PySem.W.keepIn K (.ref f_arcs_by_state) = true)
    (a_starts : PySem.W.nsIn K mainGlobals "starts" = some (some (.ref f_starts)))
    (l_starts : K.lookup f_starts = some ⟨oc_starts, od_starts, .func (PySem.W.fnOf "starts" "starts" (defArgs s_starts) (defBody s_starts) (defScope s_starts) .none kV_starts dc_starts pm_starts an_starts cd_starts ct_starts), sl_starts⟩)
    (c_starts : PySem.W.codeIn K cd_starts "starts" = true)
    (k_starts : PySem.W.keepIn K (.ref f_starts) = true)
    (a_steps : PySem.W.nsIn K mainGlobals "steps" = some (some (.ref f_steps)))
    (l_steps : K.lookup f_steps = some ⟨oc_steps, od_steps, .func (PySem.W.fnOf "steps" "steps" (defArgs s_steps) (defBody s_steps) (defScope s_steps) .none kV_steps dc_steps pm_steps an_steps cd_steps ct_steps), sl_steps⟩)
    (c_steps : PySem.W.codeIn K cd_steps "steps" = true)
    (k_steps : PySem.W.keepIn K (.ref f_steps) = true)
    (a_explored : PySem.W.nsIn K mainGlobals "explored" = some (some (.ref f_explored)))
    (l_explored : K.lookup f_explored = some ⟨oc_explored, od_explored, .func (PySem.W.fnOf "explored" "explored" (defArgs s_explored) (defBody s_explored) (defScope s_explored) .none kV_explored dc_explored pm_explored an_explored cd_explored ct_explored), sl_explored⟩)
    (c_explored : PySem.W.codeIn K cd_explored "explored" = true)
    (k_explored : PySem.W.keepIn K (.ref f_explored) = true)
    (a_is_even : PySem.W.nsIn K mainGlobals "is_even" = some (some (.ref f_is_even)))
    (l_is_even : K.lookup f_is_even = some ⟨oc_is_even, od_is_even, .func (PySem.W.fnOf "is_even" "is_even" (defArgs s_is_even) (defBody s_is_even) (defScope s_is_even) .none kV_is_even dc_is_even pm_is_even an_is_even cd_is_even ct_is_even), sl_is_even⟩)
    (c_is_even : PySem.W.codeIn K cd_is_even "is_even" = true)
    (k_is_even : PySem.W.keepIn K (.ref f_is_even) = true)
    (a_one_way : PySem.W.nsIn K mainGlobals "one_way" = some (some (.ref f_one_way)))
    (l_one_way : K.lookup f_one_way = some ⟨oc_one_way, od_one_way, .func (PySem.W.fnOf "one_way" "one_way" (defArgs s_one_way) (defBody s_one_way) (defScope s_one_way) .none kV_one_way dc_one_way pm_one_way an_one_way cd_one_way ct_one_way), sl_one_way⟩)
    (c_one_way : PySem.W.codeIn K cd_one_way "one_way" = true)
    (k_one_way : PySem.W.keepIn K (.ref f_one_way) = true)
    (a_check_alike : PySem.W.nsIn K mainGlobals "check_alike" = some (some (.ref f_check_alike)))
    (l_check_alike : K.lookup f_check_alike = some ⟨oc_check_alike, od_check_alike, .func (PySem.W.fnOf "check_alike" "check_alike" (defArgs s_check_alike) (defBody s_check_alike) (defScope s_check_alike) .none kV_check_alike dc_check_alike pm_check_alike an_check_alike cd_check_alike ct_check_alike), sl_check_alike⟩)
    (c_check_alike : PySem.W.codeIn K cd_check_alike "check_alike" = true)
    (k_check_alike : PySem.W.keepIn K (.ref f_check_alike) = true)
    (a_joined : PySem.W.nsIn K mainGlobals "joined" = some (some (.ref f_joined)))
    (l_joined : K.lookup f_joined = some ⟨oc_joined, od_joined, .func (PySem.W.fnOf "joined" "joined" (defArgs s_joined) (defBody s_joined) (defScope s_joined) .none kV_joined dc_joined pm_joined an_joined cd_joined ct_joined), sl_joined⟩)
    (c_joined : PySem.W.codeIn K cd_joined "joined" = true)
    (k_joined : PySem.W.keepIn K (.ref f_joined) = true)
    (a_apart : PySem.W.nsIn K mainGlobals "apart" = some (some (.ref f_apart)))
    (l_apart : K.lookup f_apart = some ⟨oc_apart, od_apart, .func (PySem.W.fnOf "apart" "apart" (defArgs s_apart) (defBody s_apart) (defScope s_apart) .none kV_apart dc_apart pm_apart an_apart cd_apart ct_apart), sl_apart⟩)
    (c_apart : PySem.W.codeIn K cd_apart "apart" = true)
    (k_apart : PySem.W.keepIn K (.ref f_apart) = true)
    (a_l_take : PySem.W.nsIn K mainGlobals "_law_take" = some (some (.ref f_l_take)))
    (l_l_take : K.lookup f_l_take = some ⟨oc_l_take, od_l_take, .func (PySem.W.fnOf "_law_take" "_law_take" (defArgs s_l_take) (defBody s_l_take) (defScope s_l_take) .none kV_l_take dc_l_take pm_l_take an_l_take cd_l_take ct_l_take), sl_l_take⟩)
    (c_l_take : PySem.W.codeIn K cd_l_take "_law_take" = true)
    (k_l_take : PySem.W.keepIn K (.ref f_l_take) = true)
    (a_l_word : PySem.W.nsIn K mainGlobals "_law_word" = some (some (.ref f_l_word)))
    (l_l_word : K.lookup f_l_word = some ⟨oc_l_word, od_l_word, .func (PySem.W.fnOf "_law_word" "_law_word" (defArgs s_l_word) (defBody s_l_word) (defScope s_l_word) .none kV_l_word dc_l_word pm_l_word an_l_word cd_l_word ct_l_word), sl_l_word⟩)
    (c_l_word : PySem.W.codeIn K cd_l_word "_law_word" = true)
    (k_l_word : PySem.W.keepIn K (.ref f_l_word) = true)
    (a_l_words : PySem.W.nsIn K mainGlobals "_law_words" = some (some (.ref f_l_words)))
    (l_l_words : K.lookup f_l_words = some ⟨oc_l_words, od_l_words, .func (PySem.W.fnOf "_law_words" "_law_words" (defArgs s_l_words) (defBody s_l_words) (defScope s_l_words) .none kV_l_words dc_l_words pm_l_words an_l_words cd_l_words ct_l_words), sl_l_words⟩)
    (c_l_words : PySem.W.codeIn K cd_l_words "_law_words" = true)
    (k_l_words : PySem.W.keepIn K (.ref f_l_words) = true)
    (a_l_tree : PySem.W.nsIn K mainGlobals "_law_tree" = some (some (.ref f_l_tree)))
    (l_l_tree : K.lookup f_l_tree = some ⟨oc_l_tree, od_l_tree, .func (PySem.W.fnOf "_law_tree" "_law_tree" (defArgs s_l_tree) (defBody s_l_tree) (defScope s_l_tree) .none kV_l_tree dc_l_tree pm_l_tree an_l_tree cd_l_tree ct_l_tree), sl_l_tree⟩)
    (c_l_tree : PySem.W.codeIn K cd_l_tree "_law_tree" = true)
    (k_l_tree : PySem.W.keepIn K (.ref f_l_tree) = true)
    (a_l_shuffled : PySem.W.nsIn K mainGlobals "_law_shuffled" = some (some (.ref f_l_shuffled)))
    (l_l_shuffled : K.lookup f_l_shuffled = some ⟨oc_l_shuffled, od_l_shuffled, .func (PySem.W.fnOf "_law_shuffled" "_law_shuffled" (defArgs s_l_shuffled) (defBody s_l_shuffled) (defScope s_l_shuffled) .none kV_l_shuffled dc_l_shuffled pm_l_shuffled an_l_shuffled cd_l_shuffled ct_l_shuffled), sl_l_shuffled⟩)
    (c_l_shuffled : PySem.W.codeIn K cd_l_shuffled "_law_shuffled" = true)
    (k_l_shuffled : PySem.W.keepIn K (.ref f_l_shuffled) = true)
    (a_l_single : PySem.W.nsIn K mainGlobals "_law_single" = some (some (.ref f_l_single)))
    (l_l_single : K.lookup f_l_single = some ⟨oc_l_single, od_l_single, .func (PySem.W.fnOf "_law_single" "_law_single" (defArgs s_l_single) (defBody s_l_single) (defScope s_l_single) .none kV_l_single dc_l_single pm_l_single an_l_single cd_l_single ct_l_single), sl_l_single⟩)
    (c_l_single : PySem.W.codeIn K cd_l_single "_law_single" = true)
    (k_l_single : PySem.W.keepIn K (.ref f_l_single) = true)
    (a_l_error : PySem.W.nsIn K mainGlobals "_law_error" = some (some (.ref f_l_error)))
    (l_l_error : K.lookup f_l_error = some ⟨oc_l_error, od_l_error, .func (PySem.W.fnOf "_law_error" "_law_error" (defArgs s_l_error) (defBody s_l_error) (defScope s_l_error) .none kV_l_error dc_l_error pm_l_error an_l_error cd_l_error ct_l_error), sl_l_error⟩)
    (c_l_error : PySem.W.codeIn K cd_l_error "_law_error" = true)
    (k_l_error : PySem.W.keepIn K (.ref f_l_error) = true)
    (a_l_inner : PySem.W.nsIn K mainGlobals "_law_inner" = some (some (.ref f_l_inner)))
    (l_l_inner : K.lookup f_l_inner = some ⟨oc_l_inner, od_l_inner, .func (PySem.W.fnOf "_law_inner" "_law_inner" (defArgs s_l_inner) (defBody s_l_inner) (defScope s_l_inner) .none kV_l_inner dc_l_inner pm_l_inner an_l_inner cd_l_inner ct_l_inner), sl_l_inner⟩)
    (c_l_inner : PySem.W.codeIn K cd_l_inner "_law_inner" = true)
    (k_l_inner : PySem.W.keepIn K (.ref f_l_inner) = true)
    (a_l_spelled : PySem.W.nsIn K mainGlobals "_law_spelled" = some (some (.ref f_l_spelled)))
    (l_l_spelled : K.lookup f_l_spelled = some ⟨oc_l_spelled, od_l_spelled, .func (PySem.W.fnOf "_law_spelled" "_law_spelled" (defArgs s_l_spelled) (defBody s_l_spelled) (defScope s_l_spelled) .none kV_l_spelled dc_l_spelled pm_l_spelled an_l_spelled cd_l_spelled ct_l_spelled), sl_l_spelled⟩)
    (c_l_spelled : PySem.W.codeIn K cd_l_spelled "_law_spelled" = true)
    (k_l_spelled : PySem.W.keepIn K (.ref f_l_spelled) = true)
    (a_law : PySem.W.nsIn K mainGlobals "law" = some (some (.ref f_law)))
    (l_law : K.lookup f_law = some ⟨oc_law, od_law, .func (PySem.W.fnOf "law" "law" (defArgs s_law) (defBody s_law) (defScope s_law) .none kV_law dc_law pm_law an_law (.ref cLaw) ct_law), sl_law⟩)
    (c_law : PySem.W.codeIn K (.ref cLaw) "law" = true)
    (kcl : K.lookup cLaw = some ⟨eL, dL, .fields vL, slL⟩)
    (v11 : vL[11]? = some (.ref pLaw))
    (chd : PySem.W.codeHdIn K cLaw pLaw = true)
    (nT : K.lookup pLaw = none)
    (k_law : PySem.W.keepIn K (.ref f_law) = true)
    (pg_Loom : PySem.W.plainGet K C_Loom Str.empty = true)
    (hd_Loom : PySem.W.hasDictIn K C_Loom = true)
    (po_Loom : PySem.W.plainOver K C_Loom = true)
    (sa_Loom : PySem.W.findIn K (.ref C_Loom) "__setattr__" = some (some (.builtin "object.__setattr__")))
    (mk_Loom : PySem.W.makesIn K C_Loom = true)
    (kc_Loom : PySem.W.keepIn K (.ref C_Loom) = true)
    (na_Loom_signs : PySem.W.findIn K (.ref C_Loom) "signs" = some none)
    (na_Loom_arcs : PySem.W.findIn K (.ref C_Loom) "arcs" = some none)
    (kc_InvalidLoom : PySem.W.keepIn K (.ref C_InvalidLoom) = true)
    (e1_InvalidLoom : PySem.W.findIn K (.ref C_InvalidLoom) "__getattribute__" = some (some (.builtin "BaseException.__getattribute__")))
    (e2_InvalidLoom : PySem.W.findIn K (.ref C_InvalidLoom) "__getattr__" = some none)
    (e3_InvalidLoom : PySem.W.subIn K (.ref C_InvalidLoom) (.type "BaseException") = some true)
    (e4_InvalidLoom : PySem.W.hasDictIn K C_InvalidLoom = true)
    (e5_InvalidLoom : PySem.W.findIn K (.ref C_InvalidLoom) "__class__" = some (some (.builtin "object.__class__")))
    (e8_InvalidLoom : PySem.W.mroIn K C_InvalidLoom (.type "object") = some true)
    (ty_InvalidLoom : PySem.W.typeIn K (.ref C_InvalidLoom) = some (.type "type"))
    (xi_InvalidLoom : K.lookup C_InvalidLoom = some (excClassObj nm_InvalidLoom q_InvalidLoom C_InvalidLoom ns_InvalidLoom bs_InvalidLoom [.ref C_ReadError, .type "Exception", .type "BaseException", .type "object"] true sn_InvalidLoom sub_InvalidLoom ab_InvalidLoom col_InvalidLoom dd_InvalidLoom m0_InvalidLoom m1_InvalidLoom m2_InvalidLoom m3_InvalidLoom m5_InvalidLoom "Exception.__new__"))
    (tf_InvalidLoom : PySem.W.typeIn K (.ref f_InvalidLoom_init) = some (.type "function"))
    (sa_InvalidLoom : PySem.W.findIn K (.ref C_InvalidLoom) "__setattr__" = some (some (.builtin "object.__setattr__")))
    (no_InvalidLoom_part : PySem.W.findIn K (.ref C_InvalidLoom) "part" = some none)
    (no_InvalidLoom_at : PySem.W.findIn K (.ref C_InvalidLoom) "at" = some none)
    (kc_LimitExceeded : PySem.W.keepIn K (.ref C_LimitExceeded) = true)
    (e1_LimitExceeded : PySem.W.findIn K (.ref C_LimitExceeded) "__getattribute__" = some (some (.builtin "BaseException.__getattribute__")))
    (e2_LimitExceeded : PySem.W.findIn K (.ref C_LimitExceeded) "__getattr__" = some none)
    (e3_LimitExceeded : PySem.W.subIn K (.ref C_LimitExceeded) (.type "BaseException") = some true)
    (e4_LimitExceeded : PySem.W.hasDictIn K C_LimitExceeded = true)
    (e5_LimitExceeded : PySem.W.findIn K (.ref C_LimitExceeded) "__class__" = some (some (.builtin "object.__class__")))
    (e8_LimitExceeded : PySem.W.mroIn K C_LimitExceeded (.type "object") = some true)
    (ty_LimitExceeded : PySem.W.typeIn K (.ref C_LimitExceeded) = some (.type "type"))
    (xi_LimitExceeded : K.lookup C_LimitExceeded = some (excClassObj nm_LimitExceeded q_LimitExceeded C_LimitExceeded ns_LimitExceeded bs_LimitExceeded [.ref C_ReadError, .type "Exception", .type "BaseException", .type "object"] true sn_LimitExceeded sub_LimitExceeded ab_LimitExceeded col_LimitExceeded dd_LimitExceeded m0_LimitExceeded m1_LimitExceeded m2_LimitExceeded m3_LimitExceeded m5_LimitExceeded "Exception.__new__"))
    (tf_LimitExceeded : PySem.W.typeIn K (.ref f_LimitExceeded_init) = some (.type "function"))
    (sa_LimitExceeded : PySem.W.findIn K (.ref C_LimitExceeded) "__setattr__" = some (some (.builtin "object.__setattr__")))
    (no_LimitExceeded_limit : PySem.W.findIn K (.ref C_LimitExceeded) "limit" = some none)
    (kc_Unlike : PySem.W.keepIn K (.ref C_Unlike) = true)
    (e1_Unlike : PySem.W.findIn K (.ref C_Unlike) "__getattribute__" = some (some (.builtin "BaseException.__getattribute__")))
    (e2_Unlike : PySem.W.findIn K (.ref C_Unlike) "__getattr__" = some none)
    (e3_Unlike : PySem.W.subIn K (.ref C_Unlike) (.type "BaseException") = some true)
    (e4_Unlike : PySem.W.hasDictIn K C_Unlike = true)
    (e5_Unlike : PySem.W.findIn K (.ref C_Unlike) "__class__" = some (some (.builtin "object.__class__")))
    (e8_Unlike : PySem.W.mroIn K C_Unlike (.type "object") = some true)
    (ty_Unlike : PySem.W.typeIn K (.ref C_Unlike) = some (.type "type"))
    (in_Unlike : PySem.W.excIn K C_Unlike [.type "Exception", .type "BaseException", .type "object"] "Exception.__new__" = true)
    (kc_NotABook : PySem.W.keepIn K (.ref C_NotABook) = true)
    (e1_NotABook : PySem.W.findIn K (.ref C_NotABook) "__getattribute__" = some (some (.builtin "BaseException.__getattribute__")))
    (e2_NotABook : PySem.W.findIn K (.ref C_NotABook) "__getattr__" = some none)
    (e3_NotABook : PySem.W.subIn K (.ref C_NotABook) (.type "BaseException") = some true)
    (e4_NotABook : PySem.W.hasDictIn K C_NotABook = true)
    (e5_NotABook : PySem.W.findIn K (.ref C_NotABook) "__class__" = some (some (.builtin "object.__class__")))
    (e8_NotABook : PySem.W.mroIn K C_NotABook (.type "object") = some true)
    (ty_NotABook : PySem.W.typeIn K (.ref C_NotABook) = some (.type "type"))
    (in_NotABook : PySem.W.excIn K C_NotABook [.type "Exception", .type "BaseException", .type "object"] "Exception.__new__" = true)
    (kc_UnknownState : PySem.W.keepIn K (.ref C_UnknownState) = true)
    (e1_UnknownState : PySem.W.findIn K (.ref C_UnknownState) "__getattribute__" = some (some (.builtin "BaseException.__getattribute__")))
    (e2_UnknownState : PySem.W.findIn K (.ref C_UnknownState) "__getattr__" = some none)
    (e3_UnknownState : PySem.W.subIn K (.ref C_UnknownState) (.type "BaseException") = some true)
    (e4_UnknownState : PySem.W.hasDictIn K C_UnknownState = true)
    (e5_UnknownState : PySem.W.findIn K (.ref C_UnknownState) "__class__" = some (some (.builtin "object.__class__")))
    (e8_UnknownState : PySem.W.mroIn K C_UnknownState (.type "object") = some true)
    (ty_UnknownState : PySem.W.typeIn K (.ref C_UnknownState) = some (.type "type"))
    (in_UnknownState : PySem.W.excIn K C_UnknownState [.type "Exception", .type "BaseException", .type "object"] "Exception.__new__" = true)
    (kc_InvalidText : PySem.W.keepIn K (.ref C_InvalidText) = true)
    (e1_InvalidText : PySem.W.findIn K (.ref C_InvalidText) "__getattribute__" = some (some (.builtin "BaseException.__getattribute__")))
    (e2_InvalidText : PySem.W.findIn K (.ref C_InvalidText) "__getattr__" = some none)
    (e3_InvalidText : PySem.W.subIn K (.ref C_InvalidText) (.type "BaseException") = some true)
    (e4_InvalidText : PySem.W.hasDictIn K C_InvalidText = true)
    (e5_InvalidText : PySem.W.findIn K (.ref C_InvalidText) "__class__" = some (some (.builtin "object.__class__")))
    (e8_InvalidText : PySem.W.mroIn K C_InvalidText (.type "object") = some true)
    (ty_InvalidText : PySem.W.typeIn K (.ref C_InvalidText) = some (.type "type"))
    (in_InvalidText : PySem.W.excIn K C_InvalidText [.type "Exception", .type "BaseException", .type "object"] "Exception.__new__" = true)
    (kc_NotOneWay : PySem.W.keepIn K (.ref C_NotOneWay) = true)
    (e1_NotOneWay : PySem.W.findIn K (.ref C_NotOneWay) "__getattribute__" = some (some (.builtin "BaseException.__getattribute__")))
    (e2_NotOneWay : PySem.W.findIn K (.ref C_NotOneWay) "__getattr__" = some none)
    (e3_NotOneWay : PySem.W.subIn K (.ref C_NotOneWay) (.type "BaseException") = some true)
    (e4_NotOneWay : PySem.W.hasDictIn K C_NotOneWay = true)
    (e5_NotOneWay : PySem.W.findIn K (.ref C_NotOneWay) "__class__" = some (some (.builtin "object.__class__")))
    (e8_NotOneWay : PySem.W.mroIn K C_NotOneWay (.type "object") = some true)
    (ty_NotOneWay : PySem.W.typeIn K (.ref C_NotOneWay) = some (.type "type"))
    (in_NotOneWay : PySem.W.excIn K C_NotOneWay [.type "Exception", .type "BaseException", .type "object"] "Exception.__new__" = true)
    (e6 : PySem.W.specialIn K (.builtin "object.__class__") "__get__" = some (some (.builtin "getset_descriptor.__get__")))
    (e7 : PySem.W.takesIn K (.builtin "object.__class__") = some true)
    (ic_Loom : PySem.W.findIn K (.ref C_Loom) "__class__" = some (some (.builtin "object.__class__")))
    (ig : PySem.W.specialIn K (.builtin "object.__class__") "__get__" = some (some (.builtin "getset_descriptor.__get__")))
    (it : PySem.W.takesIn K (.builtin "object.__class__") = some true)
    (im_Loom : PySem.W.mroIn K C_Loom (.type "object") = some true)
    (eq_Loom : PySem.W.findIn K (.ref C_Loom) "__eq__" = some (some (.ref f_Loom_eq)))
    (fn_Loom_eq : PySem.W.isFn K (.ref f_Loom_eq) = true)
    (ne_Loom : PySem.W.findIn K (.ref C_Loom) "__ne__" = some (some (.builtin "object.__ne__")))
    (cc_Loom : PySem.W.isClsIn K C_Loom = true)
    (ty_Loom : PySem.W.typeIn K (.ref C_Loom) = some (.type "type"))
    (sb_NoneType : PySem.W.subIn K (.type "NoneType") (.ref C_Loom) = some false)
    (sb_int : PySem.W.subIn K (.type "int") (.ref C_Loom) = some false)
    (sb_bool : PySem.W.subIn K (.type "bool") (.ref C_Loom) = some false)
    (sb_str : PySem.W.subIn K (.type "str") (.ref C_Loom) = some false)
    (sb_list : PySem.W.subIn K (.type "list") (.ref C_Loom) = some false)
    (sb_tuple : PySem.W.subIn K (.type "tuple") (.ref C_Loom) = some false)
    (sb_dict : PySem.W.subIn K (.type "dict") (.ref C_Loom) = some false)
    (cl_InvalidLoom : PySem.W.isClsIn K C_InvalidLoom = true)
    (cl_LimitExceeded : PySem.W.isClsIn K C_LimitExceeded = true)
    (cl_Unlike : PySem.W.isClsIn K C_Unlike = true)
    (cl_NotABook : PySem.W.isClsIn K C_NotABook = true)
    (cl_NotOneWay : PySem.W.isClsIn K C_NotOneWay = true)
    (su_Unlike_InvalidLoom : PySem.W.subIn K (.ref C_Unlike) (.ref C_InvalidLoom) = some false)
    (su_Unlike_NotABook : PySem.W.subIn K (.ref C_Unlike) (.ref C_NotABook) = some false)
    (su_Unlike_Unlike : PySem.W.subIn K (.ref C_Unlike) (.ref C_Unlike) = some true)
    (su_NotOneWay_InvalidLoom : PySem.W.subIn K (.ref C_NotOneWay) (.ref C_InvalidLoom) = some false)
    (su_NotOneWay_NotABook : PySem.W.subIn K (.ref C_NotOneWay) (.ref C_NotABook) = some false)
    (su_NotOneWay_Unlike : PySem.W.subIn K (.ref C_NotOneWay) (.ref C_Unlike) = some false)
    (su_NotOneWay_NotOneWay : PySem.W.subIn K (.ref C_NotOneWay) (.ref C_NotOneWay) = some true)
    (su_LimitExceeded_InvalidLoom : PySem.W.subIn K (.ref C_LimitExceeded) (.ref C_InvalidLoom) = some false)
    (su_LimitExceeded_NotABook : PySem.W.subIn K (.ref C_LimitExceeded) (.ref C_NotABook) = some false)
    (su_LimitExceeded_Unlike : PySem.W.subIn K (.ref C_LimitExceeded) (.ref C_Unlike) = some false)
    (su_LimitExceeded_NotOneWay : PySem.W.subIn K (.ref C_LimitExceeded) (.ref C_NotOneWay) = some false)
    (su_LimitExceeded_LimitExceeded : PySem.W.subIn K (.ref C_LimitExceeded) (.ref C_LimitExceeded) = some true)
    (nx_InvalidLoom_part : PySem.W.findIn K (.ref C_InvalidLoom) "part" = some none)
    (nx_InvalidLoom_at : PySem.W.findIn K (.ref C_InvalidLoom) "at" = some none)
    (nx_LimitExceeded_limit : PySem.W.findIn K (.ref C_LimitExceeded) "limit" = some none)
    (z_all : PySem.W.nsIn K mainGlobals "all" = some none)
    (z_any : PySem.W.nsIn K mainGlobals "any" = some none)
    (z_bool : PySem.W.nsIn K mainGlobals "bool" = some none)
    (z_enumerate : PySem.W.nsIn K mainGlobals "enumerate" = some none)
    (z_int : PySem.W.nsIn K mainGlobals "int" = some none)
    (z_isinstance : PySem.W.nsIn K mainGlobals "isinstance" = some none)
    (z_len : PySem.W.nsIn K mainGlobals "len" = some none)
    (z_list : PySem.W.nsIn K mainGlobals "list" = some none)
    (z_max : PySem.W.nsIn K mainGlobals "max" = some none)
    (z_range : PySem.W.nsIn K mainGlobals "range" = some none)
    (z_reversed : PySem.W.nsIn K mainGlobals "reversed" = some none)
    (z_set : PySem.W.nsIn K mainGlobals "set" = some none)
    (z_sorted : PySem.W.nsIn K mainGlobals "sorted" = some none)
    (z_str : PySem.W.nsIn K mainGlobals "str" = some none)
    (z_tuple : PySem.W.nsIn K mainGlobals "tuple" = some none)
    (z_zip : PySem.W.nsIn K mainGlobals "zip" = some none)
    (g_MOST_SIGNS : PySem.W.nsIn K mainGlobals "MOST_SIGNS" = some (some (.int 4 t_MOST_SIGNS)))
    (g_LONGEST_WORD : PySem.W.nsIn K mainGlobals "LONGEST_WORD" = some (some (.int 12 t_LONGEST_WORD)))
    (g_LONGEST_TEXT : PySem.W.nsIn K mainGlobals "LONGEST_TEXT" = some (some (.int 2000 t_LONGEST_TEXT)))
    (g_LAST_STATE : PySem.W.nsIn K mainGlobals "LAST_STATE" = some (some (.int 63 t_LAST_STATE)))
    (g_MOST_ARCS : PySem.W.nsIn K mainGlobals "MOST_ARCS" = some (some (.int 200 t_MOST_ARCS)))
    (g_MOST_READINGS : PySem.W.nsIn K mainGlobals "MOST_READINGS" = some (some (.int 200 t_MOST_READINGS)))
    (g_LETTERS : PySem.W.nsIn K mainGlobals "LETTERS" = some (some (.str "abcd" t_LETTERS)))
    : LamX.LawAtS l w K CX0 10 63 "_law_script" mg fa h := by
  have e := hfa.symm.trans (PySem.W.mg_of X G a_law)
  cases e
  have F_InvalidLoom_init := fun_mk (st := s_InvalidLoom_init) l_InvalidLoom_init c_InvalidLoom_init k_InvalidLoom_init
  have b_InvalidLoom_init := F_InvalidLoom_init.binds (ps := P_InvalidLoom_init) fun _ _ _ _ _ _ us hl => match us, hl with | [_, _, _], _ => rfl
  have F_LimitExceeded_init := fun_mk (st := s_LimitExceeded_init) l_LimitExceeded_init c_LimitExceeded_init k_LimitExceeded_init
  have b_LimitExceeded_init := F_LimitExceeded_init.binds (ps := P_LimitExceeded_init) fun _ _ _ _ _ _ us hl => match us, hl with | [_, _], _ => rfl
  have F_is_number := fun_mk (st := s_is_number) l_is_number c_is_number k_is_number
  have b_is_number := F_is_number.binds (ps := P_is_number) fun _ _ _ _ _ _ us hl => match us, hl with | [_, _, _], _ => rfl
  have F_is_sequence := fun_mk (st := s_is_sequence) l_is_sequence c_is_sequence k_is_sequence
  have b_is_sequence := F_is_sequence.binds (ps := P_is_sequence) fun _ _ _ _ _ _ us hl => match us, hl with | [_, _, _], _ => rfl
  have F_is_signs := fun_mk (st := s_is_signs) l_is_signs c_is_signs k_is_signs
  have b_is_signs := F_is_signs.binds (ps := P_is_signs) fun _ _ _ _ _ _ us hl => match us, hl with | [_], _ => rfl
  have F_is_string_over := fun_mk (st := s_is_string_over) l_is_string_over c_is_string_over k_is_string_over
  have b_is_string_over := F_is_string_over.binds (ps := P_is_string_over) fun _ _ _ _ _ _ us hl => match us, hl with | [_, _, _, _], _ => rfl
  have F_is_word := fun_mk (st := s_is_word) l_is_word c_is_word k_is_word
  have b_is_word := F_is_word.binds (ps := P_is_word) fun _ _ _ _ _ _ us hl => match us, hl with | [_, _], _ => rfl
  have F_check_signs := fun_mk (st := s_check_signs) l_check_signs c_check_signs k_check_signs
  have b_check_signs := F_check_signs.binds (ps := P_check_signs) fun _ _ _ _ _ _ us hl => match us, hl with | [_], _ => rfl
  have F_check_state := fun_mk (st := s_check_state) l_check_state c_check_state k_check_state
  have b_check_state := F_check_state.binds (ps := P_check_state) fun _ _ _ _ _ _ us hl => match us, hl with | [_], _ => rfl
  have F_check_text := fun_mk (st := s_check_text) l_check_text c_check_text k_check_text
  have b_check_text := F_check_text.binds (ps := P_check_text) fun _ _ _ _ _ _ us hl => match us, hl with | [_, _], _ => rfl
  have F_is_arc := fun_mk (st := s_is_arc) l_is_arc c_is_arc k_is_arc
  have b_is_arc := F_is_arc.binds (ps := P_is_arc) fun _ _ _ _ _ _ us hl => match us, hl with | [_, _], _ => rfl
  have F_Loom_init := fun_mk (st := s_Loom_init) l_Loom_init c_Loom_init k_Loom_init
  have b_Loom_init := F_Loom_init.binds (ps := P_Loom_init) fun _ _ _ _ _ _ us hl => match us, hl with | [_, _, _], _ => rfl
  have F_Loom_eq := fun_mk (st := s_Loom_eq) l_Loom_eq c_Loom_eq k_Loom_eq
  have b_Loom_eq := F_Loom_eq.binds (ps := P_Loom_eq) fun _ _ _ _ _ _ us hl => match us, hl with | [_, _], _ => rfl
  have F_met := fun_mk (st := s_met) l_met c_met k_met
  have b_met := F_met.binds (ps := P_met) fun _ _ _ _ _ _ us hl => match us, hl with | [_], _ => rfl
  have F_book := fun_mk (st := s_book) l_book c_book k_book
  have b_book := F_book.binds (ps := P_book) fun _ _ _ _ _ _ us hl => match us, hl with | [_, _], _ => rfl
  have F_is_book := fun_mk (st := s_is_book) l_is_book c_is_book k_is_book
  have b_is_book := F_is_book.binds (ps := P_is_book) fun _ _ _ _ _ _ us hl => match us, hl with | [_], _ => rfl
  have F_check_book := fun_mk (st := s_check_book) l_check_book c_check_book k_check_book
  have b_check_book := F_check_book.binds (ps := P_check_book) fun _ _ _ _ _ _ us hl => match us, hl with | [_], _ => rfl
  have F_words := fun_mk (st := s_words) l_words c_words k_words
  have b_words := F_words.binds (ps := P_words) fun _ _ _ _ _ _ us hl => match us, hl with | [_], _ => rfl
  have F_goes_on := fun_mk (st := s_goes_on) l_goes_on c_goes_on k_goes_on
  have b_goes_on := F_goes_on.binds (ps := P_goes_on) fun _ _ _ _ _ _ us hl => match us, hl with | [_, _, _, _, _], _ => rfl
  have F_live_arcs := fun_mk (st := s_live_arcs) l_live_arcs c_live_arcs k_live_arcs
  have b_live_arcs := F_live_arcs.binds (ps := P_live_arcs) fun _ _ _ _ _ _ us hl => match us, hl with | [_, _, _], _ => rfl
  have F_readings := fun_mk (st := s_readings) l_readings c_readings k_readings
  have b_readings := F_readings.binds (ps := P_readings) fun _ _ _ _ _ _ us hl => match us, hl with | [_, _, _], _ => rfl
  have F_arcs_by_state := fun_mk (st := s_arcs_by_state) l_arcs_by_state c_arcs_by_state k_arcs_by_state
  have b_arcs_by_state := F_arcs_by_state.binds (ps := P_arcs_by_state) fun _ _ _ _ _ _ us hl => match us, hl with | [_], _ => rfl
  have F_starts := fun_mk (st := s_starts) l_starts c_starts k_starts
  have b_starts := F_starts.binds (ps := P_starts) fun _ _ _ _ _ _ us hl => match us, hl with | [_], _ => rfl
  have F_steps := fun_mk (st := s_steps) l_steps c_steps k_steps
  have b_steps := F_steps.binds (ps := P_steps) fun _ _ _ _ _ _ us hl => match us, hl with | [_, _], _ => rfl
  have F_explored := fun_mk (st := s_explored) l_explored c_explored k_explored
  have b_explored := F_explored.binds (ps := P_explored) fun _ _ _ _ _ _ us hl => match us, hl with | [_], _ => rfl
  have F_is_even := fun_mk (st := s_is_even) l_is_even c_is_even k_is_even
  have b_is_even := F_is_even.binds (ps := P_is_even) fun _ _ _ _ _ _ us hl => match us, hl with | [_], _ => rfl
  have F_one_way := fun_mk (st := s_one_way) l_one_way c_one_way k_one_way
  have b_one_way := F_one_way.binds (ps := P_one_way) fun _ _ _ _ _ _ us hl => match us, hl with | [_], _ => rfl
  have F_check_alike := fun_mk (st := s_check_alike) l_check_alike c_check_alike k_check_alike
  have b_check_alike := F_check_alike.binds (ps := P_check_alike) fun _ _ _ _ _ _ us hl => match us, hl with | [_, _], _ => rfl
  have F_joined := fun_mk (st := s_joined) l_joined c_joined k_joined
  have b_joined := F_joined.binds (ps := P_joined) fun _ _ _ _ _ _ us hl => match us, hl with | [_, _], _ => rfl
  have F_apart := fun_mk (st := s_apart) l_apart c_apart k_apart
  have b_apart := F_apart.binds (ps := P_apart) fun _ _ _ _ _ _ us hl => match us, hl with | [_, _], _ => rfl
  have F_l_take := fun_mk (st := s_l_take) l_l_take c_l_take k_l_take
  have b_l_take := F_l_take.binds (ps := P_l_take) fun _ _ _ _ _ _ us hl => match us, hl with | [_, _, _], _ => rfl
  have F_l_word := fun_mk (st := s_l_word) l_l_word c_l_word k_l_word
  have b_l_word := F_l_word.binds (ps := P_l_word) fun _ _ _ _ _ _ us hl => match us, hl with | [_, _, _, _], _ => rfl
  have F_l_words := fun_mk (st := s_l_words) l_l_words c_l_words k_l_words
  have b_l_words := F_l_words.binds (ps := P_l_words) fun _ _ _ _ _ _ us hl => match us, hl with | [_, _, _, _, _], _ => rfl
  have F_l_tree := fun_mk (st := s_l_tree) l_l_tree c_l_tree k_l_tree
  have b_l_tree := F_l_tree.binds (ps := P_l_tree) fun _ _ _ _ _ _ us hl => match us, hl with | [_, _, _, _, _], _ => rfl
  have F_l_shuffled := fun_mk (st := s_l_shuffled) l_l_shuffled c_l_shuffled k_l_shuffled
  have b_l_shuffled := F_l_shuffled.binds (ps := P_l_shuffled) fun _ _ _ _ _ _ us hl => match us, hl with | [_, _, _], _ => rfl
  have F_l_single := fun_mk (st := s_l_single) l_l_single c_l_single k_l_single
  have b_l_single := F_l_single.binds (ps := P_l_single) fun _ _ _ _ _ _ us hl => match us, hl with | [_], _ => rfl
  have F_l_error := fun_mk (st := s_l_error) l_l_error c_l_error k_l_error
  have b_l_error := F_l_error.binds (ps := P_l_error) fun _ _ _ _ _ _ us hl => match us, hl with | [_], _ => rfl
  have F_l_inner := fun_mk (st := s_l_inner) l_l_inner c_l_inner k_l_inner
  have b_l_inner := F_l_inner.binds (ps := P_l_inner) fun _ _ _ _ _ _ us hl => match us, hl with | [_, _, _], _ => rfl
  have F_l_spelled := fun_mk (st := s_l_spelled) l_l_spelled c_l_spelled k_l_spelled
  have b_l_spelled := F_l_spelled.binds (ps := P_l_spelled) fun _ _ _ _ _ _ us hl => match us, hl with | [_, _], _ => rfl
  have F_law := fun_mk (st := s_law) l_law c_law k_law
  have b_law := F_law.binds (ps := P_law) fun _ _ _ _ _ _ us hl => match us, hl with | [_], _ => rfl
  refine ⟨_, [(cLaw, pLaw)], spLaw K pLaw, fun p hp => ?_, fun p hp => ?_, fun p hp => ?_, fun s v => .of_eq rfl, fun H a ns hl _ hT hS => ⟨a, ns, rfl, hS, hl, hT _ (List.mem_singleton.mpr rfl), fun _ => rfl⟩, fun base _ _ TB => ok_law {
    f_InvalidLoom_init := _
    fd_InvalidLoom_init := _
    F_InvalidLoom_init := F_InvalidLoom_init
    b_InvalidLoom_init := b_InvalidLoom_init
    f_LimitExceeded_init := _
    fd_LimitExceeded_init := _
    F_LimitExceeded_init := F_LimitExceeded_init
    b_LimitExceeded_init := b_LimitExceeded_init
    f_is_number := _
    fd_is_number := _
    F_is_number := F_is_number
    b_is_number := b_is_number
    m_is_number := PySem.W.mg_of X G a_is_number
    f_is_sequence := _
    fd_is_sequence := _
    F_is_sequence := F_is_sequence
    b_is_sequence := b_is_sequence
    m_is_sequence := PySem.W.mg_of X G a_is_sequence
    f_is_signs := _
    fd_is_signs := _
    F_is_signs := F_is_signs
    b_is_signs := b_is_signs
    m_is_signs := PySem.W.mg_of X G a_is_signs
    f_is_string_over := _
    fd_is_string_over := _
    F_is_string_over := F_is_string_over
    b_is_string_over := b_is_string_over
    m_is_string_over := PySem.W.mg_of X G a_is_string_over
    f_is_word := _
    fd_is_word := _
    F_is_word := F_is_word
    b_is_word := b_is_word
    m_is_word := PySem.W.mg_of X G a_is_word
    f_check_signs := _
    fd_check_signs := _
    F_check_signs := F_check_signs
    b_check_signs := b_check_signs
    m_check_signs := PySem.W.mg_of X G a_check_signs
    f_check_state := _
    fd_check_state := _
    F_check_state := F_check_state
    b_check_state := b_check_state
    m_check_state := PySem.W.mg_of X G a_check_state
    f_check_text := _
    fd_check_text := _
    F_check_text := F_check_text
    b_check_text := b_check_text
    m_check_text := PySem.W.mg_of X G a_check_text
    f_is_arc := _
    fd_is_arc := _
    F_is_arc := F_is_arc
    b_is_arc := b_is_arc
    m_is_arc := PySem.W.mg_of X G a_is_arc
    f_Loom_init := _
    fd_Loom_init := _
    F_Loom_init := F_Loom_init
    b_Loom_init := b_Loom_init
    f_Loom_eq := _
    fd_Loom_eq := _
    F_Loom_eq := F_Loom_eq
    b_Loom_eq := b_Loom_eq
    f_met := _
    fd_met := _
    F_met := F_met
    b_met := b_met
    m_met := PySem.W.mg_of X G a_met
    f_book := _
    fd_book := _
    F_book := F_book
    b_book := b_book
    m_book := PySem.W.mg_of X G a_book
    f_is_book := _
    fd_is_book := _
    F_is_book := F_is_book
    b_is_book := b_is_book
    m_is_book := PySem.W.mg_of X G a_is_book
    f_check_book := _
    fd_check_book := _
    F_check_book := F_check_book
    b_check_book := b_check_book
    m_check_book := PySem.W.mg_of X G a_check_book
    f_words := _
    fd_words := _
    F_words := F_words
    b_words := b_words
    m_words := PySem.W.mg_of X G a_words
    f_goes_on := _
    fd_goes_on := _
    F_goes_on := F_goes_on
    b_goes_on := b_goes_on
    m_goes_on := PySem.W.mg_of X G a_goes_on
    f_live_arcs := _
    fd_live_arcs := _
    F_live_arcs := F_live_arcs
    b_live_arcs := b_live_arcs
    m_live_arcs := PySem.W.mg_of X G a_live_arcs
    f_readings := _
    fd_readings := _
    F_readings := F_readings
    b_readings := b_readings
    m_readings := PySem.W.mg_of X G a_readings
    f_arcs_by_state := _
    fd_arcs_by_state := _
    F_arcs_by_state := F_arcs_by_state
    b_arcs_by_state := b_arcs_by_state
    m_arcs_by_state := PySem.W.mg_of X G a_arcs_by_state
    f_starts := _
    fd_starts := _
    F_starts := F_starts
    b_starts := b_starts
    m_starts := PySem.W.mg_of X G a_starts
    f_steps := _
    fd_steps := _
    F_steps := F_steps
    b_steps := b_steps
    m_steps := PySem.W.mg_of X G a_steps
    f_explored := _
    fd_explored := _
    F_explored := F_explored
    b_explored := b_explored
    m_explored := PySem.W.mg_of X G a_explored
    f_is_even := _
    fd_is_even := _
    F_is_even := F_is_even
    b_is_even := b_is_even
    m_is_even := PySem.W.mg_of X G a_is_even
    f_one_way := _
    fd_one_way := _
    F_one_way := F_one_way
    b_one_way := b_one_way
    m_one_way := PySem.W.mg_of X G a_one_way
    f_check_alike := _
    fd_check_alike := _
    F_check_alike := F_check_alike
    b_check_alike := b_check_alike
    m_check_alike := PySem.W.mg_of X G a_check_alike
    f_joined := _
    fd_joined := _
    F_joined := F_joined
    b_joined := b_joined
    m_joined := PySem.W.mg_of X G a_joined
    f_apart := _
    fd_apart := _
    F_apart := F_apart
    b_apart := b_apart
    m_apart := PySem.W.mg_of X G a_apart
    f_l_take := _
    fd_l_take := _
    F_l_take := F_l_take
    b_l_take := b_l_take
    m_l_take := PySem.W.mg_of X G a_l_take
    f_l_word := _
    fd_l_word := _
    F_l_word := F_l_word
    b_l_word := b_l_word
    m_l_word := PySem.W.mg_of X G a_l_word
    f_l_words := _
    fd_l_words := _
    F_l_words := F_l_words
    b_l_words := b_l_words
    m_l_words := PySem.W.mg_of X G a_l_words
    f_l_tree := _
    fd_l_tree := _
    F_l_tree := F_l_tree
    b_l_tree := b_l_tree
    m_l_tree := PySem.W.mg_of X G a_l_tree
    f_l_shuffled := _
    fd_l_shuffled := _
    F_l_shuffled := F_l_shuffled
    b_l_shuffled := b_l_shuffled
    m_l_shuffled := PySem.W.mg_of X G a_l_shuffled
    f_l_single := _
    fd_l_single := _
    F_l_single := F_l_single
    b_l_single := b_l_single
    m_l_single := PySem.W.mg_of X G a_l_single
    f_l_error := _
    fd_l_error := _
    F_l_error := F_l_error
    b_l_error := b_l_error
    m_l_error := PySem.W.mg_of X G a_l_error
    f_l_inner := _
    fd_l_inner := _
    F_l_inner := F_l_inner
    b_l_inner := b_l_inner
    m_l_inner := PySem.W.mg_of X G a_l_inner
    f_l_spelled := _
    fd_l_spelled := _
    F_l_spelled := F_l_spelled
    b_l_spelled := b_l_spelled
    m_l_spelled := PySem.W.mg_of X G a_l_spelled
    f_law := _
    fd_law := _
    F_law := F_law
    b_law := b_law
    m_law := PySem.W.mg_of X G a_law
    n_all := PySem.W.mg_none_of X G z_all
    n_any := PySem.W.mg_none_of X G z_any
    n_bool := PySem.W.mg_none_of X G z_bool
    n_enumerate := PySem.W.mg_none_of X G z_enumerate
    n_int := PySem.W.mg_none_of X G z_int
    n_isinstance := PySem.W.mg_none_of X G z_isinstance
    n_len := PySem.W.mg_none_of X G z_len
    n_list := PySem.W.mg_none_of X G z_list
    n_max := PySem.W.mg_none_of X G z_max
    n_range := PySem.W.mg_none_of X G z_range
    n_reversed := PySem.W.mg_none_of X G z_reversed
    n_set := PySem.W.mg_none_of X G z_set
    n_sorted := PySem.W.mg_none_of X G z_sorted
    n_str := PySem.W.mg_none_of X G z_str
    n_tuple := PySem.W.mg_none_of X G z_tuple
    n_zip := PySem.W.mg_none_of X G z_zip
    t_MOST_SIGNS := t_MOST_SIGNS
    g_MOST_SIGNS := PySem.W.mg_of X G g_MOST_SIGNS
    t_LONGEST_WORD := t_LONGEST_WORD
    g_LONGEST_WORD := PySem.W.mg_of X G g_LONGEST_WORD
    t_LONGEST_TEXT := t_LONGEST_TEXT
    g_LONGEST_TEXT := PySem.W.mg_of X G g_LONGEST_TEXT
    t_LAST_STATE := t_LAST_STATE
    g_LAST_STATE := PySem.W.mg_of X G g_LAST_STATE
    t_MOST_ARCS := t_MOST_ARCS
    g_MOST_ARCS := PySem.W.mg_of X G g_MOST_ARCS
    t_MOST_READINGS := t_MOST_READINGS
    g_MOST_READINGS := PySem.W.mg_of X G g_MOST_READINGS
    t_LETTERS := t_LETTERS
    g_LETTERS := PySem.W.mg_of X G g_LETTERS
    C_Loom := C_Loom
    M_Loom := ⟨mk_Loom, a_Loom_init, i_Loom_init, kc_Loom⟩
    cl_Loom := ⟨pg_Loom, hd_Loom, po_Loom, sa_Loom⟩
    g_Loom := PySem.W.mg_of X G a_CLoom
    na_Loom_signs := na_Loom_signs
    na_Loom_arcs := na_Loom_arcs
    C_InvalidLoom := C_InvalidLoom
    g_InvalidLoom := PySem.W.mg_of X G a_CInvalidLoom
    kc_InvalidLoom := kc_InvalidLoom
    E_InvalidLoom := ⟨e1_InvalidLoom, e2_InvalidLoom, e3_InvalidLoom, e4_InvalidLoom, e5_InvalidLoom, e6, e7, e8_InvalidLoom⟩
    ty_InvalidLoom := ty_InvalidLoom
    X_InvalidLoom := { gC := PySem.W.mg_of X G a_CInvalidLoom, cls := ⟨_, _, _, _, _, _, _, _, _, _, _, _, _, _, _, xi_InvalidLoom, by first | rfl | decide +kernel⟩, sa := sa_InvalidLoom, ga := e1_InvalidLoom, gg := e2_InvalidLoom, no := fun f hf => by simp only [List.mem_cons, List.not_mem_nil, or_false] at hf; rcases hf with rfl | rfl <;> assumption, iC := a_InvalidLoom_init, tC := tf_InvalidLoom, kC := kc_InvalidLoom, exC := e3_InvalidLoom, tyC := ty_InvalidLoom, hdC := e4_InvalidLoom, fn := ⟨_, _, _, _, _, _, _, _, _, l_InvalidLoom_init, c_InvalidLoom_init⟩ }
    C_LimitExceeded := C_LimitExceeded
    g_LimitExceeded := PySem.W.mg_of X G a_CLimitExceeded
    kc_LimitExceeded := kc_LimitExceeded
    E_LimitExceeded := ⟨e1_LimitExceeded, e2_LimitExceeded, e3_LimitExceeded, e4_LimitExceeded, e5_LimitExceeded, e6, e7, e8_LimitExceeded⟩
    ty_LimitExceeded := ty_LimitExceeded
    X_LimitExceeded := { gC := PySem.W.mg_of X G a_CLimitExceeded, cls := ⟨_, _, _, _, _, _, _, _, _, _, _, _, _, _, _, xi_LimitExceeded, by first | rfl | decide +kernel⟩, sa := sa_LimitExceeded, ga := e1_LimitExceeded, gg := e2_LimitExceeded, no := fun f hf => by rw [List.mem_singleton.mp hf]; assumption, iC := a_LimitExceeded_init, tC := tf_LimitExceeded, kC := kc_LimitExceeded, exC := e3_LimitExceeded, tyC := ty_LimitExceeded, hdC := e4_LimitExceeded, fn := ⟨_, _, _, _, _, _, _, _, _, l_LimitExceeded_init, c_LimitExceeded_init⟩ }
    C_Unlike := C_Unlike
    g_Unlike := PySem.W.mg_of X G a_CUnlike
    kc_Unlike := kc_Unlike
    E_Unlike := ⟨e1_Unlike, e2_Unlike, e3_Unlike, e4_Unlike, e5_Unlike, e6, e7, e8_Unlike⟩
    ty_Unlike := ty_Unlike
    in_Unlike := in_Unlike
    C_NotABook := C_NotABook
    g_NotABook := PySem.W.mg_of X G a_CNotABook
    kc_NotABook := kc_NotABook
    E_NotABook := ⟨e1_NotABook, e2_NotABook, e3_NotABook, e4_NotABook, e5_NotABook, e6, e7, e8_NotABook⟩
    ty_NotABook := ty_NotABook
    in_NotABook := in_NotABook
    C_UnknownState := C_UnknownState
    g_UnknownState := PySem.W.mg_of X G a_CUnknownState
    kc_UnknownState := kc_UnknownState
    E_UnknownState := ⟨e1_UnknownState, e2_UnknownState, e3_UnknownState, e4_UnknownState, e5_UnknownState, e6, e7, e8_UnknownState⟩
    ty_UnknownState := ty_UnknownState
    in_UnknownState := in_UnknownState
    C_InvalidText := C_InvalidText
    g_InvalidText := PySem.W.mg_of X G a_CInvalidText
    kc_InvalidText := kc_InvalidText
    E_InvalidText := ⟨e1_InvalidText, e2_InvalidText, e3_InvalidText, e4_InvalidText, e5_InvalidText, e6, e7, e8_InvalidText⟩
    ty_InvalidText := ty_InvalidText
    in_InvalidText := in_InvalidText
    C_NotOneWay := C_NotOneWay
    g_NotOneWay := PySem.W.mg_of X G a_CNotOneWay
    kc_NotOneWay := kc_NotOneWay
    E_NotOneWay := ⟨e1_NotOneWay, e2_NotOneWay, e3_NotOneWay, e4_NotOneWay, e5_NotOneWay, e6, e7, e8_NotOneWay⟩
    ty_NotOneWay := ty_NotOneWay
    in_NotOneWay := in_NotOneWay
    ic_Loom := ic_Loom
    ig := ig
    it := it
    im_Loom := im_Loom
    eq_Loom := eq_Loom
    fn_Loom_eq := fn_Loom_eq
    ne_Loom := ne_Loom
    cc_Loom := cc_Loom
    ty_Loom := ty_Loom
    sb_NoneType := sb_NoneType
    sb_int := sb_int
    sb_bool := sb_bool
    sb_str := sb_str
    sb_list := sb_list
    sb_tuple := sb_tuple
    sb_dict := sb_dict
    cl_InvalidLoom := cl_InvalidLoom
    cl_LimitExceeded := cl_LimitExceeded
    cl_Unlike := cl_Unlike
    cl_NotABook := cl_NotABook
    cl_NotOneWay := cl_NotOneWay
    su_Unlike_InvalidLoom := su_Unlike_InvalidLoom
    su_Unlike_NotABook := su_Unlike_NotABook
    su_Unlike_Unlike := su_Unlike_Unlike
    su_NotOneWay_InvalidLoom := su_NotOneWay_InvalidLoom
    su_NotOneWay_NotABook := su_NotOneWay_NotABook
    su_NotOneWay_Unlike := su_NotOneWay_Unlike
    su_NotOneWay_NotOneWay := su_NotOneWay_NotOneWay
    su_LimitExceeded_InvalidLoom := su_LimitExceeded_InvalidLoom
    su_LimitExceeded_NotABook := su_LimitExceeded_NotABook
    su_LimitExceeded_Unlike := su_LimitExceeded_Unlike
    su_LimitExceeded_NotOneWay := su_LimitExceeded_NotOneWay
    su_LimitExceeded_LimitExceeded := su_LimitExceeded_LimitExceeded
    nx_InvalidLoom_part := nx_InvalidLoom_part
    nx_InvalidLoom_at := nx_InvalidLoom_at
    nx_LimitExceeded_limit := nx_LimitExceeded_limit
    cLaw := cLaw
    pLaw := pLaw
    co_law := rfl } (TB _ (List.mem_singleton.mpr rfl))⟩
  · rw [List.mem_singleton.mp hp]; exact own cLaw pLaw _ _ _ _ _ _ l_law rfl rfl kcl v11
  · rw [List.mem_singleton.mp hp]; exact nT
  · rw [List.mem_singleton.mp hp]; exact PySem.W.codeHd_of_K X chd
open PySem.Spec PyProof.Rows in
theorem walk {l : PySem.W.OpenLaw} {q : Program} {loose : List Str} {XP : (Str → Option Value) → Heap → Prop} {YP : World → Heap → Prop} {d : DefRec} {K : Params → PySem.W.Frag} (hn : l.most = some 63) (hdf : d.params.defaults = [])
    (hrec : ((recsOf q).any fun e => e.name == d.name) = true) (hY : ∀ (w : World) (h : Heap), YP w h → (K w.params).In h)
    (F : ∀ (w : World) (mg : Str → Option Value) (fa : Addr) (h : Heap), YP w h → (K w.params).In h → h.Ns mainGlobals mg → mg d.name = some (.ref fa) → LamX.OwnTab (K w.params) fa h → LamX.LawAtS l w (K w.params) CX0 10 63 "_law_script" mg fa h) :
    PySem.W.WalkO q loose XP YP l.row.toRowW d [] (fun f vs => PySem.call f vs) :=
  LamX.walk_ofOwn (n := 63) (k := 10) (x := "_law_script") (CX := fun _ => CX0) hn (by decide) hdf ⟨rfl, by decide, by decide⟩ hrec hY F fun _ _ _ _ _ z => z
end J

open PySem PySem.W PyProof.Rows in
set_option maxRecDepth 100000 in
set_option maxHeartbeats 0 in
theorem PySem.Challenge.cw_onewayread_k35_books_taken_apart_holds : PySem.Challenge.rw_onewayread_k35_books_taken_apart.Holds := by
  w_on; o_law; k_head; (case hw => w_witness2)
  k_fill
  refine J.walk (l := PySem.Challenge.rw_onewayread_k35_books_taken_apart) rfl rfl ?hrec (fun w h Y => by first | exact PySem.W.km_in_of Y | exact PySem.W.kIn_of Y) ?F
  case hrec => first | rfl | decide +kernel
  case F =>
    intro w mg fa h Y KX G hmg own
    refine' J.all_mk KX G own hmg ?a_CNotOneWay ?a_CInvalidText ?a_CUnknownState ?a_CNotABook ?a_CUnlike ?a_CLoom ?a_CLimitExceeded ?a_CInvalidLoom ?a_InvalidLoom_init ?i_InvalidLoom_init ?l_InvalidLoom_init ?c_InvalidLoom_init ?k_InvalidLoom_init ?a_LimitExceeded_init ?i_LimitExceeded_init ?l_LimitExceeded_init ?c_LimitExceeded_init ?k_LimitExceeded_init ?a_is_number ?l_is_number ?c_is_number ?k_is_number ?a_is_sequence ?l_is_sequence ?c_is_sequence ?k_is_sequence ?a_is_signs ?l_is_signs ?c_is_signs ?k_is_signs ?a_is_string_over ?l_is_string_over ?c_is_string_over ?k_is_string_over ?a_is_word ?l_is_word ?c_is_word ?k_is_word ?a_check_signs ?l_check_signs ?c_check_signs ?k_check_signs ?a_check_state ?l_check_state ?c_check_state ?k_check_state ?a_check_text ?l_check_text ?c_check_text ?k_check_text ?a_is_arc ?l_is_arc ?c_is_arc ?k_is_arc ?a_Loom_init ?i_Loom_init ?l_Loom_init ?c_Loom_init ?k_Loom_init ?a_Loom_eq ?l_Loom_eq ?c_Loom_eq ?k_Loom_eq ?a_met ?l_met ?c_met ?k_met ?a_book ?l_book ?c_book ?k_book ?a_is_book ?l_is_book ?c_is_book ?k_is_book ?a_check_book ?l_check_book ?c_check_book ?k_check_book ?a_words ?l_words ?c_words ?k_words ?a_goes_on ?l_goes_on ?c_goes_on ?k_goes_on ?a_live_arcs ?l_live_arcs ?c_live_arcs ?k_live_arcs ?a_readings ?l_readings ?c_readings ?k_readings ?a_arcs_by_state ?l_arcs_by_state ?c_arcs_by_state ?k_arcs_by_state ?a_starts ?l_starts ?c_starts ?k_starts ?a_steps ?l_steps ?c_steps ?k_steps ?a_explored ?l_explored ?c_explored ?k_explored ?a_is_even ?l_is_even ?c_is_even ?k_is_even ?a_one_way ?l_one_way ?c_one_way ?k_one_way ?a_check_alike ?l_check_alike ?c_check_alike ?k_check_alike ?a_joined ?l_joined ?c_joined ?k_joined ?a_apart ?l_apart ?c_apart ?k_apart ?a_l_take ?l_l_take ?c_l_take ?k_l_take ?a_l_word ?l_l_word ?c_l_word ?k_l_word ?a_l_words ?l_l_words ?c_l_words ?k_l_words ?a_l_tree ?l_l_tree ?c_l_tree ?k_l_tree ?a_l_shuffled ?l_l_shuffled ?c_l_shuffled ?k_l_shuffled ?a_l_single ?l_l_single ?c_l_single ?k_l_single ?a_l_error ?l_l_error ?c_l_error ?k_l_error ?a_l_inner ?l_l_inner ?c_l_inner ?k_l_inner ?a_l_spelled ?l_l_spelled ?c_l_spelled ?k_l_spelled ?a_law ?l_law ?c_law ?kcl ?v11 ?chd ?nT ?k_law ?pg_Loom ?hd_Loom ?po_Loom ?sa_Loom ?mk_Loom ?kc_Loom ?na_Loom_signs ?na_Loom_arcs ?kc_InvalidLoom ?e1_InvalidLoom ?e2_InvalidLoom ?e3_InvalidLoom ?e4_InvalidLoom ?e5_InvalidLoom ?e8_InvalidLoom ?ty_InvalidLoom ?xi_InvalidLoom ?tf_InvalidLoom ?sa_InvalidLoom ?no_InvalidLoom_part ?no_InvalidLoom_at ?kc_LimitExceeded ?e1_LimitExceeded ?e2_LimitExceeded ?e3_LimitExceeded ?e4_LimitExceeded ?e5_LimitExceeded ?e8_LimitExceeded ?ty_LimitExceeded ?xi_LimitExceeded ?tf_LimitExceeded ?sa_LimitExceeded ?no_LimitExceeded_limit ?kc_Unlike ?e1_Unlike ?e2_Unlike ?e3_Unlike ?e4_Unlike ?e5_Unlike ?e8_Unlike ?ty_Unlike ?in_Unlike ?kc_NotABook ?e1_NotABook ?e2_NotABook ?e3_NotABook ?e4_NotABook ?e5_NotABook ?e8_NotABook ?ty_NotABook ?in_NotABook ?kc_UnknownState ?e1_UnknownState ?e2_UnknownState ?e3_UnknownState ?e4_UnknownState ?e5_UnknownState ?e8_UnknownState ?ty_UnknownState ?in_UnknownState ?kc_InvalidText ?e1_InvalidText ?e2_InvalidText ?e3_InvalidText ?e4_InvalidText ?e5_InvalidText ?e8_InvalidText ?ty_InvalidText ?in_InvalidText ?kc_NotOneWay ?e1_NotOneWay ?e2_NotOneWay ?e3_NotOneWay ?e4_NotOneWay ?e5_NotOneWay ?e8_NotOneWay ?ty_NotOneWay ?in_NotOneWay ?e6 ?e7 ?ic_Loom ?ig ?it ?im_Loom ?eq_Loom ?fn_Loom_eq ?ne_Loom ?cc_Loom ?ty_Loom ?sb_NoneType ?sb_int ?sb_bool ?sb_str ?sb_list ?sb_tuple ?sb_dict ?cl_InvalidLoom ?cl_LimitExceeded ?cl_Unlike ?cl_NotABook ?cl_NotOneWay ?su_Unlike_InvalidLoom ?su_Unlike_NotABook ?su_Unlike_Unlike ?su_NotOneWay_InvalidLoom ?su_NotOneWay_NotABook ?su_NotOneWay_Unlike ?su_NotOneWay_NotOneWay ?su_LimitExceeded_InvalidLoom ?su_LimitExceeded_NotABook ?su_LimitExceeded_Unlike ?su_LimitExceeded_NotOneWay ?su_LimitExceeded_LimitExceeded ?nx_InvalidLoom_part ?nx_InvalidLoom_at ?nx_LimitExceeded_limit ?z_all ?z_any ?z_bool ?z_enumerate ?z_int ?z_isinstance ?z_len ?z_list ?z_max ?z_range ?z_reversed ?z_set ?z_sorted ?z_str ?z_tuple ?z_zip ?g_MOST_SIGNS ?g_LONGEST_WORD ?g_LONGEST_TEXT ?g_LAST_STATE ?g_MOST_ARCS ?g_MOST_READINGS ?g_LETTERS
    (case a_CNotOneWay => k_is)
    (case a_CInvalidText => k_is)
    (case a_CUnknownState => k_is)
    (case a_CNotABook => k_is)
    (case a_CUnlike => k_is)
    (case a_CLoom => k_is)
    (case a_CLimitExceeded => k_is)
    (case a_CInvalidLoom => k_is)
    (case a_InvalidLoom_init => k_is)
    (case i_InvalidLoom_init => k_is)
    (case l_InvalidLoom_init => k_is)
    (case c_InvalidLoom_init => k_is)
    (case k_InvalidLoom_init => k_is)
    (case a_LimitExceeded_init => k_is)
    (case i_LimitExceeded_init => k_is)
    (case l_LimitExceeded_init => k_is)
    (case c_LimitExceeded_init => k_is)
    (case k_LimitExceeded_init => k_is)
    (case a_is_number => k_is)
    (case l_is_number => k_is)
    (case c_is_number => k_is)
    (case k_is_number => k_is)
    (case a_is_sequence => k_is)
    (case l_is_sequence => k_is)
    (case c_is_sequence => k_is)
    (case k_is_sequence => k_is)
    (case a_is_signs => k_is)
    (case l_is_signs => k_is)
    (case c_is_signs => k_is)
    (case k_is_signs => k_is)
    (case a_is_string_over => k_is)
    (case l_is_string_over => k_is)
    (case c_is_string_over => k_is)
    (case k_is_string_over => k_is)
    (case a_is_word => k_is)
    (case l_is_word => k_is)
    (case c_is_word => k_is)
    (case k_is_word => k_is)
    (case a_check_signs => k_is)
    (case l_check_signs => k_is)
    (case c_check_signs => k_is)
    (case k_check_signs => k_is)
    (case a_check_state => k_is)
    (case l_check_state => k_is)
    (case c_check_state => k_is)
    (case k_check_state => k_is)
    (case a_check_text => k_is)
    (case l_check_text => k_is)
    (case c_check_text => k_is)
    (case k_check_text => k_is)
    (case a_is_arc => k_is)
    (case l_is_arc => k_is)
    (case c_is_arc => k_is)
    (case k_is_arc => k_is)
    (case a_Loom_init => k_is)
    (case i_Loom_init => k_is)
    (case l_Loom_init => k_is)
    (case c_Loom_init => k_is)
    (case k_Loom_init => k_is)
    (case a_Loom_eq => k_is)
    (case l_Loom_eq => k_is)
    (case c_Loom_eq => k_is)
    (case k_Loom_eq => k_is)
    (case a_met => k_is)
    (case l_met => k_is)
    (case c_met => k_is)
    (case k_met => k_is)
    (case a_book => k_is)
    (case l_book => k_is)
    (case c_book => k_is)
    (case k_book => k_is)
    (case a_is_book => k_is)
    (case l_is_book => k_is)
    (case c_is_book => k_is)
    (case k_is_book => k_is)
    (case a_check_book => k_is)
    (case l_check_book => k_is)
    (case c_check_book => k_is)
    (case k_check_book => k_is)
    (case a_words => k_is)
    (case l_words => k_is)
    (case c_words => k_is)
    (case k_words => k_is)
    (case a_goes_on => k_is)
    (case l_goes_on => k_is)
    (case c_goes_on => k_is)
    (case k_goes_on => k_is)
    (case a_live_arcs => k_is)
    (case l_live_arcs => k_is)
    (case c_live_arcs => k_is)
    (case k_live_arcs => k_is)
    (case a_readings => k_is)
    (case l_readings => k_is)
    (case c_readings => k_is)
    (case k_readings => k_is)
    (case a_arcs_by_state => k_is)
    (case l_arcs_by_state => k_is)
    (case c_arcs_by_state => k_is)
    (case k_arcs_by_state => k_is)
    (case a_starts => k_is)
    (case l_starts => k_is)
    (case c_starts => k_is)
    (case k_starts => k_is)
    (case a_steps => k_is)
    (case l_steps => k_is)
    (case c_steps => k_is)
    (case k_steps => k_is)
    (case a_explored => k_is)
    (case l_explored => k_is)
    (case c_explored => k_is)
    (case k_explored => k_is)
    (case a_is_even => k_is)
    (case l_is_even => k_is)
    (case c_is_even => k_is)
    (case k_is_even => k_is)
    (case a_one_way => k_is)
    (case l_one_way => k_is)
    (case c_one_way => k_is)
    (case k_one_way => k_is)
    (case a_check_alike => k_is)
    (case l_check_alike => k_is)
    (case c_check_alike => k_is)
    (case k_check_alike => k_is)
    (case a_joined => k_is)
    (case l_joined => k_is)
    (case c_joined => k_is)
    (case k_joined => k_is)
    (case a_apart => k_is)
    (case l_apart => k_is)
    (case c_apart => k_is)
    (case k_apart => k_is)
    (case a_l_take => k_is)
    (case l_l_take => k_is)
    (case c_l_take => k_is)
    (case k_l_take => k_is)
    (case a_l_word => k_is)
    (case l_l_word => k_is)
    (case c_l_word => k_is)
    (case k_l_word => k_is)
    (case a_l_words => k_is)
    (case l_l_words => k_is)
    (case c_l_words => k_is)
    (case k_l_words => k_is)
    (case a_l_tree => k_is)
    (case l_l_tree => k_is)
    (case c_l_tree => k_is)
    (case k_l_tree => k_is)
    (case a_l_shuffled => k_is)
    (case l_l_shuffled => k_is)
    (case c_l_shuffled => k_is)
    (case k_l_shuffled => k_is)
    (case a_l_single => k_is)
    (case l_l_single => k_is)
    (case c_l_single => k_is)
    (case k_l_single => k_is)
    (case a_l_error => k_is)
    (case l_l_error => k_is)
    (case c_l_error => k_is)
    (case k_l_error => k_is)
    (case a_l_inner => k_is)
    (case l_l_inner => k_is)
    (case c_l_inner => k_is)
    (case k_l_inner => k_is)
    (case a_l_spelled => k_is)
    (case l_l_spelled => k_is)
    (case c_l_spelled => k_is)
    (case k_l_spelled => k_is)
    (case a_law => k_is)
    (case l_law => k_is)
    (case c_law => k_is)
    (case kcl => k_is)
    (case v11 => rfl)
    (case chd => (first | kernel_rfl | rfl | decide +kernel))
    (case nT => (first | kernel_rfl | rfl | decide +kernel))
    (case k_law => k_is)
    (case pg_Loom => k_is)
    (case hd_Loom => k_is)
    (case po_Loom => k_is)
    (case sa_Loom => k_is)
    (case mk_Loom => k_is)
    (case kc_Loom => k_is)
    (case na_Loom_signs => k_is)
    (case na_Loom_arcs => k_is)
    (case kc_InvalidLoom => k_is)
    (case e1_InvalidLoom => k_is)
    (case e2_InvalidLoom => k_is)
    (case e3_InvalidLoom => k_is)
    (case e4_InvalidLoom => k_is)
    (case e5_InvalidLoom => k_is)
    (case e8_InvalidLoom => k_is)
    (case ty_InvalidLoom => k_is)
    (case xi_InvalidLoom => k_is)
    (case tf_InvalidLoom => k_is)
    (case sa_InvalidLoom => k_is)
    (case no_InvalidLoom_part => k_is)
    (case no_InvalidLoom_at => k_is)
    (case kc_LimitExceeded => k_is)
    (case e1_LimitExceeded => k_is)
    (case e2_LimitExceeded => k_is)
    (case e3_LimitExceeded => k_is)
    (case e4_LimitExceeded => k_is)
    (case e5_LimitExceeded => k_is)
    (case e8_LimitExceeded => k_is)
    (case ty_LimitExceeded => k_is)
    (case xi_LimitExceeded => k_is)
    (case tf_LimitExceeded => k_is)
    (case sa_LimitExceeded => k_is)
    (case no_LimitExceeded_limit => k_is)
    (case kc_Unlike => k_is)
    (case e1_Unlike => k_is)
    (case e2_Unlike => k_is)
    (case e3_Unlike => k_is)
    (case e4_Unlike => k_is)
    (case e5_Unlike => k_is)
    (case e8_Unlike => k_is)
    (case ty_Unlike => k_is)
    (case in_Unlike => k_exc)
    (case kc_NotABook => k_is)
    (case e1_NotABook => k_is)
    (case e2_NotABook => k_is)
    (case e3_NotABook => k_is)
    (case e4_NotABook => k_is)
    (case e5_NotABook => k_is)
    (case e8_NotABook => k_is)
    (case ty_NotABook => k_is)
    (case in_NotABook => k_exc)
    (case kc_UnknownState => k_is)
    (case e1_UnknownState => k_is)
    (case e2_UnknownState => k_is)
    (case e3_UnknownState => k_is)
    (case e4_UnknownState => k_is)
    (case e5_UnknownState => k_is)
    (case e8_UnknownState => k_is)
    (case ty_UnknownState => k_is)
    (case in_UnknownState => k_exc)
    (case kc_InvalidText => k_is)
    (case e1_InvalidText => k_is)
    (case e2_InvalidText => k_is)
    (case e3_InvalidText => k_is)
    (case e4_InvalidText => k_is)
    (case e5_InvalidText => k_is)
    (case e8_InvalidText => k_is)
    (case ty_InvalidText => k_is)
    (case in_InvalidText => k_exc)
    (case kc_NotOneWay => k_is)
    (case e1_NotOneWay => k_is)
    (case e2_NotOneWay => k_is)
    (case e3_NotOneWay => k_is)
    (case e4_NotOneWay => k_is)
    (case e5_NotOneWay => k_is)
    (case e8_NotOneWay => k_is)
    (case ty_NotOneWay => k_is)
    (case in_NotOneWay => k_exc)
    (case e6 => k_is)
    (case e7 => k_is)
    (case ic_Loom => k_is)
    (case ig => k_is)
    (case it => k_is)
    (case im_Loom => k_is)
    (case eq_Loom => k_is)
    (case fn_Loom_eq => k_is)
    (case ne_Loom => k_is)
    (case cc_Loom => k_is)
    (case ty_Loom => k_is)
    (case sb_NoneType => k_is)
    (case sb_int => k_is)
    (case sb_bool => k_is)
    (case sb_str => k_is)
    (case sb_list => k_is)
    (case sb_tuple => k_is)
    (case sb_dict => k_is)
    (case cl_InvalidLoom => k_is)
    (case cl_LimitExceeded => k_is)
    (case cl_Unlike => k_is)
    (case cl_NotABook => k_is)
    (case cl_NotOneWay => k_is)
    (case su_Unlike_InvalidLoom => k_is)
    (case su_Unlike_NotABook => k_is)
    (case su_Unlike_Unlike => k_is)
    (case su_NotOneWay_InvalidLoom => k_is)
    (case su_NotOneWay_NotABook => k_is)
    (case su_NotOneWay_Unlike => k_is)
    (case su_NotOneWay_NotOneWay => k_is)
    (case su_LimitExceeded_InvalidLoom => k_is)
    (case su_LimitExceeded_NotABook => k_is)
    (case su_LimitExceeded_Unlike => k_is)
    (case su_LimitExceeded_NotOneWay => k_is)
    (case su_LimitExceeded_LimitExceeded => k_is)
    (case nx_InvalidLoom_part => k_is)
    (case nx_InvalidLoom_at => k_is)
    (case nx_LimitExceeded_limit => k_is)
    (case z_all => k_is)
    (case z_any => k_is)
    (case z_bool => k_is)
    (case z_enumerate => k_is)
    (case z_int => k_is)
    (case z_isinstance => k_is)
    (case z_len => k_is)
    (case z_list => k_is)
    (case z_max => k_is)
    (case z_range => k_is)
    (case z_reversed => k_is)
    (case z_set => k_is)
    (case z_sorted => k_is)
    (case z_str => k_is)
    (case z_tuple => k_is)
    (case z_zip => k_is)
    (case g_MOST_SIGNS => k_is)
    (case g_LONGEST_WORD => k_is)
    (case g_LONGEST_TEXT => k_is)
    (case g_LAST_STATE => k_is)
    (case g_MOST_ARCS => k_is)
    (case g_MOST_READINGS => k_is)
    (case g_LETTERS => k_is)

import PyProof.Rows.All
import Wide.All
import OpenK.AllK
import Wide.FinOn
import HandS.ForMost
import HandS.TryMany
import HandS.Walk
import KE.GoesEnum
import HandS.ForExc
import HandS.ExcValue
import HandS.ExcIs
import HandS.ExcInit
import HandS.IsInst
import HandS.OwnEq
import HandS.More
import KE.KExcInit
import HandS.Defaults
import KE.KxIndex
import HandS.StrMore
import HandS.Conv
import HandS.Codes
import HandS.Style
import HandS.ExcField
import HandS.Lambda
import HandS.EndOwn
import HandS.NestedK
import KE.GoesMore
import PyProof.P3Eq
import HandS.ListItems
import HandS.Sort
import KE.KDictList
import HandS.Replace
import PySem.Challenge.RW_onewayread_k34_books_joined
set_option Elab.async false
set_option linter.all false
set_option maxRecDepth 100000
set_option maxHeartbeats 4000000
/-! several except clauses, some of which name the error -/
namespace L2
open PySem PySem.Spec PyProof.Rows
/-- an error at g that has landed in the frame of X -/
def Lnd (X : Cx) (pins : List (Addr × Obj)) (τ : St) (G : Hp) (g : Addr) (cls : Value) (d : Option Addr) (t : Shared) : Prop :=
  ∃ (B : Heap) (t0 : Shared), Inv X pins τ G t0 ∧ (∀ b o, t0.heap.get? b = some o → b ∉ frs X.stack → B.get? b = some o) ∧ t0.heap.UpToSlots t.heap ∧
    HandSPX.FlyingZ B (X.env :: X.outer) g (Zc cls d) t.heap ∧ G g = none ∧ t.os = t0.os ∧ AllBare t.gens ∧ g ≠ X.env.locals ∧ g ∉ X.fs
section
variable {X : Cx} {pins : List (Addr × Obj)} {τ : St} {G : Hp} {g : Addr} {cls : Value} {d : Option Addr} {t : Shared}
theorem Lnd.inv (l : Lnd X pins τ G g cls d t) : Inv X pins τ G t := by
  obtain ⟨B, t0, J, n, u, f, _, o, y, _⟩ := l
  exact J.landed n f.1 u o y
theorem Lnd.as_suite (l : Lnd X pins τ G g cls d t) : ∃ oe, Zc cls d oe ∧ (∃ vs, oe.data = .fields vs) ∧ t.heap.get? g = some oe ∧ Inv (X.suite g ((g, oe) :: (X.pn ++ pins))) [] τ G t := by
  have J := l.inv
  obtain ⟨B, t0, _, _, _, f, z, _, _, n1, n2⟩ := l
  obtain ⟨oe, vs, h1, h2, h3⟩ := f.there
  exact ⟨oe, h2, ⟨vs, h3⟩, h1, J.suite h1 h3 z n1 n2⟩
theorem Lnd.again {M : Model} {A : Around} {E : Value → Shared → Prop} {Q : Unit → Shared → Prop} (l : Lnd X pins τ G g cls d t) (q : ∀ t', Lnd X pins τ G g cls d t' → Q () t') : wpAny M A (setFlight (.ref g) none) Q E t := by
  obtain ⟨B, t0, J, n, u, f, z, o, y, n1, n2⟩ := l
  exact HandSPX.lands_againZ f fun h' f' u' => q _ ⟨B, t0, J, n, u.trans u', f', z, o, y, n1, n2⟩
/-- what the clauses wish, one behind the other; a slot where the clause names the error -/
def wCls (K : PySem.W.Frag) (Wout : WX) (D : Ends) : List (Value × Option Nat × (Addr → Value → Option Addr → TS)) → WX
  | [] => Wout
  | (c, none, ts) :: r => fun cls d τ G => ∃ b, PySem.W.exmOne K cls c = some b ∧ (b = true → ∀ g, G g = none → ts g cls d D τ G) ∧ (b = false → wCls K Wout D r cls d τ G)
  | (c, some i, ts) :: r => fun cls d τ G => ∃ b, PySem.W.exmOne K cls c = some b ∧
      (b = true → ∀ g, G g = none → ts g cls d { nx := fun τ' G' => D.nx (τ'.set i none) G', rt := D.rt, bk := fun τ' G' => D.bk (τ'.set i none) G', ct := fun τ' G' => D.ct (τ'.set i none) G' } (τ.set i (some (.ref g))) G) ∧
      (b = false → wCls K Wout D r cls d τ G)
inductive ClsOk (X : Cx) : List ExceptHandler → List (Value × Option Nat × (Addr → Value → Option Addr → TS)) → Prop
  | nil : ClsOk X [] []
  | plain {x : Str} {c : Value} {ts : Addr → Value → Option Addr → TS} {b : Stmt} {bs : List Stmt} {np hp : Pos} {hds : List ExceptHandler} {l : List (Value × Option Nat × (Addr → Value → Option Addr → TS))} (hc : Names X x c)
      (hsu : ∀ (g : Addr) (oe : Obj) (cls : Value) (d : Option Addr) (pn : List (Addr × Obj)), Zc cls d oe → (∃ vs, oe.data = .fields vs) → PSs (X.suite g ((g, oe) :: pn)) (b :: bs) (ts g cls d)) (r : ClsOk X hds l) :
      ClsOk X (.ExceptHandler (some (.Name x np)) none (b :: bs) hp :: hds) ((c, none, ts) :: l)
  | named {x n : Str} {i : Nat} {c : Value} {ts : Addr → Value → Option Addr → TS} {b : Stmt} {bs : List Stmt} {np hp : Pos} {hds : List ExceptHandler} {l : List (Value × Option Nat × (Addr → Value → Option Addr → TS))} (hc : Names X x c)
      (hN : X.N.Nodup) (hi : X.N[i]? = some n) (hk : X.env.kindOf n = some .local)
      (hsu : ∀ (g : Addr) (oe : Obj) (cls : Value) (d : Option Addr) (pn : List (Addr × Obj)), Zc cls d oe → (∃ vs, oe.data = .fields vs) → PSs (X.suite g ((g, oe) :: pn)) (b :: bs) (ts g cls d)) (r : ClsOk X hds l) :
      ClsOk X (.ExceptHandler (some (.Name x np)) (some n) (b :: bs) hp :: hds) ((c, some i, ts) :: l)
/-- the test of a clause -/
theorem Lnd.test {x : Str} {c : Value} {np hp : Pos} {b : Bool} {R : Result → Shared → Prop} (l : Lnd X pins τ G g cls d t) (hc : Names X x c) (e : PySem.W.exmOne X.K cls c = some b) (q : R (.ok (if b then .brk else .next)) t) :
    codeAny (model X.prog X.w) (X.A.mark (some (.ref g))) (.handlers (.ref g) [.ExceptHandler (some (.Name x np)) none [] hp] X.env) R t := by
  obtain ⟨oe, z, hv, he, S⟩ := l.as_suite
  have ty : PySem.W.Looks (model X.prog X.w) t.heap (typeOf (.ref g)) cls := fun A1 Q1 E1 s1 k1 q1 => wpAny_typeOf_ref (k1 _ _ he) (by rw [z.1]; exact q1)
  refine codeAny_handlers_test ?_
  have look := PySem.W.exm_one (M := model X.prog X.w) l.inv.kIn ty e
  obtain ⟨h1, h2, h3 | ⟨h3, h4, h5⟩⟩ := hc
  · exact ld_glob (X := X.suite g ((g, oe) :: (X.pn ++ pins))) S h1 h3 (look.here (by exact q)) h2
  · exact ld_blt (X := X.suite g ((g, oe) :: (X.pn ++ pins))) S h1 h3 h4 (look.here (by exact q)) h5 h2
/-- the clauses, gone through -/
theorem Lnd.through {Wout : WX} {D : Ends} (hst : X.stack = X.env :: X.outer) (hfr : X.env.frame = some X.env.locals) (tk : Takes X Wout) (ok : X.Ok) {hds : List ExceptHandler} {cl : List (Value × Option Nat × (Addr → Value → Option Addr → TS))} (hk : ClsOk X hds cl) :
    ∀ {t : Shared}, Lnd X pins τ G g cls d t → wCls X.K Wout D cl cls d τ G → wpAny (model X.prog X.w) X.A (handleBy (.ref g) X.env hds) (SP X pins D) X.xe t := by
  induction hk with
  | nil =>
    intro t l wish
    refine wpAny_handleBy_nil ?_
    obtain ⟨B, t0, J, n, u, f, z, o, y, _⟩ := l
    obtain ⟨_, _, _, oe, vs, trb, _, _, hob, _, hda, htr, _⟩ := id f
    have out : wpAny (model X.prog X.w) X.A (setFlight (.ref g) X.env.frame) (fun _ t4 => wpAny (model X.prog X.w) X.A (throw (.ref g) : Sem Flow) (SP X pins D) X.xe t4) X.xe t := by
      rw [hfr]
      exact HandSPX.setFlight_upZ f fun h4 held u4 => wpAny_throw (tk _ _ ⟨g, B, t0, pins, τ, G, cls, d, rfl, J, n, u.trans u4, .inr (.inr (by rw [hst]; exact held)), z, o, y, wish⟩)
    unfold PySem.passOn
    refine wpAny_bind (wpAny_field hob hda htr ?_)
    rw [if_neg (by simp : ¬ ((Value.ref trb == Value.none) = true))]
    first
      | exact wpAny_bind (wpAny_pure (wpAny_bind out))
      | exact wpAny_bind out
  | @plain x c ts b bs np hp hds2 l2 hc hsu r ih =>
    intro t l wish
    obtain ⟨k, e, yes, no⟩ := wish
    refine wpAny_handleBy_cons (l.test hc e ?_) (by intro q; cases q)
    cases k with
    | false => exact ih l (no rfl)
    | true =>
      refine codeAny_handlers_suite (l.again fun t' l' => ?_)
      obtain ⟨oe, z, hv, _, S⟩ := l'.as_suite
      have na : G g = none := by obtain ⟨_, _, _, _, _, _, q, _⟩ := l'; exact q
      refine wpAny_mono ((hsu g oe cls d (X.pn ++ pins) z hv).run [] _ _ G _ S (yes rfl g na)) (fun fl t6 hsp => ?_) (fun _ _ q => q.elim)
      match fl, hsp with
      | .next, ⟨_, _, S6, q6⟩ => exact ⟨_, _, S6.unsuite ok, q6⟩
      | .brk, ⟨_, _, S6, q6⟩ => exact ⟨_, _, S6.unsuite ok, q6⟩
      | .cont, ⟨_, _, S6, q6⟩ => exact ⟨_, _, S6.unsuite ok, q6⟩
      | .ret _, ⟨_, _, _, S6, r6, q6⟩ => exact ⟨_, _, _, S6.unsuite ok, r6, q6⟩
  | @named x n i c ts b bs np hp hds2 l2 hc hN hi hkd hsu r ih =>
    intro t l wish
    obtain ⟨k, e, yes, no⟩ := wish
    refine wpAny_handleBy_cons (l.test hc e ?_) (by intro q; cases q)
    cases k with
    | false => exact ih l (no rfl)
    | true =>
      refine codeAny_handlers_suite_as (l.again fun t' l' => ?_)
      obtain ⟨oe, z, hv, _, S⟩ := l'.as_suite
      have na : G g = none := by obtain ⟨_, _, _, _, _, _, q, _⟩ := l'; exact q
      refine store_ok (X := X.suite g ((g, oe) :: (X.pn ++ pins))) (v := .ref g) S hN hi (.inl hkd) rfl (fun t5 S5 => ?_) (.inr hkd)
      refine wpAny_mono ((hsu g oe cls d (X.pn ++ pins) z hv).run [] t5 _ G _ S5 (yes rfl g na)) (fun fl t6 hsp => ?_) (fun _ _ q => q.elim)
      match fl, hsp with
      | .next, ⟨_, _, S6, q6⟩ => exact gone_ok (S6.unsuite ok) hN hi hkd fun t7 J7 => ⟨_, _, J7, q6⟩
      | .brk, ⟨_, _, S6, q6⟩ => exact gone_ok (S6.unsuite ok) hN hi hkd fun t7 J7 => ⟨_, _, J7, q6⟩
      | .cont, ⟨_, _, S6, q6⟩ => exact gone_ok (S6.unsuite ok) hN hi hkd fun t7 J7 => ⟨_, _, J7, q6⟩
      | .ret _, ⟨_, _, _, S6, r6, q6⟩ => exact gone_ok (S6.unsuite ok) hN hi hkd fun t7 J7 => ⟨_, _, _, J7, r6, q6⟩
/-- try: body / except X: .. / except Y as e: .. -/
theorem ps_try_cls {body : List Stmt} {h₀ : ExceptHandler} {hds : List ExceptHandler} {pos : Pos} {tb : WX → TS} {Wout : WX} {cl : List (Value × Option Nat × (Addr → Value → Option Addr → TS))} (hst : X.stack = X.env :: X.outer) (hfr : X.env.frame = some X.env.locals) (tk : Takes X Wout)
    (hb : ∀ (W : WX) (pn : List (Addr × Obj)) (xe : Value → Shared → Prop), Takes (X.tr pn xe) W → PassesOwn (model X.prog X.w) X.A X.env xe → PSs (X.tr pn xe) body (tb W)) (hh : ClsOk X (h₀ :: hds) cl) :
    PS X (.Try body (h₀ :: hds) [] [] pos) (fun D σ H => tb (wCls X.K Wout D cl) D σ H) := by
  refine ⟨fun ps s0 σ0 H0 D I0 wish => ?_⟩
  have ok := I0.ok
  have frs1 : X.A.frames = some (X.env :: X.outer) := ok.frames.trans (congrArg some hst)
  let caught : Value → Shared → Prop := fun er ta => wpAny (model X.prog X.w) X.A (noteFrame er X.env) (fun _ tb' => wpAny (model X.prog X.w) X.A (setFlight er none) (fun _ tc => wpAny (model X.prog X.w) X.A (handleBy er X.env (h₀ :: hds)) (SP X ps D) X.xe tc) X.xe tb') X.xe ta
  have land : Takes (X.tr (X.pn ++ ps) caught) (wCls X.K Wout D cl) := by
    rintro er ta ⟨g, B, t0, _, τ, G, cls, d, rfl, J0, n, u, sky, na, o, y, q⟩
    have J := J0.ofTry ok
    refine Sky.land (B := B) (a := g) (Z := Zc cls d) (L := X.env.locals) (outer := X.outer) Zc.steady frs1 hfr (by rw [← hst]; exact sky) fun h3 f3 u3 => ?_
    obtain ⟨oe, vs, e1, e2, e3⟩ := f3.there
    have away : g ∉ frs (X.env :: X.outer) := fun hm => by
      obtain ⟨_, o2, q1, q2⟩ := f3.2.2.1.mem hm
      rw [e1] at q1
      cases q1
      exact q2 _ e3
    refine Lnd.through hst hfr tk ok hh ⟨B, t0, J, n, u.trans u3, f3, na, o, y, fun z => ?_, fun hm => ?_⟩ q
    · exact away (List.mem_filterMap.mpr ⟨X.env, List.mem_cons_self, by rw [hfr, z]⟩)
    · obtain ⟨en, m1, m2⟩ := List.mem_filterMap.mp hm
      exact away (List.mem_filterMap.mpr ⟨en, List.mem_cons_of_mem _ m1, m2⟩)
  refine wpAny_Try_except (wpAny_mono ((hb _ (X.pn ++ ps) caught land PassesOwn.looking).run [] s0 σ0 H0 D (I0.toTry _) wish) (fun fl t1 z => ?_) fun _ _ z => z)
  match fl, z with
  | .next, ⟨_, _, J1, q1⟩ => exact wpAny_execs_nil ⟨_, _, J1.ofTry ok, q1⟩
  | .brk, ⟨_, _, J1, q1⟩ => exact ⟨_, _, J1.ofTry ok, q1⟩
  | .cont, ⟨_, _, J1, q1⟩ => exact ⟨_, _, J1.ofTry ok, q1⟩
  | .ret _, ⟨_, _, _, J1, r1, q1⟩ => exact ⟨_, _, _, J1.ofTry ok, r1, q1⟩
end
end L2

set_option Elab.async false
set_option linter.all false
set_option maxRecDepth 100000
set_option maxHeartbeats 4000000
/-! enumerate of a tuple -/
namespace PySem
open Sem (wp)
open PySem.Spec PyProof.Rows
theorem meets_enumerate_newB1 {v : Value} {o : Obj} {H : Heap → Prop} (B : Begins v o H) :
    Meets (Builtin.«enumerate.__new__» ⟨[.type "enumerate", v], []⟩) (fun _ R s => H s.heap ∧
      R (.ok (.ret (.ref (s.heap.push o).objs.size))) { s with heap := (s.heap.push o).push { cls := .type "enumerate", data := .fields #[.none, .bool false, .ref s.heap.objs.size, rawInt 0, .none, .none] } }) :=
  .of_wp fun prog w A R s h => by
    obtain ⟨hp, g, d, tk, os⟩ := s; obtain ⟨h1, h⟩ := h
    have hsub := sub_enumerate
    have q1 : ∀ {A' : Around} {E : Value → Shared → Prop} {Q : Value → Shared → Prop}, Q (.ref hp.objs.size) ⟨hp.push o, g, d, tk, os⟩ → wpAny (model prog w) A' (pyIter v) Q E ⟨hp, g, d, tk, os⟩ :=
      fun q => B.iter prog w _ _ ⟨hp, g, d, tk, os⟩ _ h1 q
    wp_walk using q1
    refine wpAny_stack_any fun st => wpAny_pure ?_
    split
    · rename_i c _ _ _ _ _
      cases (c == Value.type "enumerate")
      · wp_walk using q1
        exact ⟨_, rfl, h⟩
      · wp_walk using q1
        exact ⟨_, rfl, h⟩
    · wp_walk using q1
      exact ⟨_, rfl, h⟩
section
variable {prog : Program} {w : World} {A : Around} {E : Value → Shared → Prop} {s : Shared}
theorem enum_begins1 {v : Value} {o : Obj} {H : Heap → Prop} {Q : Value → Shared → Prop} (B : Begins v o H) (h1 : H s.heap)
    (h : ∀ h', IsEnum h' (s.heap.objs.size + 1) s.heap.objs.size 0 .none → h'.get? s.heap.objs.size = some o → h'.objs.size = s.heap.objs.size + 2 →
      (∀ b o, s.heap.get? b = some o → h'.get? b = some o) → Q (.ref (s.heap.objs.size + 1)) { s with heap := h' }) :
    wpAny (model prog w) A (call (.type "enumerate") [v]) Q E s := by
  refine callType_new F.called_enumerate (by decide) (F.typeCall_enumerate_1 _) (F.newCall_enumerate_1 _) (fun obj => F.args_object_init_2 obj _) F.entry_enumerate_new
    (meets_enumerate_newB1 B) ⟨h1, ?_⟩
  have hz : (s.heap.push o).objs.size = s.heap.objs.size + 1 := Heap.size_push ..
  show _ ∧ _
  rw [hz]
  have he : IsEnum ((s.heap.push o).push { cls := .type "enumerate", data := .fields #[.none, .bool false, .ref s.heap.objs.size, rawInt 0, .none, .none] }) (s.heap.objs.size + 1) s.heap.objs.size 0 .none := by
    have := Heap.get?_push_size (s.heap.push o) (o := { cls := .type "enumerate", data := .fields #[.none, .bool false, .ref s.heap.objs.size, rawInt 0, .none, .none] }) rfl
    rw [hz] at this; exact this
  refine ⟨⟨_, he, rfl⟩, h _ he (Heap.get?_push_of_some _ (Heap.get?_push_size _ B.free)) (by rw [Heap.size_push, hz]) fun b o x => Heap.get?_push_of_some _ (Heap.get?_push_of_some _ x)⟩
end
end PySem
namespace L2
open PySem PySem.Spec PyProof.Rows
/-- the tuple at a, each item in a new pair -/
def IteT (K : PySem.W.Frag) (a : Addr) : It :=
  ⟨fun i H => ∃ (xs : List V) (x : V), SqT K H a xs ∧ xs[i]? = some x, fun i H v H' => ∃ T x, v = .ref T ∧ H T = none ∧ H' = upd H T (.tup [.int (i : Nat), x]) ∧ ∀ xs, SqT K H a xs → xs[i]? = some x, fun i H => ∃ xs : List V, SqT K H a xs ∧ xs.length = i⟩
theorem turn_enumT {P : Program} {w : World} {K : PySem.W.Frag} {elts : List Expr} {kk : Nat} {tpos : Pos} (a e it : Addr) (hn : e ≠ it) (hae : a ≠ e) (hai : a ≠ it) :
    Turn P w K (.Tuple elts kk tpos) (IteT K a) [e, it] e (fun i h => (∃ old, IsEnum h e it ((i : Nat) : Int) old) ∧ h.IsTupleIter it a i) where
  mem := by simp
  obj := fun i h st b hb => by
    obtain ⟨⟨old, he⟩, ⟨o, ho, hc, hd⟩⟩ := st
    have e' : b = e ∨ b = it := by simpa using hb
    rcases e' with z | z
    · rw [z]; exact ⟨_, he, fun v q => nomatch q⟩
    · rw [z]; exact ⟨o, ho, fun v q => by rw [hd] at q; cases q⟩
  keep := fun i h h' st k => by
    obtain ⟨⟨old, he⟩, ⟨o, ho, r⟩⟩ := st
    exact ⟨⟨old, k e (by simp) _ he⟩, ⟨o, k it (by simp) _ ho, r⟩⟩
  item := by
    intro X hP hw hK hc i pins s σ H E I hf st hg
    subst hP hw hK
    obtain ⟨⟨old, he⟩, hit⟩ := st
    obtain ⟨xs, x, hq, hx⟩ := hg
    obtain ⟨its, rv, p, hz⟩ := I.tuple hq
    obtain ⟨u, hu, ru⟩ := rv.get hx
    have hel : e < s.heap.objs.size := Heap.lt_size he
    have hil : it < s.heap.objs.size := by obtain ⟨_, q, _⟩ := hit; exact Heap.lt_size q
    have hlt : i < its.toArray.size := by
      have q := (List.getElem?_eq_some_iff.mp hu).1
      simpa using q
    refine wpAny_pyNext_enum_itemD (Draws.tuple (A := X.A.in1) (I.ok.hd hc) it a hai its.toArray) he ⟨hit, p⟩ hlt hn (by simp [hn]; exact fun z => hae z.symm) fun y h' tk hy ho hst hT hsz hk => ?_
    have hyu : y = u := by
      have q : its.toArray[i]? = some y := hy
      have q2 : its.toArray[i]? = some u := by simpa using hu
      rw [q] at q2
      exact Option.some.inj q2
    subst hyu
    refine ⟨_, rfl, wpAny_letOwnedTupleGo_enum (s := { s with heap := h', toks := tk + 1 }) ho fun h'' he' sb => ?_⟩
    have hT2 : h''.get? s.heap.objs.size = some { cls := .type "tuple", data := .seq #[.int i tk, y] } := (sb.2 _ (Nat.ne_of_gt hel)).trans hT
    have new : ObjOk X.prog X.w (upd H s.heap.objs.size (.tup [.int (i : Nat), x])) h'' s.heap.objs.size (.tup [.int (i : Nat), x]) :=
      ⟨by show 2 ≤ sizeLine; decide, [.int i tk, y], .cons ⟨_, rfl⟩ (.cons ru .nil), ⟨_, hT2, rfl, _, rfl⟩⟩
    have I1 : Inv X pins σ (upd H s.heap.objs.size (.tup [.int (i : Nat), x])) { s with heap := h'', toks := tk + 1 } :=
      I.turnedNew (ch := [e, it]) (fun b ob hb q => (sb.2 b (fun z => hb (by simp [z]))).trans (hk b ob (fun z => hb (by simp [z])) (fun z => hb (by simp [z])) q)) hf (Nat.le_refl _) new
    obtain ⟨oi, hoi, ri⟩ := hst.1
    refine ⟨.ref s.heap.objs.size, _, I1, rfl, ⟨_, x, rfl, I.hok.fresh (Nat.le_refl _), rfl, fun ys hy => by rw [I.tuple_inj hy hq]; exact hx⟩, ⟨⟨y, ?_⟩, ⟨oi, (sb.2 it (Ne.symm hn)).trans hoi, ri⟩⟩, fun b hb => ?_⟩
    · have e1 : ((i + 1 : Nat) : Int) = (i : Int) + 1 := by omega
      rw [e1]; exact he'
    · have hb' : b < s.heap.objs.size := by
        have e' : b = e ∨ b = it := by simpa using hb
        rcases e' with z | z
        · rw [z]; exact hel
        · rw [z]; exact hil
      rw [upd_ne (Nat.ne_of_lt hb')]
      exact (hf b hb).1
  done := by
    intro X hP hw hK hc i pins s σ H E I hf st hg
    subst hP hw hK
    obtain ⟨⟨old, he⟩, hit⟩ := st
    obtain ⟨xs, hq, hx⟩ := hg
    obtain ⟨its, rv, p, hz⟩ := I.tuple hq
    obtain ⟨f0, f1, f2, f3, f4, f5⟩ := hf it (by simp)
    have hl := rv.length
    have hn' : i = its.toArray.size := by simp; omega
    subst hn'
    exact wpAny_pyNext_enum_endD (Draws.tuple (A := X.A.in1) (I.ok.hd hc) it a hai its.toArray) he ⟨hit, p⟩ fun h' eb => ⟨rfl, I.turned (t' := s.toks) (fun b o hb q => eb b o hb q) f0 f1 f3 f4 f5⟩
  self := fun A i s Q E st h => let ⟨⟨_, he⟩, _⟩ := st; wpAny_pyIter_enum he h
def iEnumT (K : PySem.W.Frag) (ta : TA) : TI := fun σ H R => ta σ H fun vs H1 => ∃ a xs, vs = [.ref a] ∧ SqT K H1 a xs ∧ R (IteT K a) H1
theorem pi_enumT {X : Cx} {e : Expr} {ta : TA} {p pos tpos : Pos} {elts : List Expr} {kk : Nat} (hg : Gl X "enumerate") (hm : X.mg "enumerate" = none) (ha : PA X [e] ta) (hs : starEach [e] X.env = [(false, eval e X.env)] := by rfl) :
    PI X (.Tuple elts kk tpos) (.Call (.Name "enumerate" p) [e] [] pos) (iEnumT X.K ta) := by
  refine ⟨fun pins s σ H R I h => ?_⟩
  refine Call_ (ld_blt I hg hm boot_enumerate (PyProof.Rows.callWith_type1 (thn (ha.run pos pins s σ H _ I h) fun us s1 ⟨vs, H1, I1, r1, q1⟩ => ?_) hs rfl))
  obtain ⟨a, xs, ex, hq, q⟩ := q1
  subst ex
  cases r1 with
  | cons r rr =>
    cases rr
    cases r
    obtain ⟨its, rv, p', hz⟩ := I1.tuple hq
    have hal : a < s1.heap.objs.size := by obtain ⟨_, q, _⟩ := p'; exact Heap.lt_size q
    refine enum_begins1 (begins_tuple a its.toArray) (show s1.heap.IsTuple a its.toArray from p') fun h' he hit hsz hk => wpAny_pyIter_enum he ?_
    have I2 : Inv X pins σ H1 { s1 with heap := h' } := I1.kept (t' := s1.toks) hk
    refine ⟨s1.heap.objs.size + 1, [s1.heap.objs.size + 1, s1.heap.objs.size], _, _, H1, rfl, I2, turn_enumT a (s1.heap.objs.size + 1) s1.heap.objs.size (Nat.succ_ne_self _) (Nat.ne_of_lt (Nat.lt_succ_of_lt hal)) (Nat.ne_of_lt hal), ⟨⟨.none, he⟩, ⟨_, hit, rfl, rfl⟩⟩, fun b hb => ?_, q⟩
    have e' : b = s1.heap.objs.size + 1 ∨ b = s1.heap.objs.size := by simpa using hb
    have hle : s1.heap.objs.size ≤ b := by
      rcases e' with z | z
      · rw [z]; exact Nat.le_add_right _ _
      · rw [z]; exact Nat.le_refl _
    exact I1.fpOk hle (I1.hok.fresh hle)
theorem walk_enumT {K : PySem.W.Frag} {a : Addr} {xs : List V} : Walk (IteT K a) xs.length (fun H => SqT K H a xs) (YPair (fun i => some (.int (i : Nat))) (fun i => xs[i]?)) :=
by
  refine ⟨fun i _ hi q => ⟨xs, xs[i], q, by simp [hi]⟩, fun _ q => ⟨xs, q, rfl⟩, fun i H v H' _ q y => ?_⟩
  obtain ⟨T, x, h1, h2, h3, h4⟩ := y
  exact ⟨T, .int (i : Nat), x, h1, h2, h3, rfl, h4 xs q⟩
end L2

set_option Elab.async false
set_option linter.all false
set_option maxRecDepth 100000
set_option maxHeartbeats 4000000
/-! own exceptions without arguments: raised, and as values -/
namespace L2
open PySem PySem.Spec PyProof.Rows
section
variable {X : Cx} {C : Addr} {bmB : List Value} {B newId initId : String}
theorem pmk_own0 {x : Str} {p pos : Pos} (F : ExcBaseFacts B newId initId bmB) (q : PySem.W.excIn X.K C bmB newId = true) (gC : X.mg x = some (.ref C)) (kC : PySem.W.keepIn X.K (.ref C) = true) (r : Raises X (.ref C)) (hg : Gl X x)
    (hdb : (x == ("__debug__" : Str)) = false := by decide) : PMk X (.Call (.Name x p) [] [] pos) (fun _ H Q => Q (.ref C) none H) := by
  intro pins s σ H Q I h
  refine wpAny_Call_Name_kw (ld_glob I hg gC ?_ hdb)
  refine PySem.W.callWith_K0 I.kIn kC ?_
  obtain ⟨bm, N, nm, qn, bs, hdct, sn, sub, ab, col, dd, k0, k1, k2, k3, k5, mN, hC, hN, hni, T⟩ := exc_obj I.kIn q
  refine wpAny_call_exc_subT F T hC hN hni (fun h' e hm => ?_) (by show 0 ≤ sizeLine; exact Nat.zero_le _)
  exact mk_of I hm r h (I.hok.gone hm.new)
/-- X(), as a value -/
theorem pe_exc0 {x : Str} {p pos : Pos} (F : ExcBaseFacts B newId initId bmB) (q : PySem.W.excIn X.K C bmB newId = true) (gC : X.mg x = some (.ref C)) (kC : PySem.W.keepIn X.K (.ref C) = true) (hg : Gl X x)
    (hdb : (x == ("__debug__" : Str)) = false := by decide) : PE X (.Call (.Name x p) [] [] pos) (fun σ H Q => ∀ a, H a = none → Q (.ref a) (upd H a (ExO (.ref C) a))) := by
  refine ⟨fun pins s σ H Q I h => ?_⟩
  refine wpAny_Call_Name_kw (ld_glob I hg gC ?_ hdb)
  refine PySem.W.callWith_K0 I.kIn kC ?_
  obtain ⟨bm, N, nm, qn, bs, hdct, sn, sub, ab, col, dd, k0, k1, k2, k3, k5, mN, hC, hN, hni, T⟩ := exc_obj I.kIn q
  refine wpAny_call_exc_subT F T hC hN hni (fun h' a hm => ?_) (by show 0 ≤ sizeLine; exact Nat.zero_le _)
  have hn : H a = none := I.hok.gone hm.new
  obtain ⟨t, ht, _, _⟩ := hm.there
  exact ⟨.ref a, upd H a (ExO (.ref C) a), I.laidN hm.keeps hm.new hn (exO_ok ht ⟨rfl, rfl⟩ rfl rfl rfl (show 4 < 6 by decide)), rfl, h a hn⟩
end
end L2

set_option Elab.async false
set_option linter.all false
set_option maxRecDepth 100000
set_option maxHeartbeats 4000000
/-! own exceptions with an __init__ of their own that stores its arguments, over Exception: the stores -/
namespace PySem
namespace ExX
open Builtin Builtin.ObjectAttr PySem.W PySem.Calls PyProof.Rows PySem.HandSPX
abbrev exTail : List Value := [.type "Exception", .type "BaseException", .type "object"]
/-- own classes, then Exception's mro -/
def refsEX : List Value → Bool
  | .ref _ :: r => refsEX r
  | l => l == exTail
theorem refsEX_cases : ∀ l : List Value, refsEX l = true → (∃ c r, l = .ref c :: r ∧ refsEX r = true) ∨ l = exTail := by
  intro l e
  unfold refsEX at e
  split at e
  · exact .inl ⟨_, _, rfl, e⟩
  · exact .inr (beq_iff_eq.mp e)
theorem refsEX_pass (self : Value) : ∀ l : List Value, refsEX l = true → refuseLoop self "__setattr__" l = pure () := by
  intro l
  induction l with
  | nil => intro e; exact absurd e (by decide)
  | cons a r ih =>
    intro e
    rcases refsEX_cases (a :: r) e with ⟨c, r', q, h⟩ | q
    · obtain ⟨rfl, rfl⟩ := List.cons.inj q
      rw [refuseLoop_ref]; exact ih h
    · rw [q]; exact F.store_Exception.passes self
theorem refsEX_contains (X : String) : ∀ l : List Value, refsEX l = true → l.contains (.type X) = exTail.contains (.type X) := by
  intro l
  induction l with
  | nil => intro e; exact absurd e (by decide)
  | cons a r ih =>
    intro e
    rcases refsEX_cases (a :: r) e with ⟨c, r', q, h⟩ | q
    · obtain ⟨rfl, rfl⟩ := List.cons.inj q
      rw [List.contains_cons, ih h]; rfl
    · rw [q]
theorem refsEX_ne {l : List Value} (e : refsEX l = true) : l.isEmpty = false := by
  cases l with
  | nil => exact absurd e (by decide)
  | cons _ _ => rfl
section
variable {prog : Program} {w : World} {A : Around} {E : Value → Shared → Prop} {R : Result → Shared → Prop} {hp : Heap} {g : Array GenState} {d : Drawn} {t : Nat} {os : OsState}
theorem osa_new {K : W.Frag} {name : Str} {tk : Tok} {v : Value} {x C : Addr} {fv : Array Value} {cd : ClassData}
    (X : K.In hp) (hx : hp.get? x = some { cls := .ref C, data := .fields fv }) (hcd : W.clsIn K C = some cd) (hm : refsEX cd.mro = true) (hh : cd.hasDict = true) (ha : W.findIn K (.ref C) name = some none)
    (hq : ∀ h' tk' dx, (∀ b o, b ≠ x → hp.get? b = some o → h'.get? b = some o) → hp.objs.size ≤ dx → dx ≠ x → h'.get? x = some { cls := .ref C, dict := some dx, data := .fields fv } →
      h'.Ns1 dx (fun y => if y = name then some v else none) → R (.ok (.ret .none)) ⟨h', g, d, tk', os⟩) :
    codeAny (model prog w) A (.call (.builtin "object.__setattr__") ⟨[.ref x, .str name tk, v], []⟩) R ⟨hp, g, d, t, os⟩ := by
  have I : W.InstAt hp x { cls := .ref C, data := .fields fv } C none := ⟨hx, rfl, rfl, trivial⟩
  have SF := F.store_object
  have ne := refsEX_ne hm
  have hob : cd.mro.contains (.type "object") = true := (refsEX_contains "object" _ hm).trans (by decide +kernel)
  have hxs : x ≠ hp.objs.size := Nat.ne_of_lt (Heap.lt_size hx)
  have sub : W.Looks (model prog w) hp (isInstance (.ref x) (.type "object")) true := I.type.andThen (W.looks_mroIn X (by unfold W.mroIn; rw [hcd, Option.bind_some, if_neg (by rw [ne]; decide), hob]))
  refine codeAny_call_builtin SF.slot.plain SF.entry (@W.check_slot (model prog w) _ _ ⟨hp, g, d, t, os⟩ "object.__setattr__" "object" "__setattr__" (.ref x) [.str name tk, v] [] _ SF.kind SF.split sub (SF.args (.ref x) (.str name tk) v) ?_)
  have hmr : W.Looks (model prog w) hp (mroOf (.ref C)) cd.mro := (W.looks_clsIn X hcd).andThen .now
  have L3 : W.Looks (model prog w) hp (storeTaker? none) none := .now
  have hcls : W.Looks (model prog w) hp (classData C) cd := W.looks_clsIn X hcd
  rw [W.osa_eq, refuse_eq]
  refine wpAny_bind (wpAny_bind (I.type.at (wpAny_bind (hmr.at ?_))))
  rw [refsEX_pass _ _ hm]
  refine wpAny_pure (wpAny_bind (I.type.at (wpAny_bind ((W.looks_findIn X ha).at (wpAny_bind (L3.at ?_))))))
  show wpAny _ _ (storeInOwnDict (.ref x) (.ref C) (.str name tk) name v false) _ _ _
  obtain ⟨nm, bs, mro, ns, qn, hd, sn, sb, ab, col, del⟩ := cd
  dsimp only at hh
  subst hh
  unfold storeInOwnDict ownDictForStores
  repeat (first | with_reducible refine store_in_new ?_ ?_ | with_reducible refine wpAny_loadPart_at hx ?_ | with_reducible refine hcls.at ?_ | wp_step)
  · exact ⟨_, #[], _, (Heap.get?_update_ne _ _ _ _ hxs.symm).trans (Heap.get?_push_at rfl rfl), rfl, fun e he => absurd he (by simp), fun _ => rfl⟩
  · intro h' tk' hn' hs
    have hx₁ : (hp.push { cls := .type "dict", data := .dict #[] }).get? x = some { cls := .ref C, data := .fields fv } := Heap.get?_push_of_some _ hx
    refine hq h' tk' hp.objs.size (fun b o hb ho => ?_) (Nat.le_refl _) hxs.symm ?_ hn'
    · exact (hs.2 b (Nat.ne_of_lt (Heap.lt_size ho))).trans ((Heap.get?_update_ne _ _ _ _ hb).trans (Heap.get?_push_of_some _ ho))
    · exact (hs.2 x hxs).trans (Heap.get?_update_self _ hx₁ rfl)
theorem osa_old {K : W.Frag} {name : Str} {tk : Tok} {v : Value} {x C dx : Addr} {fv : Array Value} {cd : ClassData} {m0 : Str → Option Value} {nl : List Str}
    (X : K.In hp) (hx : hp.get? x = some { cls := .ref C, dict := some dx, data := .fields fv }) (hns : hp.Ns1 dx m0) (hw : Within m0 nl) (hz : nl.length ≤ 1000) (hcd : W.clsIn K C = some cd) (hm : refsEX cd.mro = true) (hh : cd.hasDict = true)
    (ha : W.findIn K (.ref C) name = some none)
    (hq : ∀ h' tk', (∀ b o, b ≠ dx → hp.get? b = some o → h'.get? b = some o) → h'.Ns1 dx (fun y => if y = name then some v else m0 y) → R (.ok (.ret .none)) ⟨h', g, d, tk', os⟩) :
    codeAny (model prog w) A (.call (.builtin "object.__setattr__") ⟨[.ref x, .str name tk, v], []⟩) R ⟨hp, g, d, t, os⟩ := by
  obtain ⟨oD, esD, epD, hoD, hdD, _⟩ := hns.count hw
  have I : W.InstAt hp x { cls := .ref C, dict := some dx, data := .fields fv } C (some oD) := ⟨hx, rfl, rfl, hoD⟩
  have SF := F.store_object
  have ne := refsEX_ne hm
  have hob : cd.mro.contains (.type "object") = true := (refsEX_contains "object" _ hm).trans (by decide +kernel)
  have sub : W.Looks (model prog w) hp (isInstance (.ref x) (.type "object")) true := I.type.andThen (W.looks_mroIn X (by unfold W.mroIn; rw [hcd, Option.bind_some, if_neg (by rw [ne]; decide), hob]))
  refine codeAny_call_builtin SF.slot.plain SF.entry (@W.check_slot (model prog w) _ _ ⟨hp, g, d, t, os⟩ "object.__setattr__" "object" "__setattr__" (.ref x) [.str name tk, v] [] _ SF.kind SF.split sub (SF.args (.ref x) (.str name tk) v) ?_)
  have hmr : W.Looks (model prog w) hp (mroOf (.ref C)) cd.mro := (W.looks_clsIn X hcd).andThen .now
  have L3 : W.Looks (model prog w) hp (storeTaker? none) none := .now
  have hcls : W.Looks (model prog w) hp (classData C) cd := W.looks_clsIn X hcd
  rw [W.osa_eq, refuse_eq]
  refine wpAny_bind (wpAny_bind (I.type.at (wpAny_bind (hmr.at ?_))))
  rw [refsEX_pass _ _ hm]
  refine wpAny_pure (wpAny_bind (I.type.at (wpAny_bind ((W.looks_findIn X ha).at (wpAny_bind (L3.at ?_))))))
  show wpAny _ _ (storeInOwnDict (.ref x) (.ref C) (.str name tk) name v false) _ _ _
  obtain ⟨nm, bs, mro, ns, qn, hd, sn, sb, ab, col, del⟩ := cd
  dsimp only at hh
  subst hh
  unfold storeInOwnDict ownDictForStores
  repeat (first | with_reducible refine PySem.OEX.store_in_old hns hw hz ?_ | with_reducible refine wpAny_loadPart_at hx ?_ | with_reducible refine hcls.at ?_ | wp_step)
  intro h' tk' hn' hs
  exact hq h' tk' (fun b o hb ho => (hs.2 b hb).trans ho) hn'
end
end ExX
end PySem

set_option Elab.async false
set_option linter.all false
set_option maxRecDepth 100000
set_option maxHeartbeats 4000000
namespace PySem
namespace ExX
open PySem.W PySem.Calls PyProof.Rows PySem.HandSPX
/-- what the written part says of an own exception class, at C, over Exception, and of its __init__, at fI -/
structure ExcT (K : W.Frag) (mg : Str → Option Value) (C fI : Addr) (cn : Str) (fs : List Str) (qual : Str) (st : Stmt) : Prop where
  gC : mg cn = some (.ref C)
  cls : ∃ nm q N bs bm sn sub ab col dd k0 k1 k2 k3 k5, K.lookup C = some (excClassObj nm q C N bs bm true sn sub ab col dd k0 k1 k2 k3 k5 "Exception.__new__") ∧ refsEX bm = true
  sa : findIn K (.ref C) "__setattr__" = some (some (.builtin "object.__setattr__"))
  ga : findIn K (.ref C) "__getattribute__" = some (some (.builtin "BaseException.__getattribute__"))
  gg : findIn K (.ref C) "__getattr__" = some none
  no : ∀ f ∈ fs, findIn K (.ref C) f = some none
  iC : findIn K (.ref C) "__init__" = some (some (.ref fI))
  tC : typeIn K (.ref fI) = some (.type "function")
  kC : keepIn K (.ref C) = true
  exC : subIn K (.ref C) (.type "BaseException") = some true
  tyC : typeIn K (.ref C) = some (.type "type")
  hdC : hasDictIn K C = true
  fn : ∃ (oc : Value) (od : Option Addr) (kV doc pm : Value) (an : Option Addr) (cdv ct : Value) (osl : Array (Option Value)),
    K.lookup fI = some ⟨oc, od, .func (fnOf "__init__" qual (L2.defArgs st) (L2.defBody st) (L2.defScope st) .none kV doc pm an cdv ct), osl⟩ ∧ codeIn K cdv qual = true
theorem ldC {M : Model} {s : Shared} {name : Str} {scope : Scope} {L a : Addr} {cd : Value} {m : Str → Option Value} {x : Str} {pos : Pos} {v : Value} {Q : Value → Shared → Prop} {A : Around} {E : Value → Shared → Prop} (hn : s.heap.Ns L m) (hv : m x = some v) (h : Q v s)
    (hk : scope.kind = .function := by rfl) (hl : (envOfC name scope L a cd).kindOf x = some .local := by rfl) (hd : (x == ("__debug__" : Str)) = false := by decide) :
    wpAny M A (eval (.Name x pos) (envOfC name scope L a cd)) Q E s := wpAny_Name (wpAny_loadName_local hk hl hn hv h) hd
end ExX
end PySem
namespace PySem
namespace ExX
open PySem.W PySem.Calls PyProof.Rows PySem.HandSPX
/-- a made exception of the class at C: itself at e, its dict at d, the fields m -/
structure OwnMade (h h' : Heap) (e C d : Addr) (m : Str → Option Value) : Prop where
  keep : ∀ b o, h.get? b = some o → h'.get? b = some o
  new : h.objs.size ≤ e
  obj : ∃ oe vs, h'.get? e = some oe ∧ oe.cls = .ref C ∧ oe.dict = some d ∧ oe.data = .fields vs ∧ vs[1]? = some .none
  dbig : h.objs.size ≤ d
  dne : d ≠ e
  ns : h'.Ns1 d m
end ExX
end PySem
namespace L2
open PySem PySem.Spec PyProof.Rows PySem.ExX
/-- an exception object of the class at C, its own dict at d, not raised -/
def ExD (C d e : Addr) : HO := .ext fun h => ∃ (oe : Obj) (vs : Array Value), h.get? e = some oe ∧ Zc (.ref C) (some d) oe ∧ oe.data = .fields vs ∧ vs[1]? = some .none
theorem exD_ok {P : Program} {w : World} {H : Hp} {h : Heap} {C d e : Addr} {oe : Obj} {vs : Array Value} (he : h.get? e = some oe) (z : Zc (.ref C) (some d) oe) (hd : oe.data = .fields vs) (h1 : vs[1]? = some .none) : ObjOk P w H h e (ExD C d e) :=
  ⟨⟨oe, vs, he, z, hd, h1⟩, ⟨oe, he⟩, fun _ _ ⟨o, v, q, r⟩ k => ⟨o, v, k o q, r⟩⟩
section
variable {X : Cx} {pins : List (Addr × Obj)} {σ : St} {H : Hp} {hp h' : Heap} {g : Array GenState} {dr : Drawn} {tk tk' : Nat} {os : OsState} {e C d : Addr} {m : Str → Option Value} {fs : List (Str × V)}
/-- the heap without the exception itself: its dict laid -/
theorem own_split (I : Inv X pins σ H ⟨hp, g, dr, tk, os⟩) (M : OwnMade hp h' e C d m) (rel : ∀ f, RelO (fs.lookup f) (m f)) :
    ∃ G' : Heap, (∀ b o, G'.get? b = some o → h'.get? b = some o) ∧ G'.get? e = none ∧ Inv X pins σ (upd H d (.xd fs)) ⟨G', g, dr, tk', os⟩ := by
  have hns := M.ns
  obtain ⟨G', g1, g2⟩ := restrict h' fun b => decide (b ≠ e)
  have gk : ∀ b, b ≠ e → G'.get? b = h'.get? b := fun b hb => g1 b (decide_eq_true hb)
  have ge : G'.get? e = none := g2 e (by simp)
  have old : ∀ b o, hp.get? b = some o → G'.get? b = some o := fun b o q => (gk b (Nat.ne_of_lt (Nat.lt_of_lt_of_le (Heap.lt_size q) M.new))).trans (M.keep b o q)
  have ob : ObjOk X.prog X.w (upd H d (.xd fs)) G' d (.xd fs) := ⟨_, hns.at (fun o q => (gk d M.dne).trans q), fun f => rel f⟩
  have J : Inv X pins σ (upd H d (.xd fs)) ⟨G', g, dr, tk', os⟩ := I.laid (t' := tk') old M.dbig ob
  refine ⟨G', fun b o q => ?_, ge, J⟩
  by_cases hb : b = e
  · rw [hb, ge] at q; cases q
  · exact (gk b hb).symm.trans q
theorem own_value (I : Inv X pins σ H ⟨hp, g, dr, tk, os⟩) (M : OwnMade hp h' e C d m) (rel : ∀ f, RelO (fs.lookup f) (m f)) :
    Inv X pins σ (upd (upd H d (.xd fs)) e (ExD C d e)) ⟨h', g, dr, tk', os⟩ := by
  obtain ⟨G', k, ge, J⟩ := own_split (tk' := tk') I M rel
  obtain ⟨oe, vs, hoe, hc, hd, hdat, h1⟩ := M.obj
  have hn : upd H d (.xd fs) e = none := by
    rw [upd_ne (Ne.symm M.dne)]
    exact I.hok.fresh M.new
  exact J.laidN k ge hn (exD_ok hoe ⟨hc, hd⟩ hdat h1)
theorem own_raise {Q : XK} (I : Inv X pins σ H ⟨hp, g, dr, tk, os⟩) (M : OwnMade hp h' e C d m) (rel : ∀ f, RelO (fs.lookup f) (m f)) (r : Raises X (.ref C)) (q : ∀ d, H d = none → Q (.ref C) (some d) (upd H d (.xd fs))) :
    MkP X pins σ Q (.ref e) ⟨h', g, dr, tk', os⟩ := by
  obtain ⟨G', k, ge, J⟩ := own_split (tk' := tk') I M rel
  obtain ⟨oe, vs, hoe, hc, hd, hdat, h1⟩ := M.obj
  refine ⟨e, oe, vs, ⟨G', g, dr, tk', os⟩, _, .ref C, some d, rfl, J, k, ge, hoe, ⟨hc, hd⟩, hdat, h1, ?_, rfl, I.bare, r, q d (I.hok.fresh M.dbig)⟩
  rw [upd_ne (Ne.symm M.dne)]
  exact I.hok.fresh M.new
end
end L2

set_option Elab.async false
set_option linter.all false
set_option maxRecDepth 100000
set_option maxHeartbeats 4000000
/-! isinstance of exception objects that are values, whatever own dict they have -/
namespace PySem.W
open PySem PySem.Spec PySem.Calls PyProof.Rows
section
variable {prog : Program} {w : World} {A : Around} {E : Value → Shared → Prop} {s : Shared} {K : Frag} {x D : Addr} {ox : Obj} {od : Option Obj}
theorem findObj_dataZ {C : Addr} {name : Str} {a g : Value} (hc : (clsIn K C).isSome = true) (ha : findIn K (.ref C) name = some (some a)) (hg : specialIn K a "__get__" = some (some g)) (ht : takesIn K a = some true) : findObj K C od name = some (.bind g a) := by
  obtain ⟨cd, hc⟩ := Option.isSome_iff_exists.mp hc
  unfold findObj
  rw [hc, Option.bind_some, ha, Option.bind_some]
  simp [hg, ht]
theorem kin_classZ {Q : Option Value → Shared → Prop} (hga : findIn K (.ref D) "__getattribute__" = some (some (.builtin "BaseException.__getattribute__"))) (hgt : findIn K (.ref D) "__getattr__" = some none) (hsub : subIn K (.ref D) (.type "BaseException") = some true)
    (hdct : hasDictIn K D = true) (ha : findIn K (.ref D) "__class__" = some (some (.builtin "object.__class__")))
    (hn : specialIn K (.builtin "object.__class__") "__get__" = some (some (.builtin "getset_descriptor.__get__"))) (htk : takesIn K (.builtin "object.__class__") = some true) (hm : mroIn K D (.type "object") = some true)
    (X : K.In s.heap) (I : InstAt s.heap x ox D od) (h : Q (some (.ref D)) { s with toks := s.toks + 1 }) : wpAny (model prog w) A (getAttr? (.ref x) "__class__") Q E s := by
  have hf : findObj K D od "__class__" = some (.bind (.builtin "getset_descriptor.__get__") (.builtin "object.__class__")) := findObj_dataZ (by obtain ⟨cd, hc, _⟩ := any_some hdct; rw [hc]; rfl) ha hn htk
  obtain ⟨hp, g, d, t, os⟩ := s
  have L0 := I.type (M := model prog w)
  have L1 := looks_findIn (M := model prog w) X hga
  have L2 := looks_findIn (M := model prog w) X hgt
  have L3 := looks_find (M := model prog w) X I hf
  have sub : Looks (model prog w) hp (isInstance (.ref x) (.type "BaseException")) true := L0.andThen (looks_subIn X hsub)
  have hx0 : (false && onTheHeap (Value.builtin "BaseException.__getattribute__")) = false := rfl
  have hx2 : (Value.builtin "BaseException.__getattribute__" == Value.builtin "object.__getattribute__") = false := by decide +kernel
  have hx1 : (onTheHeap (Value.ref D) && Value.builtin "BaseException.__getattribute__" == Value.builtin "object.__getattribute__") = false := by rw [hx2]; rfl
  unfold getAttr? getAttrBy? getAttrBy
  refine wpAny_bind (wpAny_mkText (wpAny_bind (wpAny_attempt (wpAny_holding (wpAny_bind (L0.at (wpAny_bind (L1.at ?_))))))))
  show wpAny _ _ (if (onTheHeap (Value.ref D) && Value.builtin "BaseException.__getattribute__" == Value.builtin "object.__getattribute__") = true then _ else _) _ _ _
  rw [hx1, if_neg Bool.false_ne_true]
  unfold getAttrByItsOwn hookBefore
  refine wpAny_bind ?_
  rw [if_pos (show onTheHeap (Value.ref D) = true from rfl)]
  refine L2.at ?_
  refine wpAny_bind (wpAny_attempt (wpAny_holding ?_))
  unfold callGetattribute
  rw [hx0, if_neg Bool.false_ne_true]
  unfold boundAndCalled
  rw [PySem.F.excAttr_ValueError.ga.bind (.ref x)]
  refine wpAny_bind (wpAny_pure ?_)
  show wpAny _ _ (call (.builtin "BaseException.__getattribute__") [.ref x, .str "__class__" t]) _ _ _
  refine wpAny_call (codeAny_call_builtin PySem.F.excAttr_ValueError.ga.plain PySem.F.entry_bexc_ga ?_)
  refine @check_slot (model prog w) _ _ ⟨hp, g, d, t + 1, os⟩ "BaseException.__getattribute__" "BaseException" "__getattribute__" (.ref x) [.str "__class__" t] [] _ (by decide +kernel) (by decide +kernel) sub (PySem.F.args_bexc_ga (.ref x) (.str "__class__" t)) ?_
  unfold Builtin.«object.__getattribute__»
  refine wpAny_bind (wpAny_of_eq (a := ((Value.ref x : Value), [Value.str "__class__" t])) (by first | rfl | (simp only [slotArgs]; rfl)) ?_)
  refine wpAny_bind (wpAny_pure (wpAny_bind (L0.at (wpAny_bind (L3.at ?_)))))
  show wpAny _ _ (holding [Value.builtin "object.__class__"] (call (.builtin "getset_descriptor.__get__") [.builtin "object.__class__", .ref x, .ref D]) >>= ret) _ _ _
  refine wpAny_bind (wpAny_holding (wpAny_call (class_get (s := ⟨hp, g, d, t + 1, os⟩) (ox := ox) (od := od) X I hm ?_)))
  refine wpAny_pure ?_
  show wpAny _ _ (handedOut (.ref D)) _ _ _
  rw [handedOut_of (v := .ref D) rfl]
  first
    | exact wpAny_pure (wpAny_pure h)
    | exact wpAny_pure h
    | exact wpAny_pure (wpAny_bind (wpAny_pure (wpAny_pure h)))
theorem kitx_excZ (hga : findIn K (.ref D) "__getattribute__" = some (some (.builtin "BaseException.__getattribute__"))) (hgt : findIn K (.ref D) "__getattr__" = some none) (hsub : subIn K (.ref D) (.type "BaseException") = some true) (hdct : hasDictIn K D = true) (ha : findIn K (.ref D) "__class__" = some (some (.builtin "object.__class__")))
    (hn : specialIn K (.builtin "object.__class__") "__get__" = some (some (.builtin "getset_descriptor.__get__"))) (htk : takesIn K (.builtin "object.__class__") = some true) (hm : mroIn K D (.type "object") = some true) :
    KitX K (.ref x) (.ref D) (fun h => InstAt h x ox D od) where
  ty := fun _ _ _ I => I.type
  it := fun _ _ X _ => by
    obtain ⟨cdD, hcD, _⟩ := any_some hdct
    unfold clsIn at hcD
    split at hcD
    · rename_i c' d' cd' sl' ho
      intro A' Q' E' s' k q
      unfold isType loadHead
      exact wpAny_bind (wpAny_loadPart (k _ _ (X _ _ ho)) (wpAny_pure q))
    · cases hcD
  ne := (handS_kitx_exc (x := x) (ox := ox) hga hgt hsub hdct ha hn htk hm).ne
  ca := fun X I k => kin_classZ hga hgt hsub hdct ha hn htk hm X I k
end
end PySem.W
namespace L2
open PySem PySem.Spec PyProof.Rows PySem.ExX
/-- the type of a value: also of an exception object that is a value -/
inductive TyZ (K : PySem.W.Frag) (H : Hp) : V → Value → Prop where
  | x {v : V} {t : Value} (h : TyX K H v t) : TyZ K H v t
  | exo {a C : Addr} (e : H a = some (ExO (.ref C) a)) (c : ExcC K C) : TyZ K H (.ref a) (.ref C)
  | exd {a C d : Addr} {fs : List (Str × V)} (e : H a = some (ExD C d a)) (ed : H d = some (.xd fs)) (c : ExcC K C) : TyZ K H (.ref a) (.ref C)
section
variable {X : Cx} {pins : List (Addr × Obj)} {σ : St} {H : Hp} {s : Shared}
theorem kit_ofZ {x : V} {u t : Value} (I : Inv X pins σ H s) (rx : RelV x u) (ty : TyZ X.K H x t) : ∃ P : Heap → Prop, PySem.W.KitX X.K u t P ∧ P s.heap ∧ u ≠ .builtin "__main__.__loader__#opaque" := by
  cases ty with
  | x h => exact kit_of I rx h
  | @exo a C e c =>
    cases (show u = Value.ref a from rx)
    obtain ⟨⟨oe, vs, ho, hz, hd, _, _⟩, _, _⟩ := I.hok a _ e
    have J : PySem.W.InstAt s.heap a oe C none := by
      obtain ⟨oc, od, oda, osl⟩ := oe
      obtain ⟨h1, h2⟩ := hz
      dsimp only at h1 h2 hd
      subst h1 h2 hd
      exact ⟨ho, rfl, rfl, trivial⟩
    exact ⟨_, PySem.W.kitx_excZ c.hg c.hk c.hs c.hd c.ha c.hn c.ht c.hm, J, fun z => nomatch z⟩
  | @exd a C d fs e ed c =>
    cases (show u = Value.ref a from rx)
    obtain ⟨⟨oe, vs, ho, hz, hd, _⟩, _, _⟩ := I.hok a _ e
    obtain ⟨mA, hns, _⟩ := (show ObjOk X.prog X.w H s.heap d (.xd fs) from I.hok d _ ed)
    obtain ⟨od, hod, _⟩ := lookIn_ns hns
    have J : PySem.W.InstAt s.heap a oe C (some od) := by
      obtain ⟨oc, odd, oda, osl⟩ := oe
      obtain ⟨h1, h2⟩ := hz
      dsimp only at h1 h2 hd
      subst h1 h2 hd
      exact ⟨ho, rfl, rfl, hod⟩
    exact ⟨_, PySem.W.kitx_excZ c.hg c.hk c.hs c.hd c.ha c.hn c.ht c.hm, J, fun z => nomatch z⟩
end
def rIsiZ (K : PySem.W.Frag) : List V → Hp → VK → Prop := fun xs H Q => ∃ (x c : V) (t u : Value) (b : Bool), xs = [x, c] ∧ ClsV c u ∧ TyZ K H x t ∧ PySem.W.kitOne K t u = some b ∧ Q (.bl b) H
def rIsiTZ (K : PySem.W.Frag) : List V → Hp → VK → Prop := fun xs H Q => ∃ (x : V) (tp : Addr) (cs : List V) (t : Value) (us : List Value) (b : Bool), xs = [x, .ref tp] ∧ H tp = some (.tup cs) ∧ Paired ClsV cs us ∧ TyZ K H x t ∧ PySem.W.kitAny K t us = some b ∧ Q (.bl b) H
section
variable {X : Cx} {K : PySem.W.Frag}
theorem call_isiZ (hK : X.K = K) : CallR X (.builtin "isinstance") (rIsiZ K) := by
  subst hK
  intro pins s σ H xs us Q I r h
  obtain ⟨x, c, t, u, b, rfl, k, ty, e, q⟩ := h
  obtain ⟨u1, u2, rfl, r1, r2⟩ := vals2 r
  have e2 := k.eq r2
  subst e2
  obtain ⟨P, Z, p, hx⟩ := kit_ofZ I r1 ty
  exact PySem.W.kia_one Z I.kIn p e hx fun tk => ⟨.bl b, H, I.tok tk, rfl, q⟩
theorem call_isiTZ (hK : X.K = K) : CallR X (.builtin "isinstance") (rIsiTZ K) := by
  subst hK
  intro pins s σ H xs us Q I r h
  obtain ⟨x, tp, cs, t, ws, b, rfl, hT, k, ty, e, q⟩ := h
  obtain ⟨u1, u2, rfl, r1, r2⟩ := vals2 r
  cases (show u2 = Value.ref tp from r2)
  obtain ⟨P, Z, p, hx⟩ := kit_ofZ I r1 ty
  obtain ⟨_, its, rv, o, h1, h2, n, h3⟩ := (show ObjOk X.prog X.w H s.heap tp (.tup cs) from I.hok tp _ hT)
  have e3 := ClsV.all k rv
  subst e3
  obtain ⟨oc, od, dt, sl⟩ := o
  simp only at h2 h3
  subst h2 h3
  exact PySem.W.kia_tup Z I.kIn p h1 e hx fun tk => ⟨.bl b, H, I.tok tk, rfl, q⟩
end
end L2

set_option Elab.async false
set_option linter.all false
set_option maxRecDepth 100000
set_option maxHeartbeats 4000000
/-! x != y of two objects of a class with an own __eq__ and no __ne__ -/
namespace HN
open PySem PySem.Spec PyProof.Rows PySem.SeqAt
section
variable {M : Model} {prog : Program} {w : World} {A : Around} {E : Value → Shared → Prop} {s : Shared} {K : PySem.W.Frag} {x C f : Addr} {ox : Obj} {od : Option Obj} {b tb : Value}
theorem ifBound_objNe {args : List Value} {Q : Option Value → Shared → Prop} (X : K.In s.heap) (I : PySem.W.InstAt s.heap x ox C od) (hs : PySem.W.findIn K (.ref C) "__ne__" = some (some (.builtin "object.__ne__")))
    (h : wpAny M A (call (.builtin "object.__ne__") (.ref x :: args)) (fun v => Q (some v)) E s) : wpAny M A (callSpecialIfBound? (.ref x) "__ne__" args) Q E s := by
  simp only [callSpecialIfBound?, bindSpecialIfBound?]
  refine wpAny_holding (wpAny_bind (wpAny_bind (wpAny_bind (I.type.here ((PySem.W.looks_findIn X hs).here ?_)))))
  refine wpAny_bind (wpAny_askSetting (wpAny_ite ?_))
  have fin : wpAny M A (call (.builtin "object.__ne__") ([.ref x] ++ args) >>= fun v => pure (some v)) Q E s := wpAny_bind (wpAny_mono h (fun v s' h' => wpAny_pure h') fun _ _ h' => h')
  split
  · exact wpAny_bind (wpAny_of_eq (F.cmp_object.ne.bind _) (wpAny_pure (by exact fin)))
  · exact wpAny_tryCatch (wpAny_bind (wpAny_of_eq (F.cmp_object.ne.bind _) (wpAny_pure (by exact fin))))
/-- what object.__ne__ does, where the class's own __eq__ says True -/
theorem entry_ne {R : Fin → Shared → Prop} (hu : A.units < cLine) (X : K.In s.heap) (I : PySem.W.InstAt s.heap x ox C od) (hs : PySem.W.findIn K (.ref C) "__eq__" = some (some (.ref f))) (hf : PySem.W.isFn K (.ref f) = true)
    (h : wpAny M A (call (.ref f) [.ref x, b]) (fun v s' => v = .bool true ∧ R (.done (.ret (.bool false))) s') E s) : wpAny M A (Builtin.«object.__ne__» ⟨[.ref x, b], []⟩) R E s := by
  unfold Builtin.«object.__ne__»
  have q : wpAny M A (callSpecialIfBound? (.ref x) "__eq__" [b]) (fun r s' => r = some (.bool true) ∧ R (.done (.ret (.bool false))) s') E s :=
    PySem.W.ifBound_K X I hs hf (wpAny_mono h (fun v s' ⟨e, z⟩ => ⟨by rw [e], z⟩) fun _ _ z => z)
  repeat (first | with_reducible refine wpAny_cRoomFor hu ?_ | with_reducible refine wpAny_bind (wpAny_mono q (fun r s' ⟨e, z⟩ => ?_) fun _ _ z => z) | wp_step)
  subst e
  refine wpAny_bind (wpAny_truthy_bool ?_)
  exact wpAny_pure z
theorem call_objNe {Q : Value → Shared → Prop} (hu : A.in1.units < cLine) (X : K.In s.heap) (I : PySem.W.InstAt s.heap x ox C od) (hm : PySem.W.mroIn K C (.type "object") = some true) (hs : PySem.W.findIn K (.ref C) "__eq__" = some (some (.ref f))) (hf : PySem.W.isFn K (.ref f) = true)
    (h : wpAny (model prog w) A.in1 (call (.ref f) [.ref x, b]) (fun v s' => v = .bool true ∧ Q (.bool false) s') E s) :
    wpAny (model prog w) A (call (.builtin "object.__ne__") [.ref x, b]) Q E s :=
  wpAny_call (codeAny_call_builtin F.cmp_object.ne.plain F.cmpEntry_ne (PySem.W.check_slot F.cmpKind_ne F.cmpSplit_ne (I.type.andThen (PySem.W.looks_mroIn X hm)) (F.cmpArgs_ne _ _) (entry_ne hu X I hs hf h)))
theorem rc_ne {L : Addr} {h₀ : Heap} {m : Str → Option Value} {Q : Value → Shared → Prop} (hu : A.units < cLine) (hu1 : A.in1.units < cLine) (F : Fr h₀ L s.heap m) (X₀ : K.In h₀) (I : PySem.W.InstAt s.heap x ox C od) (hb : PySem.W.Looks (model prog w) s.heap (typeOf b) tb) (hn : PySem.W.notFirst K C tb = true)
    (hm : PySem.W.mroIn K C (.type "object") = some true) (hne : PySem.W.findIn K (.ref C) "__ne__" = some (some (.builtin "object.__ne__"))) (hs : PySem.W.findIn K (.ref C) "__eq__" = some (some (.ref f))) (hf : PySem.W.isFn K (.ref f) = true)
    (h : wpAny (model prog w) A.in1 (call (.ref f) [.ref x, b]) (fun v s' => v = .bool true ∧ Q (.bool false) s') E s) : wpAny (model prog w) A (richCompare .NotEq (.ref x) b) Q E s := by
  have X := X₀.keeps F.keep
  have one : wpAny (model prog w) A (tryCompare (.ref x) (cmpInfo .NotEq).2.1 b) (fun r s' => ∃ v, r = some v ∧ Q v s') E s := by
    unfold tryCompare
    refine wpAny_bind (ifBound_objNe X I hne (call_objNe hu1 X I hm hs hf (wpAny_mono h (fun v s' hv => ?_) fun _ _ e => e)))
    exact ⟨hv.1, wpAny_pure ⟨_, rfl, hv.2⟩⟩
  unfold richCompare
  simp only [oneThing_ref]
  refine wpAny_holding (wpAny_bind (wpAny_cRoomFor hu ?_))
  refine wpAny_bind (I.type.here (wpAny_bind (hb.here ?_)))
  split
  · rename_i q
    have e : PySem.W.subIn K tb (.ref C) = some false := by
      rcases Bool.or_eq_true_iff.mp hn with e | e
      · rw [beq_iff_eq.mp e] at q; simp at q
      · exact beq_iff_eq.mp e
    refine wpAny_bind ((PySem.W.looks_subIn X e).here ?_)
    simp only [Bool.false_eq_true, if_false]
    refine wpAny_bind (wpAny_mono one (fun r s' z => ?_) fun _ _ e => e)
    obtain ⟨v, rfl, hq⟩ := z
    exact wpAny_pure hq
  · refine wpAny_bind (wpAny_pure ?_)
    simp only [Bool.false_eq_true, if_false]
    refine wpAny_bind (wpAny_mono one (fun r s' z => ?_) fun _ _ e => e)
    obtain ⟨v, rfl, hq⟩ := z
    exact wpAny_pure hq
end
end HN
namespace L2
open PySem PySem.Spec PyProof.Rows
section
variable {X : Cx} {n : Nat}
def rNeG (D : Eqv) : R2 := fun x y H Q => D x y H ∧ ∀ H', Ext H H' → Q (.bl false) H'
/-- x != y, two objects of the class at C, equal by its own __eq__ -/
theorem op_neG {CX : CXT} {C f : Addr} {fd : FuncData} {ps : List Str} {R : Addr → Addr → Hp → Prop} {E : XK} (F : FnOk X.prog X.w X.K X.mg X.base CX n f fd ps (spEq R))
    (hs : PySem.W.findIn X.K (.ref C) "__eq__" = some (some (.ref f))) (hf : PySem.W.isFn X.K (.ref f) = true) (hne : PySem.W.findIn X.K (.ref C) "__ne__" = some (some (.builtin "object.__ne__"))) (hm : PySem.W.mroIn X.K C (.type "object") = some true)
    (hb : Binds X.K fd ps []) (hx : Passes CX X E) (hr : Room (n + 1) X.A) : OpR X (compareOp .NotEq) (rNeG (DIns C R)) := by
  intro pins s σ H x y u v Q I rx ry hq
  obtain ⟨⟨a, b, dx, dy, fs, gs, rfl, rfl, ha, hb', hr'⟩, q⟩ := hq
  cases rx
  cases ry
  have sb : Sub X n X.A.in1 := Sub.in1 ⟨hr, rfl⟩
  obtain ⟨mA, J, _⟩ := ins_get I.hok ha
  obtain ⟨mB, J', _⟩ := ins_get I.hok hb'
  obtain ⟨od, J, _⟩ := J.look
  obtain ⟨od', J', _⟩ := J'.look
  obtain ⟨m, hF⟩ := I.fr
  show wpAny (model X.prog X.w) X.A (richCompare .NotEq (.ref a) (.ref b)) (EP X pins σ Q) X.xe s
  refine HN.rc_ne (tb := .ref C) hr.units0 sb.room.units0 hF I.ok.mod.kin J J'.type (by simp [PySem.W.notFirst]) hm hne hs hf ?_
  have hsp : spEq R [.ref a, .ref b] H (fun v H' => v = .bl true ∧ Ext H H') E := ⟨a, b, rfl, hr', fun H' e => ⟨rfl, e⟩⟩
  have e0 : Env0 X.prog X.w X.K X.mg X.base X.A.in1 X.stack s H := by
    have e := I.env0
    exact ⟨by rw [sb.fr]; exact e.frames, e.mod, e.bs, e.bsz, e.funs, e.frf, e.hok, e.bare⟩
  have hl := F.len _ _ _ _ hsp
  have r2 : Vals [V.ref a, V.ref b] [Value.ref a, Value.ref b] := .cons rfl (.cons rfl .nil)
  refine wpAny_call (codeAny_mono (F.run X.A.in1 X.stack s H ⟨[.ref a, .ref b], []⟩ [.ref a, .ref b] [.ref a, .ref b] _ E sb.room e0 (by
    have := hb s [.ref a, .ref b] I.kIn (by simpa using hl)
    simpa using this) r2 hsp) fun r s' hq => ?_)
  cases r with
  | error e => exact hx pins σ H s e s' I hq
  | ok fl =>
    cases fl with
    | ret w =>
      obtain ⟨z, H', I', rz, ez, ex⟩ := I.after hq
      subst ez
      cases rz
      exact ⟨rfl, .bl false, H', I', rfl, q H' ex⟩
    | next => exact False.elim hq
    | brk => exact False.elim hq
    | cont => exact False.elim hq
end
end L2

set_option Elab.async false
set_option linter.all false
set_option maxRecDepth 100000
set_option maxHeartbeats 4000000
namespace PySem
namespace ExX
open PySem.W PySem.Calls PyProof.Rows
theorem refsEX_of : ∀ l : List Value, excTail exTail l = true → refsEX l = true := by
  intro l
  induction l with
  | nil => intro h; exact absurd h (by decide +kernel)
  | cons a r ih =>
    intro h
    rcases excTail_cases (bmB := exTail) (a :: r) h with ⟨c, r', e, q⟩ | e
    · cases e
      exact ih q
    · rw [e]; rfl
theorem excT_cls {K : Frag} {C : Addr} (q : excInitIn K C exTail "Exception.__new__" = true) (hd : hasDictIn K C = true) :
    ∃ nm q N bs bm sn sub ab col dd k0 k1 k2 k3 k5, K.lookup C = some (excClassObj nm q C N bs bm true sn sub ab col dd k0 k1 k2 k3 k5 "Exception.__new__") ∧ refsEX bm = true := by
  unfold excInitIn at q
  split at q
  · rename_i dd cd sl ho
    split at q
    · rename_i C' bm k0 k1 k2 k3 n k5 hm hs
      simp only [Bool.and_eq_true, beq_iff_eq, Bool.not_eq_true'] at q
      obtain ⟨⟨⟨rfl, rfl⟩, hdel⟩, ht⟩ := q
      obtain ⟨nm, bs, mro, ns, qn, hd', sn, sub, ab, col, del⟩ := cd
      dsimp only at hm hdel
      subst hm hdel
      have hsl : sl = #[k0, k1, k2, k3, some (.builtin "Exception.__new__"), k5] := by
        obtain ⟨l⟩ := sl
        simp only at hs
        rw [hs]
      subst hsl
      have e : hd' = true := by
        unfold hasDictIn at hd
        have hc : clsIn K C' = some ⟨nm, bs, .ref C' :: bm, ns, qn, hd', sn, sub, ab, col, false⟩ := by unfold clsIn; rw [ho]
        rw [hc] at hd
        simpa using hd
      subst e
      exact ⟨nm, qn, ns, bs, bm, sn, sub, ab, col, dd, k0, k1, k2, k3, k5, ho, refsEX_of _ ht⟩
    · cases q
  · cases q
end ExX
end PySem

set_option Elab.async false
set_option linter.all false
set_option maxRecDepth 100000
set_option maxHeartbeats 4000000
/-! a call by keywords alone; a text times a number -/
namespace L2
open PySem PySem.Spec PyProof.Rows
theorem Fun.kbinds {K : PySem.W.Frag} {x qual : Str} {st : Stmt} {f : Addr} {fd : FuncData} {ps ks : List Str} (F : Fun K x qual st f fd) (g : {α : Type} → List α → List α)
    (h : ∀ (kV doc pm : Value) (an : Option Addr) (cdv ct : Value) (ws : List Value), ws.length = ks.length → bindArgs (PySem.W.fnOf x qual (defArgs st) (defBody st) (defScope st) .none kV doc pm an cdv ct) ⟨[], ks.zip ws⟩ = pure (ps.zip (g ws)))
    (hrel : ∀ {zs : List V} {ws : List Value}, Vals zs ws → Vals (g zs) (g ws)) : KBn K fd ps 0 ks (fun _ ws => g ws) (fun _ zs => g zs) := by
  obtain ⟨oc, od, kV, doc, pm, an, cdv, ct, osl, rfl, lk, hcd⟩ := F.ex
  refine ⟨fun s us ws _ h0 hl => ?_, fun _ r => hrel r⟩
  cases us with
  | nil => exact BindsTo.of_eq (h kV doc pm an cdv ct ws hl)
  | cons a r => cases h0
section
variable {X : Cx} {CX : CXT} {k : Nat} {f : Addr} {fd : FuncData} {ps ks : List Str} {sp : Sp} {E : XK} {x : Str} {p pos : Pos} {kws : List Keyword} {tk : TA} {g : List Value → List Value → List Value} {gV : List V → List V → List V}
theorem pe_callN0 (F : FnOk X.prog X.w X.K X.mg X.base CX k f fd ps sp) (hr : Room k X.A) (hg : Gl X x) (hm : X.mg x = some (.ref f)) (hk : PySem.W.keepIn X.K (.ref f) = true) (hb : KBn X.K fd ps 0 ks g gV) (hx : Passes CX X E)
    (hkw : PK X kws tk) (hall : (backToKw pos (keywordEach kws X.env)).all (·.1.isSome) = true := by rfl) (hks : (backToKw pos (keywordEach kws X.env)).filterMap (·.1) = ks := by rfl)
    (hdb : (x == ("__debug__" : Str)) = false := by decide)
    (hpl : ((backTo pos (starEach [] X.env)).any (·.1) || (backToKw pos (keywordEach kws X.env)).any (·.1.isNone)) = false := by rfl) :
    PE X (.Call (.Name x p) [] kws pos) (tCallN 0 ks.length sp gV E tNil tk) := by
  refine ⟨fun pins s σ H Q I h => ?_⟩
  refine wpAny_Call_Name_kw (ld_glob I hg hm ?_ hdb)
  refine PySem.W.callWith_KW0 (h₀ := X.base) I.ok.mod.kin hk hall ?_ hpl
  refine thn (hkw.run pos pins s σ H _ I h) fun ws s2 ⟨zs, H2, I2, rz, l1, l2, q2⟩ => ⟨I2.kIn, ?_⟩
  rw [hks]
  exact run_fnN (us := []) (vs := []) F hr hb hx I2 .nil rz rfl l2 q2
theorem op_mul_str : OpR X (binaryOp .Mult) (fun x y H Q => ∃ z n, x = .str z ∧ y = .int n ∧ z.length ≤ 16 ∧ -(2 ^ 63 : Int) ≤ n ∧ n ≤ 1048576 ∧ Q (.str (Txt.mul z n)) H) := by
  intro pins s σ H x y v u Q I rx ry h
  obtain ⟨z, n, rfl, rfl, h1, h2, h3, q⟩ := h
  obtain ⟨t, rfl⟩ := rx
  obtain ⟨t', rfl⟩ := ry
  exact SB.mul (mulOk_of 16 1048576 h1 h3 h2 (by decide) (by decide)) fun t' tk => ⟨.str _, H, I.tok _, ⟨_, rfl⟩, q⟩
end
end L2

set_option Elab.async false
set_option linter.all false
set_option maxRecDepth 100000
/-! the rules whose reading names the written part, with that part a letter of its own (within a comprehension the place's own name of it can't be found by unification) -/
namespace L2
open PySem PySem.Spec PyProof.Rows
variable {X : Cx} {K : PySem.W.Frag}
theorem ix_listK (h : X.K = K) : IxR X (rIxL K) := by subst h; exact ix_list
theorem ix_tupK (h : X.K = K) : IxR X (rIxT K) := by subst h; exact ix_tup
theorem call_tuple_ofK (h : X.K = K) : CallR X (.type "tuple") (fun xs H Q => ∃ p ys, xs = [.ref p] ∧ ((SqL K H p ys ∧ ∀ l, H l = none → Q (.ref l) (upd H l (.tup ys))) ∨ (SqT K H p ys ∧ Q (.ref p) H))) := by subst h; exact call_tuple_of
theorem call_list_ofK (h : X.K = K) : CallR X (.type "list") (fun xs H Q => ∃ p ys, xs = [.ref p] ∧ (SqL K H p ys ∨ SqT K H p ys) ∧ ∀ l, H l = none → Q (.ref l) (upd H l (.lst ys))) := by subst h; exact call_list_of
theorem call_len_seqK (h : X.K = K) : CallR X (.builtin "len") (fun xs H Q => ∃ p ys, xs = [.ref p] ∧ (SqL K H p ys ∨ SqT K H p ys) ∧ Q (.int ys.length) H) := by subst h; exact call_len_seq
theorem call_isiK' (h : X.K = K) : CallR X (.builtin "isinstance") (rIsi K) := by subst h; exact call_isi
theorem call_isiTK (h : X.K = K) : CallR X (.builtin "isinstance") (rIsiT K) := by subst h; exact call_isiT
theorem sl_listK (h : X.K = K) : SlR X (rSlL K) := by subst h; exact sl_list
theorem cr_allK (h : X.K = K) (hc : X.calm = true) : CallR X (.builtin "all") (rAll K) := by subst h; exact cr_all hc
theorem cr_anyK (h : X.K = K) (hc : X.calm = true) : CallR X (.builtin "any") (rAny K) := by subst h; exact cr_any hc
theorem cr_sumK (h : X.K = K) (hc : X.calm = true) : CallR X (.builtin "sum") (rSum K) := by subst h; exact cr_sum hc
end L2

set_option Elab.async false
set_option linter.all false
set_option maxRecDepth 100000
set_option maxHeartbeats 4000000
namespace J
open PySem L2
def topS (i : Nat) : Stmt := PySem.Challenge.pw_onewayread_k34_books_joined.main.body.getD i (.Pass ⟨0, 0, 0, 0⟩)
abbrev s_InvalidLoom_init : Stmt := inClass (topS 2) 0
abbrev N_InvalidLoom_init : List Str := ["self", "part", "at"]
abbrev P_InvalidLoom_init : List Str := ["self", "part", "at"]
theorem sc_InvalidLoom_init : FnScope N_InvalidLoom_init P_InvalidLoom_init (defScope s_InvalidLoom_init) := ⟨rfl, rfl, rfl, by decide +kernel, rfl, by decide +kernel, by decide +kernel⟩
abbrev s_LimitExceeded_init : Stmt := inClass (topS 8) 0
abbrev N_LimitExceeded_init : List Str := ["self", "limit"]
abbrev P_LimitExceeded_init : List Str := ["self", "limit"]
theorem sc_LimitExceeded_init : FnScope N_LimitExceeded_init P_LimitExceeded_init (defScope s_LimitExceeded_init) := ⟨rfl, rfl, rfl, by decide +kernel, rfl, by decide +kernel, by decide +kernel⟩
abbrev s_is_number : Stmt := topS 14
abbrev N_is_number : List Str := ["thing", "low", "high"]
abbrev P_is_number : List Str := ["thing", "low", "high"]
theorem sc_is_number : FnScope N_is_number P_is_number (defScope s_is_number) := ⟨rfl, rfl, rfl, by decide +kernel, rfl, by decide +kernel, by decide +kernel⟩
abbrev s_is_sequence : Stmt := topS 15
abbrev N_is_sequence : List Str := ["thing", "fewest", "most"]
abbrev P_is_sequence : List Str := ["thing", "fewest", "most"]
theorem sc_is_sequence : FnScope N_is_sequence P_is_sequence (defScope s_is_sequence) := ⟨rfl, rfl, rfl, by decide +kernel, rfl, by decide +kernel, by decide +kernel⟩
abbrev s_is_signs : Stmt := topS 16
abbrev N_is_signs : List Str := ["thing", "letters", "sign", "one", "other"]
abbrev P_is_signs : List Str := ["thing"]
theorem sc_is_signs : FnScope N_is_signs P_is_signs (defScope s_is_signs) := ⟨rfl, rfl, rfl, by decide +kernel, rfl, by decide +kernel, by decide +kernel⟩
abbrev s_is_string_over : Stmt := topS 17
abbrev N_is_string_over : List Str := ["signs", "thing", "fewest", "most", "sign"]
abbrev P_is_string_over : List Str := ["signs", "thing", "fewest", "most"]
theorem sc_is_string_over : FnScope N_is_string_over P_is_string_over (defScope s_is_string_over) := ⟨rfl, rfl, rfl, by decide +kernel, rfl, by decide +kernel, by decide +kernel⟩
abbrev s_is_word : Stmt := topS 18
abbrev N_is_word : List Str := ["signs", "thing"]
abbrev P_is_word : List Str := ["signs", "thing"]
theorem sc_is_word : FnScope N_is_word P_is_word (defScope s_is_word) := ⟨rfl, rfl, rfl, by decide +kernel, rfl, by decide +kernel, by decide +kernel⟩
abbrev s_check_signs : Stmt := topS 19
abbrev N_check_signs : List Str := ["signs"]
abbrev P_check_signs : List Str := ["signs"]
theorem sc_check_signs : FnScope N_check_signs P_check_signs (defScope s_check_signs) := ⟨rfl, rfl, rfl, by decide +kernel, rfl, by decide +kernel, by decide +kernel⟩
abbrev s_check_state : Stmt := topS 20
abbrev N_check_state : List Str := ["state"]
abbrev P_check_state : List Str := ["state"]
theorem sc_check_state : FnScope N_check_state P_check_state (defScope s_check_state) := ⟨rfl, rfl, rfl, by decide +kernel, rfl, by decide +kernel, by decide +kernel⟩
abbrev s_check_text : Stmt := topS 21
abbrev N_check_text : List Str := ["signs", "text"]
abbrev P_check_text : List Str := ["signs", "text"]
theorem sc_check_text : FnScope N_check_text P_check_text (defScope s_check_text) := ⟨rfl, rfl, rfl, by decide +kernel, rfl, by decide +kernel, by decide +kernel⟩
abbrev s_is_arc : Stmt := topS 24
abbrev N_is_arc : List Str := ["signs", "thing", "state", "word", "goal"]
abbrev P_is_arc : List Str := ["signs", "thing"]
theorem sc_is_arc : FnScope N_is_arc P_is_arc (defScope s_is_arc) := ⟨rfl, rfl, rfl, by decide +kernel, rfl, by decide +kernel, by decide +kernel⟩
abbrev s_Loom_init : Stmt := inClass (topS 25) 0
abbrev N_Loom_init : List Str := ["self", "signs", "arcs", "at", "arc"]
abbrev P_Loom_init : List Str := ["self", "signs", "arcs"]
theorem sc_Loom_init : FnScope N_Loom_init P_Loom_init (defScope s_Loom_init) := ⟨rfl, rfl, rfl, by decide +kernel, rfl, by decide +kernel, by decide +kernel⟩
abbrev s_Loom_eq : Stmt := inClass (topS 25) 1
abbrev N_Loom_eq : List Str := ["self", "other"]
abbrev P_Loom_eq : List Str := ["self", "other"]
theorem sc_Loom_eq : FnScope N_Loom_eq P_Loom_eq (defScope s_Loom_eq) := ⟨rfl, rfl, rfl, by decide +kernel, rfl, by decide +kernel, by decide +kernel⟩
abbrev s_book : Stmt := topS 27
abbrev N_book : List Str := ["signs", "words", "word"]
abbrev P_book : List Str := ["signs", "words"]
theorem sc_book : FnScope N_book P_book (defScope s_book) := ⟨rfl, rfl, rfl, by decide +kernel, rfl, by decide +kernel, by decide +kernel⟩
abbrev s_is_book : Stmt := topS 28
abbrev N_is_book : List Str := ["thing", "arc"]
abbrev P_is_book : List Str := ["thing"]
theorem sc_is_book : FnScope N_is_book P_is_book (defScope s_is_book) := ⟨rfl, rfl, rfl, by decide +kernel, rfl, by decide +kernel, by decide +kernel⟩
abbrev s_check_book : Stmt := topS 29
abbrev N_check_book : List Str := ["a_book"]
abbrev P_check_book : List Str := ["a_book"]
theorem sc_check_book : FnScope N_check_book P_check_book (defScope s_check_book) := ⟨rfl, rfl, rfl, by decide +kernel, rfl, by decide +kernel, by decide +kernel⟩
abbrev s_words : Stmt := topS 30
abbrev N_words : List Str := ["a_book", "arc"]
abbrev P_words : List Str := ["a_book"]
theorem sc_words : FnScope N_words P_words (defScope s_words) := ⟨rfl, rfl, rfl, by decide +kernel, rfl, by decide +kernel, by decide +kernel⟩
abbrev s_count : Stmt := topS 32
abbrev N_count : List Str := ["loom", "state", "text", "ways", "at", "place", "word", "goal", "end", "_"]
abbrev P_count : List Str := ["loom", "state", "text"]
theorem sc_count : FnScope N_count P_count (defScope s_count) := ⟨rfl, rfl, rfl, by decide +kernel, rfl, by decide +kernel, by decide +kernel⟩
abbrev s_joined : Stmt := topS 34
abbrev N_joined : List Str := ["a_book", "outer", "told", "made", "word", "sign"]
abbrev P_joined : List Str := ["a_book", "outer"]
theorem sc_joined : FnScope N_joined P_joined (defScope s_joined) := ⟨rfl, rfl, rfl, by decide +kernel, rfl, by decide +kernel, by decide +kernel⟩
abbrev s_l_take : Stmt := topS 36
abbrev N_l_take : List Str := ["_law_script", "_law_pool", "_law_many", "_law_cell", "_law_digit", "_law_seed"]
abbrev P_l_take : List Str := ["_law_script", "_law_pool", "_law_many"]
theorem sc_l_take : FnScope N_l_take P_l_take (defScope s_l_take) := ⟨rfl, rfl, rfl, by decide +kernel, rfl, by decide +kernel, by decide +kernel⟩
abbrev s_l_signs : Stmt := topS 37
abbrev N_l_signs : List Str := ["_law_script", "_law_pool"]
abbrev P_l_signs : List Str := ["_law_script", "_law_pool"]
theorem sc_l_signs : FnScope N_l_signs P_l_signs (defScope s_l_signs) := ⟨rfl, rfl, rfl, by decide +kernel, rfl, by decide +kernel, by decide +kernel⟩
abbrev s_l_word : Stmt := topS 38
abbrev N_l_word : List Str := ["_law_script", "_law_pool", "_law_signs_here", "_law_most", "_law_k"]
abbrev P_l_word : List Str := ["_law_script", "_law_pool", "_law_signs_here", "_law_most"]
theorem sc_l_word : FnScope N_l_word P_l_word (defScope s_l_word) := ⟨rfl, rfl, rfl, by decide +kernel, rfl, by decide +kernel, by decide +kernel⟩
abbrev s_l_words : Stmt := topS 39
abbrev N_l_words : List Str := ["_law_script", "_law_pool", "_law_signs_here", "_law_many", "_law_most", "_law_k"]
abbrev P_l_words : List Str := ["_law_script", "_law_pool", "_law_signs_here", "_law_many", "_law_most"]
theorem sc_l_words : FnScope N_l_words P_l_words (defScope s_l_words) := ⟨rfl, rfl, rfl, by decide +kernel, rfl, by decide +kernel, by decide +kernel⟩
abbrev s_l_count : Stmt := topS 40
abbrev N_l_count : List Str := ["_law_words_here", "_law_text", "_law_ways", "_law_back", "_law_at", "_law_word_here"]
abbrev P_l_count : List Str := ["_law_words_here", "_law_text"]
theorem sc_l_count : FnScope N_l_count P_l_count (defScope s_l_count) := ⟨rfl, rfl, rfl, by decide +kernel, rfl, by decide +kernel, by decide +kernel⟩
abbrev s_l_error : Stmt := topS 41
abbrev N_l_error : List Str := ["_law_call", "_law_told", "e"]
abbrev P_l_error : List Str := ["_law_call"]
theorem sc_l_error : FnScope N_l_error P_l_error (defScope s_l_error) := ⟨rfl, rfl, rfl, by decide +kernel, rfl, by decide +kernel, by decide +kernel⟩
abbrev s_l_spelled : Stmt := topS 42
abbrev N_l_spelled : List Str := ["_law_some", "_law_signs_here", "_law_word_here", "_law_sign"]
abbrev P_l_spelled : List Str := ["_law_some", "_law_signs_here", "_law_word_here"]
theorem sc_l_spelled : FnScope N_l_spelled P_l_spelled (defScope s_l_spelled) := ⟨rfl, rfl, rfl, by decide +kernel, rfl, by decide +kernel, by decide +kernel⟩
abbrev s_law : Stmt := topS 43
abbrev N_law : List Str := ["_law_script", "_law_pool", "_law_turn", "_law_signs_here", "_law_some", "_law_letters", "_law_outer", "_law_one", "_law_other", "_law_due", "_law_told", "_law_row", "_law_text", "_law_more", "_law_word_here", "_law_k", "_law_at", "_law_sign"]
abbrev P_law : List Str := ["_law_script"]
theorem sc_law : FnScope N_law P_law (defScope s_law) := ⟨rfl, rfl, rfl, by decide +kernel, rfl, by decide +kernel, by decide +kernel⟩
/-- what the top has written -/
structure Tx (K : PySem.W.Frag) (mg : Str → Option Value) : Type where
  f_InvalidLoom_init : Addr
  fd_InvalidLoom_init : FuncData
  F_InvalidLoom_init : Fun K "__init__" "InvalidLoom.__init__" s_InvalidLoom_init f_InvalidLoom_init fd_InvalidLoom_init
  b_InvalidLoom_init : Binds K fd_InvalidLoom_init P_InvalidLoom_init []
  f_LimitExceeded_init : Addr
  fd_LimitExceeded_init : FuncData
  F_LimitExceeded_init : Fun K "__init__" "LimitExceeded.__init__" s_LimitExceeded_init f_LimitExceeded_init fd_LimitExceeded_init
  b_LimitExceeded_init : Binds K fd_LimitExceeded_init P_LimitExceeded_init []
  f_is_number : Addr
  fd_is_number : FuncData
  F_is_number : Fun K "is_number" "is_number" s_is_number f_is_number fd_is_number
  b_is_number : Binds K fd_is_number P_is_number []
  m_is_number : mg "is_number" = some (.ref f_is_number)
  f_is_sequence : Addr
  fd_is_sequence : FuncData
  F_is_sequence : Fun K "is_sequence" "is_sequence" s_is_sequence f_is_sequence fd_is_sequence
  b_is_sequence : Binds K fd_is_sequence P_is_sequence []
  m_is_sequence : mg "is_sequence" = some (.ref f_is_sequence)
  f_is_signs : Addr
  fd_is_signs : FuncData
  F_is_signs : Fun K "is_signs" "is_signs" s_is_signs f_is_signs fd_is_signs
  b_is_signs : Binds K fd_is_signs P_is_signs []
  m_is_signs : mg "is_signs" = some (.ref f_is_signs)
  f_is_string_over : Addr
  fd_is_string_over : FuncData
  F_is_string_over : Fun K "is_string_over" "is_string_over" s_is_string_over f_is_string_over fd_is_string_over
  b_is_string_over : Binds K fd_is_string_over P_is_string_over []
  m_is_string_over : mg "is_string_over" = some (.ref f_is_string_over)
  f_is_word : Addr
  fd_is_word : FuncData
  F_is_word : Fun K "is_word" "is_word" s_is_word f_is_word fd_is_word
  b_is_word : Binds K fd_is_word P_is_word []
  m_is_word : mg "is_word" = some (.ref f_is_word)
  f_check_signs : Addr
  fd_check_signs : FuncData
  F_check_signs : Fun K "check_signs" "check_signs" s_check_signs f_check_signs fd_check_signs
  b_check_signs : Binds K fd_check_signs P_check_signs []
  m_check_signs : mg "check_signs" = some (.ref f_check_signs)
  f_check_state : Addr
  fd_check_state : FuncData
  F_check_state : Fun K "check_state" "check_state" s_check_state f_check_state fd_check_state
  b_check_state : Binds K fd_check_state P_check_state []
  m_check_state : mg "check_state" = some (.ref f_check_state)
  f_check_text : Addr
  fd_check_text : FuncData
  F_check_text : Fun K "check_text" "check_text" s_check_text f_check_text fd_check_text
  b_check_text : Binds K fd_check_text P_check_text []
  m_check_text : mg "check_text" = some (.ref f_check_text)
  f_is_arc : Addr
  fd_is_arc : FuncData
  F_is_arc : Fun K "is_arc" "is_arc" s_is_arc f_is_arc fd_is_arc
  b_is_arc : Binds K fd_is_arc P_is_arc []
  m_is_arc : mg "is_arc" = some (.ref f_is_arc)
  f_Loom_init : Addr
  fd_Loom_init : FuncData
  F_Loom_init : Fun K "__init__" "Loom.__init__" s_Loom_init f_Loom_init fd_Loom_init
  b_Loom_init : Binds K fd_Loom_init P_Loom_init []
  f_Loom_eq : Addr
  fd_Loom_eq : FuncData
  F_Loom_eq : Fun K "__eq__" "Loom.__eq__" s_Loom_eq f_Loom_eq fd_Loom_eq
  b_Loom_eq : Binds K fd_Loom_eq P_Loom_eq []
  f_book : Addr
  fd_book : FuncData
  F_book : Fun K "book" "book" s_book f_book fd_book
  b_book : Binds K fd_book P_book []
  m_book : mg "book" = some (.ref f_book)
  f_is_book : Addr
  fd_is_book : FuncData
  F_is_book : Fun K "is_book" "is_book" s_is_book f_is_book fd_is_book
  b_is_book : Binds K fd_is_book P_is_book []
  m_is_book : mg "is_book" = some (.ref f_is_book)
  f_check_book : Addr
  fd_check_book : FuncData
  F_check_book : Fun K "check_book" "check_book" s_check_book f_check_book fd_check_book
  b_check_book : Binds K fd_check_book P_check_book []
  m_check_book : mg "check_book" = some (.ref f_check_book)
  f_words : Addr
  fd_words : FuncData
  F_words : Fun K "words" "words" s_words f_words fd_words
  b_words : Binds K fd_words P_words []
  m_words : mg "words" = some (.ref f_words)
  f_count : Addr
  fd_count : FuncData
  F_count : Fun K "count" "count" s_count f_count fd_count
  b_count : Binds K fd_count P_count []
  m_count : mg "count" = some (.ref f_count)
  f_joined : Addr
  fd_joined : FuncData
  F_joined : Fun K "joined" "joined" s_joined f_joined fd_joined
  b_joined : Binds K fd_joined P_joined []
  m_joined : mg "joined" = some (.ref f_joined)
  f_l_take : Addr
  fd_l_take : FuncData
  F_l_take : Fun K "_law_take" "_law_take" s_l_take f_l_take fd_l_take
  b_l_take : Binds K fd_l_take P_l_take []
  m_l_take : mg "_law_take" = some (.ref f_l_take)
  f_l_signs : Addr
  fd_l_signs : FuncData
  F_l_signs : Fun K "_law_signs" "_law_signs" s_l_signs f_l_signs fd_l_signs
  b_l_signs : Binds K fd_l_signs P_l_signs []
  m_l_signs : mg "_law_signs" = some (.ref f_l_signs)
  f_l_word : Addr
  fd_l_word : FuncData
  F_l_word : Fun K "_law_word" "_law_word" s_l_word f_l_word fd_l_word
  b_l_word : Binds K fd_l_word P_l_word []
  m_l_word : mg "_law_word" = some (.ref f_l_word)
  f_l_words : Addr
  fd_l_words : FuncData
  F_l_words : Fun K "_law_words" "_law_words" s_l_words f_l_words fd_l_words
  b_l_words : Binds K fd_l_words P_l_words []
  m_l_words : mg "_law_words" = some (.ref f_l_words)
  f_l_count : Addr
  fd_l_count : FuncData
  F_l_count : Fun K "_law_count" "_law_count" s_l_count f_l_count fd_l_count
  b_l_count : Binds K fd_l_count P_l_count []
  m_l_count : mg "_law_count" = some (.ref f_l_count)
  f_l_error : Addr
  fd_l_error : FuncData
  F_l_error : Fun K "_law_error" "_law_error" s_l_error f_l_error fd_l_error
  b_l_error : Binds K fd_l_error P_l_error []
  m_l_error : mg "_law_error" = some (.ref f_l_error)
  f_l_spelled : Addr
  fd_l_spelled : FuncData
  F_l_spelled : Fun K "_law_spelled" "_law_spelled" s_l_spelled f_l_spelled fd_l_spelled
  b_l_spelled : Binds K fd_l_spelled P_l_spelled []
  m_l_spelled : mg "_law_spelled" = some (.ref f_l_spelled)
  f_law : Addr
  fd_law : FuncData
  F_law : Fun K "law" "law" s_law f_law fd_law
  b_law : Binds K fd_law P_law []
  m_law : mg "law" = some (.ref f_law)
  n_all : mg "all" = none
  n_bool : mg "bool" = none
  n_enumerate : mg "enumerate" = none
  n_int : mg "int" = none
  n_isinstance : mg "isinstance" = none
  n_len : mg "len" = none
  n_list : mg "list" = none
  n_max : mg "max" = none
  n_range : mg "range" = none
  n_str : mg "str" = none
  n_sum : mg "sum" = none
  n_tuple : mg "tuple" = none
  n_zip : mg "zip" = none
  t_MOST_SIGNS : Tok
  g_MOST_SIGNS : mg "MOST_SIGNS" = some (.int 4 t_MOST_SIGNS)
  t_LONGEST_WORD : Tok
  g_LONGEST_WORD : mg "LONGEST_WORD" = some (.int 12 t_LONGEST_WORD)
  t_LONGEST_TEXT : Tok
  g_LONGEST_TEXT : mg "LONGEST_TEXT" = some (.int 2000 t_LONGEST_TEXT)
  t_LAST_STATE : Tok
  g_LAST_STATE : mg "LAST_STATE" = some (.int 63 t_LAST_STATE)
  t_MOST_ARCS : Tok
  g_MOST_ARCS : mg "MOST_ARCS" = some (.int 200 t_MOST_ARCS)
  C_Loom : Addr
  M_Loom : Mk K C_Loom f_Loom_init
  cl_Loom : Cls K C_Loom
  g_Loom : mg "Loom" = some (.ref C_Loom)
  na_Loom_signs : NoAttr K C_Loom "signs"
  na_Loom_arcs : NoAttr K C_Loom "arcs"
  C_InvalidLoom : Addr
  C_LimitExceeded : Addr
  C_Unlike : Addr
  C_NotABook : Addr
  C_NotOneWay : Addr
  g_InvalidLoom : mg "InvalidLoom" = some (.ref C_InvalidLoom)
  kc_InvalidLoom : PySem.W.keepIn K (.ref C_InvalidLoom) = true
  E_InvalidLoom : ExcC K C_InvalidLoom
  ty_InvalidLoom : PySem.W.typeIn K (.ref C_InvalidLoom) = some (.type "type")
  X_InvalidLoom : PySem.ExX.ExcT K mg C_InvalidLoom f_InvalidLoom_init "InvalidLoom" ["part", "at"] "InvalidLoom.__init__" s_InvalidLoom_init
  g_LimitExceeded : mg "LimitExceeded" = some (.ref C_LimitExceeded)
  kc_LimitExceeded : PySem.W.keepIn K (.ref C_LimitExceeded) = true
  E_LimitExceeded : ExcC K C_LimitExceeded
  ty_LimitExceeded : PySem.W.typeIn K (.ref C_LimitExceeded) = some (.type "type")
  X_LimitExceeded : PySem.ExX.ExcT K mg C_LimitExceeded f_LimitExceeded_init "LimitExceeded" ["limit"] "LimitExceeded.__init__" s_LimitExceeded_init
  g_Unlike : mg "Unlike" = some (.ref C_Unlike)
  kc_Unlike : PySem.W.keepIn K (.ref C_Unlike) = true
  E_Unlike : ExcC K C_Unlike
  ty_Unlike : PySem.W.typeIn K (.ref C_Unlike) = some (.type "type")
  in_Unlike : PySem.W.excIn K C_Unlike [.type "Exception", .type "BaseException", .type "object"] "Exception.__new__" = true
  g_NotABook : mg "NotABook" = some (.ref C_NotABook)
  kc_NotABook : PySem.W.keepIn K (.ref C_NotABook) = true
  E_NotABook : ExcC K C_NotABook
  ty_NotABook : PySem.W.typeIn K (.ref C_NotABook) = some (.type "type")
  in_NotABook : PySem.W.excIn K C_NotABook [.type "Exception", .type "BaseException", .type "object"] "Exception.__new__" = true
  g_NotOneWay : mg "NotOneWay" = some (.ref C_NotOneWay)
  kc_NotOneWay : PySem.W.keepIn K (.ref C_NotOneWay) = true
  E_NotOneWay : ExcC K C_NotOneWay
  ty_NotOneWay : PySem.W.typeIn K (.ref C_NotOneWay) = some (.type "type")
  in_NotOneWay : PySem.W.excIn K C_NotOneWay [.type "Exception", .type "BaseException", .type "object"] "Exception.__new__" = true
  cLaw : Addr
  pLaw : Addr
  co_law : fd_law.code = .ref cLaw
  ic_Loom : PySem.W.findIn K (.ref C_Loom) "__class__" = some (some (.builtin "object.__class__"))
  ig : PySem.W.specialIn K (.builtin "object.__class__") "__get__" = some (some (.builtin "getset_descriptor.__get__"))
  it : PySem.W.takesIn K (.builtin "object.__class__") = some true
  im_Loom : PySem.W.mroIn K C_Loom (.type "object") = some true
  eq_Loom : PySem.W.findIn K (.ref C_Loom) "__eq__" = some (some (.ref f_Loom_eq))
  fn_Loom_eq : PySem.W.isFn K (.ref f_Loom_eq) = true
  ne_Loom : PySem.W.findIn K (.ref C_Loom) "__ne__" = some (some (.builtin "object.__ne__"))
  cc_Loom : PySem.W.isClsIn K C_Loom = true
  ty_Loom : PySem.W.typeIn K (.ref C_Loom) = some (.type "type")
  cl_InvalidLoom : PySem.W.isClsIn K C_InvalidLoom = true
  cl_LimitExceeded : PySem.W.isClsIn K C_LimitExceeded = true
  cl_Unlike : PySem.W.isClsIn K C_Unlike = true
  cl_NotABook : PySem.W.isClsIn K C_NotABook = true
  cl_NotOneWay : PySem.W.isClsIn K C_NotOneWay = true
  su_Unlike_InvalidLoom : PySem.W.subIn K (.ref C_Unlike) (.ref C_InvalidLoom) = some false
  su_Unlike_NotABook : PySem.W.subIn K (.ref C_Unlike) (.ref C_NotABook) = some false
  su_Unlike_Unlike : PySem.W.subIn K (.ref C_Unlike) (.ref C_Unlike) = some true
  su_LimitExceeded_InvalidLoom : PySem.W.subIn K (.ref C_LimitExceeded) (.ref C_InvalidLoom) = some false
  su_LimitExceeded_NotABook : PySem.W.subIn K (.ref C_LimitExceeded) (.ref C_NotABook) = some false
  su_LimitExceeded_Unlike : PySem.W.subIn K (.ref C_LimitExceeded) (.ref C_Unlike) = some false
  su_LimitExceeded_NotOneWay : PySem.W.subIn K (.ref C_LimitExceeded) (.ref C_NotOneWay) = some false
  su_LimitExceeded_LimitExceeded : PySem.W.subIn K (.ref C_LimitExceeded) (.ref C_LimitExceeded) = some true
  nx_InvalidLoom_part : PySem.W.findIn K (.ref C_InvalidLoom) "part" = some none
  nx_InvalidLoom_at : PySem.W.findIn K (.ref C_InvalidLoom) "at" = some none
  nx_LimitExceeded_limit : PySem.W.findIn K (.ref C_LimitExceeded) "limit" = some none
end J

set_option Elab.async false
set_option linter.all false
set_option maxRecDepth 100000
set_option maxHeartbeats 4000000
namespace J
open PySem L2
/-! ### frames -/
def Ex (p : Addr) (H H' : Hp) : Prop := ∀ b o, b ≠ p → H b = some o → H' b = some o
theorem Ex.refl (p : Addr) (H : Hp) : Ex p H H := fun _ _ _ h => h
theorem Ex.trans {p : Addr} {H H1 H2 : Hp} (a : Ex p H H1) (b : Ex p H1 H2) : Ex p H H2 := fun c o n h => b c o n (a c o n h)
theorem Ex.upd {p : Addr} {H : Hp} (o : HO) : Ex p H (upd H p o) := fun c u n h => by rw [upd_ne n]; exact h
theorem Ex.new {p q : Addr} {H : Hp} (o : HO) (h : H q = none) : Ex p H (L2.upd H q o) := fun c u n e => by
  rw [upd_ne (ne_of_none e h)]; exact e
theorem Same.ex {p : Addr} {H H' : Hp} (s : Same H H') : Ex p H H' := fun c o _ h => s c o h
theorem Same.new {q : Addr} {H : Hp} (o : HO) (h : H q = none) : Same H (L2.upd H q o) := fun c u e => by
  rw [upd_ne (ne_of_none e h)]; exact e
theorem hp_ne {H : Hp} {p q : Addr} {o : HO} (h : H p = some o) (hq : H q = none) : q ≠ p := by
  intro z
  rw [z, h] at hq
  cases hq
theorem Ex.free {p q : Addr} {H H' : Hp} (x : Ex p H H') (hq : H' q = none) (n : q ≠ p) : H q = none := by
  cases e : H q with
  | none => rfl
  | some o => rw [x _ _ n e] at hq; cases hq
theorem Ex.updNew {p q : Addr} {H H' : Hp} {o : HO} (x : Ex p H H') (hq : H q = none) : Ex p H (L2.upd H' q o) := fun b u n e => by
  rw [upd_ne (ne_of_none e hq)]; exact x b u n e
theorem _root_.L2.Same.updNew {q : Addr} {H H' : Hp} {o : HO} (x : Same H H') (hq : H q = none) : Same H (L2.upd H' q o) := fun b u e => by
  rw [upd_ne (ne_of_none e hq)]; exact x b u e
/-! ### the pool of draws, and the script -/
def PoolAt (H : Hp) (p : Addr) : Prop := ∃ a b c d : Int, H p = some (.lst [.int a, .int b, .int c, .int d]) ∧ 0 ≤ a
/-- the script, as long as all but p stays -/
def Scr (K : PySem.W.Frag) (ns : List Int) (a : Addr) (H : Hp) (p : Addr) : Prop := ∀ H', Ex p H H' → SqL K H' a (ns.map V.int)
def St (K : PySem.W.Frag) (ns : List Int) (a : Addr) (H : Hp) (p : Addr) : Prop := PoolAt H p ∧ Scr K ns a H p
theorem Scr.ex {K : PySem.W.Frag} {ns : List Int} {a p : Addr} {H H' : Hp} (h : Scr K ns a H p) (x : Ex p H H') : Scr K ns a H' p := fun H2 y => h H2 (x.trans y)
theorem Scr.mk {K : PySem.W.Frag} {ns : List Int} {a p : Addr} {H : Hp} (h : SqL K H a (ns.map V.int)) (hp : H p = none) : Scr K ns a H p := fun H' x => by
  rcases h with h | h
  · refine .inl ?_
    rcases h with h | ⟨o, h⟩
    · exact .inl (x _ _ (fun z => hp_ne h hp z.symm) h)
    · exact .inr ⟨o, x _ _ (fun z => hp_ne h hp z.symm) h⟩
  · exact .inr h
theorem St.ex {K : PySem.W.Frag} {ns : List Int} {a p : Addr} {H H' : Hp} (h : St K ns a H p) (x : Ex p H H') (g : PoolAt H' p) : St K ns a H' p := ⟨g, h.2.ex x⟩
theorem PoolAt.same {H H' : Hp} {p : Addr} (h : PoolAt H p) (s : Same H H') : PoolAt H' p := by
  obtain ⟨a, b, c, d, h1, h2⟩ := h
  exact ⟨a, b, c, d, s _ _ h1, h2⟩
theorem St.same {K : PySem.W.Frag} {ns : List Int} {a p : Addr} {H H' : Hp} (h : St K ns a H p) (s : Same H H') : St K ns a H' p := ⟨h.1.same s, h.2.ex (Same.ex s)⟩
theorem St.ne {K : PySem.W.Frag} {ns : List Int} {a p q : Addr} {H : Hp} (h : St K ns a H p) (hq : H q = none) : q ≠ p := by
  obtain ⟨⟨a, b, c, d, h1, h2⟩, _⟩ := h
  exact hp_ne h1 hq
theorem St.upd {K : PySem.W.Frag} {ns : List Int} {a p q : Addr} {H0 H : Hp} {o : HO} (h0 : St K ns a H0 p) (h : St K ns a H p) (x : Ex p H0 (L2.upd H q o)) (n : q ≠ p) : St K ns a (L2.upd H q o) p := by
  obtain ⟨⟨a, b, c, d, h1, h2⟩, _⟩ := h
  exact ⟨⟨a, b, c, d, by rw [upd_ne n.symm]; exact h1, h2⟩, h0.2.ex x⟩
theorem fm_nonneg (a : Int) {b : Int} (h : 0 < b) : 0 ≤ a.fmod b := Int.fmod_nonneg_of_pos a h
theorem fm_lt (a : Int) {b : Int} (h : 0 < b) : a.fmod b < b := Int.fmod_lt_of_pos a h
theorem atI_ints {ns : List Int} {a : Int} (h0 : 0 ≤ a) (h1 : a < ns.length) : ∃ n, atI (ns.map V.int) a = some (V.int n) := by
  obtain ⟨j, rfl⟩ := Int.eq_ofNat_of_zero_le h0
  have hj : j < ns.length := by exact_mod_cast h1
  exact ⟨ns[j], atI_nat (by rw [List.getElem?_map, List.getElem?_eq_getElem hj]; rfl)⟩
def spTake (K : PySem.W.Frag) (ns : List Int) : Sp := fun vs H Q _ => ∃ (a p : Addr) (m : Int), vs = [.ref a, .ref p, .int m] ∧ St K ns a H p ∧ 0 < m ∧ m < 1073741824 ∧
  ∀ H' (r : Int), Ex p H H' → St K ns a H' p → 0 ≤ r → r < m → Q (.int r) H'
section
variable {P : Program} {w : World} {K : PySem.W.Frag} {mg : Str → Option Value} {base : Heap}
theorem ok_l_take (T : Tx K mg) (ns : List Int) : FnOk P w K mg base CX0 1 T.f_l_take T.fd_l_take P_l_take (spTake K ns) := by
  refine T.F_l_take.ok sc_l_take (fun vs H Q E h => ?_) (fun cdv A outer s H vs Q E hr h => ?_)
  · obtain ⟨a, p, m, rfl, _⟩ := h
    rfl
  · obtain ⟨a, p, m, rfl, hst, hm, hm2, k0⟩ := h
    have k : ∀ H' (r : Int), Ex p H H' → PoolAt H' p → 0 ≤ r → r < m → Q (.int r) H' := fun H' r x g => k0 H' r x (hst.ex x g)
    refine ⟨_, (pss_cons (ps_asg (pe_op op_add (pe_ix (ix_listK (K := K) rfl) (pv 1) pe_int (fun _ _ => rfl)) pe_int) (pg_sub (pv 1) pe_int set_list))
        (C8.pss_cut (ps_if (PW.pt (pw_and (pt_cmpR op_eq (pe_ix (ix_listK (K := K) rfl) (pv 1) pe_int (fun _ _ => rfl)) pe_int (nomark _)) (pw_and1 (pt_cmpR op_lt (pe_ix (ix_listK (K := K) rfl) (pv 1) pe_int (fun _ _ => rfl)) (pe_callB (call_len_seqK (K := K) rfl) rfl T.n_len (by decide +kernel) (pa_cons (pv 0) pa_nil)) (nomark _))))) (pss_cons (ps_set (i := 3) sc_l_take.nd rfl (Or.inl rfl) (pe_ix (ix_listK (K := K) rfl) (pv 0) (pe_ix (ix_listK (K := K) rfl) (pv 1) pe_int (fun _ _ => rfl)) (fun _ _ => rfl)))
        (pss_cons (ps_asg (pe_op op_add (pe_ix (ix_listK (K := K) rfl) (pv 1) pe_int (fun _ _ => rfl)) pe_int) (pg_sub (pv 1) pe_int set_list))
        (C8.pss_cut (ps_if (pt_cmpR op_lt (pv 3) pe_int (nomark _)) (pss_one (ps_set (i := 3) sc_l_take.nd rfl (Or.inl rfl) (pe_un un_neg (pv 3)))) pss_nil)
        (pss_one (ps_if (pt_cmpR op_ge (pv 3) (pe_op op_pow pe_int pe_int) (nomark _)) (pss_one (ps_asg (pv 3) (pg_sub (pv 1) pe_int set_list))) (pss_one (ps_asg (pe_op op_modN (pe_callTy call_int1 rfl T.n_int (by decide +kernel) (pa_cons (pe_op op_add (pe_op op_add (pe_op op_mul (pe_ix (ix_listK (K := K) rfl) (pv 1) pe_int (fun _ _ => rfl)) pe_int) (pv 3)) pe_int) pa_nil)) pe_int) (pg_sub (pv 1) pe_int set_list)))))))) pss_nil)
        (pss_cons (ps_if (pt_cmpR op_gt (pe_ix (ix_listK (K := K) rfl) (pv 1) pe_int (fun _ _ => rfl)) pe_int (nomark _)) (pss_cons (ps_set (i := 4) sc_l_take.nd rfl (Or.inl rfl) (pe_op op_modN (pe_callTy call_int1 rfl T.n_int (by decide +kernel) (pa_cons (pe_ix (ix_listK (K := K) rfl) (pv 1) pe_int (fun _ _ => rfl)) pa_nil)) (pv 2)))
        (pss_cons (ps_asg (pe_op op_fdivN (pe_ix (ix_listK (K := K) rfl) (pv 1) pe_int (fun _ _ => rfl)) (pv 2)) (pg_sub (pv 1) pe_int set_list))
        (pss_one (ps_ret (pv 4))))) pss_nil)
        (pss_cons (ps_set (i := 5) sc_l_take.nd rfl (Or.inl rfl) (pe_op op_modN (pe_op op_mul (pe_callTy call_int1 rfl T.n_int (by decide +kernel) (pa_cons (pe_op op_add (pe_op op_add (pe_ix (ix_listK (K := K) rfl) (pv 1) pe_int (fun _ _ => rfl)) (pe_op op_mul pe_int (pe_ix (ix_listK (K := K) rfl) (pv 1) pe_int (fun _ _ => rfl)))) pe_int) pa_nil)) pe_int) pe_int))
        (pss_cons (ps_set (i := 5) sc_l_take.nd rfl (Or.inl rfl) (pe_op op_modN (pe_callTy call_int1 rfl T.n_int (by decide +kernel) (pa_cons (pe_op op_mul (pv 5) (pe_op op_add (pe_op op_fdivN (pv 5) pe_int) pe_int)) pa_nil)) pe_int))
        (pss_cons (ps_set (i := 5) sc_l_take.nd rfl (Or.inl rfl) (pe_op op_modN (pe_callTy call_int1 rfl T.n_int (by decide +kernel) (pa_cons (pe_op op_mul (pv 5) (pe_op op_add (pe_op op_fdivN (pv 5) pe_int) pe_int)) pa_nil)) pe_int))
        (pss_one (ps_ret (pe_op op_modN (pe_callTy call_int1 rfl T.n_int (by decide +kernel) (pa_cons (pe_op op_fdivN (pv 5) pe_int) pa_nil)) (pv 2)))))))))), ?_⟩
    obtain ⟨⟨b0, b1, b2, b3, hp, h0⟩, hS⟩ := hst
    refine ⟨_, rfl, _, _, _, _, rfl, rfl, SqL.of hp, rfl, _, _, rfl, rfl, _, rfl, p, _, _, _, rfl, rfl, hp, rfl, ?_⟩
    refine ⟨fun σ' H' => (∃ v, σ' = [some (.ref a), some (.ref p), some (.int m), v, none, none]) ∧ Ex p H H' ∧ PoolAt H' p, ?_, ?_⟩
    · refine ⟨_, rfl, _, _, _, _, rfl, rfl, SqL.of upd_same, rfl, rfl, _, rfl, ?_⟩
      refine ite2 (fun c1 => ?_) (fun c1 => ?_)
      · refine ⟨_, rfl, _, _, _, _, rfl, rfl, SqL.of upd_same, rfl, _, rfl, a, _, rfl, .inl (hS _ (Ex.upd _)), _, _, rfl, rfl, _, rfl, ?_⟩
        refine ite2 (fun c2 => ?_) (fun c2 => ?_)
        · rw [List.length_map] at c2
          obtain ⟨n, hn⟩ := atI_ints (ns := ns) h0 (by simpa using c2)
          refine ⟨_, rfl, _, rfl, _, _, _, _, rfl, rfl, SqL.of upd_same, rfl, a, _, _, _, rfl, rfl, hS _ (Ex.upd _), hn, ?_⟩
          refine ⟨_, rfl, _, _, _, _, rfl, rfl, SqL.of upd_same, rfl, _, _, rfl, rfl, _, rfl, p, _, _, _, rfl, rfl, upd_same, rfl, ?_⟩
          refine ⟨fun σ' H' => (∃ z : Int, σ' = [some (.ref a), some (.ref p), some (.int m), some (.int z), none, none]) ∧ Ex p H H' ∧ PoolAt H' p, ?_, ?_⟩
          · refine ⟨_, rfl, _, _, rfl, rfl, _, rfl, ?_⟩
            refine ite2 (fun c3 => ?_) (fun c3 => ?_)
            · exact ⟨_, rfl, _, rfl, ⟨_, rfl⟩, (Ex.upd _).trans (Ex.upd _), _, _, _, _, upd_same, by omega⟩
            · exact ⟨⟨_, rfl⟩, (Ex.upd _).trans (Ex.upd _), _, _, _, _, upd_same, by omega⟩
          · rintro σ' H' ⟨⟨z, rfl⟩, x1, c0, c1, c2, c3, hp1, h1⟩
            refine ⟨_, rfl, _, _, rfl, rfl, ⟨by decide, by decide, by decide⟩, _, _, rfl, rfl, _, rfl, ?_⟩
            refine ite2 (fun c3 => ?_) (fun c3 => ?_)
            · exact ⟨_, rfl, _, rfl, p, _, _, _, rfl, rfl, hp1, rfl, ⟨_, rfl⟩, x1.trans (Ex.upd _), _, _, _, _, upd_same, h1⟩
            · refine ⟨_, rfl, _, _, _, _, rfl, rfl, SqL.of hp1, rfl, _, _, rfl, rfl, .inr (by decide), _, rfl, _, _, rfl, rfl, _, _, rfl, rfl, .inl ⟨_, rfl, _, _, rfl, rfl, (by decide : (1000000007 : Int) ≠ 0), ?_⟩⟩
              exact ⟨_, rfl, p, _, _, _, rfl, rfl, hp1, rfl, ⟨_, rfl⟩, x1.trans (Ex.upd _), _, _, _, _, upd_same, h1⟩
        · exact ⟨⟨_, rfl⟩, Ex.upd _, _, _, _, _, upd_same, h0⟩
      · exact iteF ⟨⟨_, rfl⟩, Ex.upd _, _, _, _, _, upd_same, h0⟩
    · rintro σ' H1 ⟨⟨v, rfl⟩, x1, c0, c1, c2, c3, hp1, h1⟩
      refine ⟨_, rfl, _, _, _, _, rfl, rfl, SqL.of hp1, rfl, _, _, rfl, rfl, _, rfl, ?_⟩
      refine ite2 (fun d1 => ?_) (fun d1 => ?_)
      · refine ⟨_, rfl, _, _, _, _, rfl, rfl, SqL.of hp1, rfl, .inl ⟨_, rfl, _, rfl, _, _, rfl, rfl, by omega, ?_⟩⟩
        refine ⟨_, rfl, _, _, _, _, rfl, rfl, SqL.of hp1, rfl, _, rfl, _, _, rfl, rfl, ⟨by omega, by omega⟩, _, rfl, p, _, _, _, rfl, rfl, hp1, rfl, ?_⟩
        exact ⟨_, rfl, k _ _ (x1.trans (Ex.upd _)) ⟨_, _, _, _, upd_same, h1⟩ (fm_nonneg _ hm) (fm_lt _ hm)⟩
      · have hx0 := fm_nonneg ((c3 + 7919 * c2 + 1) * 48271) (b := 2147483647) (by decide)
        have hx1 := fm_lt ((c3 + 7919 * c2 + 1) * 48271) (b := 2147483647) (by decide)
        refine ⟨_, rfl, _, _, _, _, rfl, rfl, SqL.of hp1, rfl, _, rfl, _, _, _, _, rfl, rfl, SqL.of hp1, rfl, _, _, rfl, rfl, .inl (by decide), _, _, rfl, rfl, _, _, rfl, rfl, .inl ⟨_, rfl, _, _, rfl, rfl, .inr (by decide), _, _, rfl, rfl, (by decide : (2147483647 : Int) ≠ 0), ?_⟩⟩
        refine ⟨_, rfl, _, rfl, _, _, rfl, rfl, ⟨by decide, by decide⟩, _, _, rfl, rfl, _, _, rfl, rfl, .inl ⟨Int.lt_of_lt_of_le (by decide) hx0, Int.lt_trans hx1 (by decide)⟩, .inl ⟨_, rfl, _, _, rfl, rfl, (by decide : (2147483629 : Int) ≠ 0), ?_⟩⟩
        refine ⟨_, rfl, _, rfl, _, _, rfl, rfl, ⟨by decide, by decide⟩, _, _, rfl, rfl, _, _, rfl, rfl, .inl ⟨Int.lt_of_lt_of_le (by decide) (fm_nonneg _ (by decide)), Int.lt_trans (fm_lt _ (by decide)) (by decide)⟩, .inl ⟨_, rfl, _, _, rfl, rfl, (by decide : (2147483399 : Int) ≠ 0), ?_⟩⟩
        refine ⟨_, rfl, _, _, rfl, rfl, ⟨by decide, by decide⟩, .inl ⟨_, rfl, _, rfl, _, _, rfl, rfl, by omega, ?_⟩⟩
        exact k _ _ x1 ⟨_, _, _, _, hp1, h1⟩ (fm_nonneg _ hm) (fm_lt _ hm)
end
end J


set_option Elab.async false
set_option linter.all false
set_option maxRecDepth 100000
set_option maxHeartbeats 4000000
namespace J
open PySem L2
theorem joinL_nil : ∀ ys : List (List Nat), TL.joinL [] ys = ys.flatten
  | [] => rfl
  | [p] => by simp [TL.joinL]
  | p :: q :: r => by
    show p ++ ([] ++ TL.joinL [] (q :: r)) = _
    rw [joinL_nil (q :: r)]
    simp
theorem join_flat (ys : List (List Nat)) : Txt.join (SX.S []) (ys.map SX.S) = SX.S ys.flatten := by rw [SX.join_S, joinL_nil]
theorem emptyS : Str.ofString "" = SX.S [] := rfl
theorem sum_ones (us : List Nat) : ((us.map fun c => SX.S [c]).map (·.length)).sum = us.length := by
  induction us with
  | nil => rfl
  | cons a r ih => simp only [List.map_cons, List.sum_cons, ih, SX.S_len, List.length_cons, List.length_nil]; omega
theorem atI_mem {α : Type} {xs : List α} {i : Int} (h0 : 0 ≤ i) (h1 : i < xs.length) : ∃ v, v ∈ xs ∧ atI xs i = some v := by
  obtain ⟨j, rfl⟩ := Int.eq_ofNat_of_zero_le h0
  have hj : j < xs.length := by exact_mod_cast h1
  exact ⟨xs[j], List.getElem_mem hj, atI_nat (List.getElem?_eq_getElem hj)⟩
/-- signs: one to four small letters, ascending -/
def Signs (sg : List Nat) : Prop := 1 ≤ sg.length ∧ sg.length ≤ 4 ∧ (∀ c ∈ sg, 97 ≤ c ∧ c ≤ 122) ∧ sg.Pairwise (· < ·)
instance (sg : List Nat) : Decidable (Signs sg) := by unfold Signs; infer_instance
theorem Signs.len {sg : List Nat} (h : Signs sg) : 1 ≤ sg.length ∧ sg.length ≤ 4 := ⟨h.1, h.2.1⟩
/-- a word over the signs -/
def Word (sg u : List Nat) : Prop := 1 ≤ u.length ∧ u.length ≤ 12 ∧ ∀ c ∈ u, c ∈ sg
def txts (ws : List (List Nat)) : List V := ws.map fun u => V.str (SX.S u)
def spSignsOf (K : PySem.W.Frag) (ns : List Int) : Sp := fun vs H Q _ => ∃ (a p : Addr), vs = [.ref a, .ref p] ∧ St K ns a H p ∧ ∀ H' sg, Ex p H H' → St K ns a H' p → Signs sg → Q (.str (SX.S sg)) H'
def spWord (K : PySem.W.Frag) (ns : List Int) : Sp := fun vs H Q _ => ∃ (a p : Addr) (sg : List Nat) (m : Int), vs = [.ref a, .ref p, .str (SX.S sg), .int m] ∧ St K ns a H p ∧ Signs sg ∧ 0 < m ∧ m ≤ 12 ∧
  ∀ H' u, Ex p H H' → St K ns a H' p → Word sg u → (u.length : Int) ≤ m → Q (.str (SX.S u)) H'
def spWords (K : PySem.W.Frag) (ns : List Int) : Sp := fun vs H Q _ => ∃ (a p : Addr) (sg : List Nat) (n m : Int), vs = [.ref a, .ref p, .str (SX.S sg), .int n, .int m] ∧ St K ns a H p ∧ Signs sg ∧ 0 < n ∧ n ≤ 1000 ∧ 0 < m ∧ m ≤ 12 ∧
  ∀ H' (q : Addr) us, Ex p H H' → St K ns a H' p → H q = none → q ≠ p → H' q = some (.lst (txts us)) → (∀ u ∈ us, Word sg u ∧ (u.length : Int) ≤ m) → 1 ≤ us.length → (us.length : Int) ≤ n → Q (.ref q) H'
theorem le_size {n : Nat} (h : n ≤ 100000) : n ≤ sizeLine := Nat.le_trans h (by decide)
theorem lt_size {n : Nat} (h : n ≤ 100000) : n < sizeLine := Nat.lt_of_le_of_lt h (by decide)
theorem signs_menu {v : V} (h : v ∈ ([.str "ab", .str "ab", .str "abc", .str "xz", .str "a", .str "bdfh"] : List V)) : ∃ sg, v = .str (SX.S sg) ∧ Signs sg := by
  simp only [List.mem_cons, List.not_mem_nil, or_false] at h
  rcases h with rfl | rfl | rfl | rfl | rfl | rfl
  · exact ⟨[97, 98], rfl, by decide⟩
  · exact ⟨[97, 98], rfl, by decide⟩
  · exact ⟨[97, 98, 99], rfl, by decide⟩
  · exact ⟨[120, 122], rfl, by decide⟩
  · exact ⟨[97], rfl, by decide⟩
  · exact ⟨[98, 100, 102, 104], rfl, by decide⟩
section
variable {P : Program} {w : World} {K : PySem.W.Frag} {mg : Str → Option Value} {base : Heap}
theorem ok_l_signs (T : Tx K mg) (ns : List Int) : FnOk P w K mg base CX0 2 T.f_l_signs T.fd_l_signs P_l_signs (spSignsOf K ns) := by
  have G_l_take : FnOk P w K mg base CX0 1 T.f_l_take T.fd_l_take P_l_take (spTake K ns) := ok_l_take T ns
  refine T.F_l_signs.ok sc_l_signs (fun vs H Q E h => ?_) (fun cdv A outer s H vs Q E hr h => ?_)
  · obtain ⟨a, p, rfl, _⟩ := h
    rfl
  · obtain ⟨a, p, rfl, hst, k⟩ := h
    refine ⟨_, (pss_one (ps_ret (pe_ix (ix_listK (K := K) rfl) (pe_lst (pa_cons pe_str (pa_cons pe_str (pa_cons pe_str (pa_cons pe_str (pa_cons pe_str (pa_cons pe_str pa_nil))))))) (pe_call G_l_take (hr.mono (by decide)) rfl T.m_l_take T.F_l_take.kp T.b_l_take .nil pass0 (pa_cons (pv 0) (pa_cons (pv 1) (pa_cons pe_int pa_nil)))) (fun _ _ => rfl)))), ?_⟩
    refine ⟨le_size (by simp), fun l hl => ?_⟩
    have nl := hst.ne hl
    refine ⟨_, rfl, _, rfl, a, p, 6, rfl, hst.same (Same.new _ hl), by decide, by decide, fun H1 r x1 st1 r0 r1 => ?_⟩
    obtain ⟨v, hv, hat⟩ := atI_mem (xs := ([.str "ab", .str "ab", .str "abc", .str "xz", .str "a", .str "bdfh"] : List V)) r0 (by simpa using r1)
    obtain ⟨sg, rfl, hs⟩ := signs_menu hv
    exact ⟨l, _, _, _, rfl, rfl, SqL.of (x1 _ _ nl upd_same), hat, k _ _ ((Ex.new _ hl).trans x1) st1 hs⟩
theorem ok_l_word (T : Tx K mg) (ns : List Int) : FnOk P w K mg base CX0 2 T.f_l_word T.fd_l_word P_l_word (spWord K ns) := by
  have G_l_take : FnOk P w K mg base CX0 1 T.f_l_take T.fd_l_take P_l_take (spTake K ns) := ok_l_take T ns
  refine T.F_l_word.ok sc_l_word (fun vs H Q E h => ?_) (fun cdv A outer s H vs Q E hr h => ?_)
  · obtain ⟨a, p, sg, m, rfl, _⟩ := h
    rfl
  · obtain ⟨a, p, sg, m, rfl, hst, hsg, hm, hm2, k⟩ := h
    refine ⟨_, (pss_one (ps_ret (pe_join pe_str (pe_lc (own := [("_law_k", 4)]) (g := (gName 4)) rfl sc_l_word.nd (pi_range1 rfl T.n_range (pa_cons (pe_op op_add pe_int (pe_call G_l_take (hr.mono (by decide)) rfl T.m_l_take T.F_l_take.kp T.b_l_take .nil pass0 (pa_cons (pv 0) (pa_cons (pv 1) (pa_cons (pv 3) pa_nil))))) pa_nil)) (blkOk_by (N := N_l_word) (sc := defScope s_l_word) (by decide +kernel)) (fun _ _ _ _ _ => (pg_name (i := 4) sc_l_word.nd rfl (Or.inl rfl))) (fun _ _ _ _ _ => pts_nil) (fun _ _ _ _ _ => (pe_ix ix_str (pv 2) (pe_call G_l_take (hr.mono (by decide)) rfl T.m_l_take T.F_l_take.kp T.b_l_take .nil pass0 (pa_cons (pv 0) (pa_cons (pv 1) (pa_cons (pe_callB call_len_str rfl T.n_len (by decide +kernel) (pa_cons (pv 2) pa_nil)) pa_nil)))) (fun _ _ => rfl))))))), ?_⟩
    have hlen := hsg.len
    refine ⟨⟨_, rfl⟩, _, rfl, _, rfl, _, rfl, a, p, m, rfl, hst, hm, by omega, fun H1 r x1 st1 r0 r1 => ⟨_, _, rfl, rfl, ?_⟩⟩
    refine ⟨_, rfl, by omega, by omega, fun D hD => lc_range (lo := 0) (n := (1 + r).toNat) (fun i H' => ∃ us : List Nat, us.length = i ∧ (∀ c ∈ us, c ∈ sg) ∧ H' D = some (.lst ((us.map fun c => SX.S [c]).map V.str)) ∧ Ex p H H' ∧ St K ns a H' p) ?_ ?_ ?_⟩
    · exact ⟨[], rfl, fun _ h => (nomatch h), upd_same, x1.trans (Ex.new _ hD), st1.same (Same.new _ hD)⟩
    · rintro i H2 hi ⟨us, rfl, hu, hDs, x2, st2⟩
      refine ⟨rfl, ?_⟩
      refine ⟨_, rfl, _, rfl, _, rfl, _, rfl, _, rfl, le_size (by rw [SX.S_len]; omega), a, p, _, rfl, st2, by rw [SX.S_len]; omega, by rw [SX.S_len]; omega, fun H3 r3 x3 st3 r30 r31 => ?_⟩
      rw [SX.S_len] at r31
      obtain ⟨c, hc, hat⟩ := atI_mem (xs := sg) r30 r31
      have nD := st1.ne hD
      have hD0 := x1.free hD nD
      refine ⟨_, _, c, rfl, rfl, le_size (by rw [SX.S_len]; omega), hat, _, x3 _ _ nD hDs, lt_size (by simp; omega), us ++ [c], by simp, ?_, ?_, (x2.trans x3).updNew hD0, hst.upd st3 ((x2.trans x3).updNew hD0) nD⟩
      · intro d hd
        rcases List.mem_append.mp hd with h | h
        · exact hu d h
        · rw [List.mem_singleton.mp h]; exact hc
      · rw [upd_same]; simp
    · rintro H2 ⟨us, hl, hu, hDs, x2, st2⟩
      have hf : ∀ l : List Nat, (l.map fun c => [c]).flatten = l := fun l => by induction l with
        | nil => rfl
        | cons a l ih => simpa using ih
      refine ⟨_, _, us.map fun c => SX.S [c], rfl, rfl, .inl (SqL.of hDs), ?_, ?_⟩
      · rw [sum_ones, emptyS, SX.S_len]
        simp
        omega
      · have e : us.map (fun c => SX.S [c]) = (us.map fun c => [c]).map SX.S := by rw [List.map_map]; rfl
        rw [e, emptyS, join_flat, hf]
        exact k _ us x2 st2 ⟨by omega, by omega, hu⟩ (by omega)
theorem ok_l_words (T : Tx K mg) (ns : List Int) : FnOk P w K mg base CX0 3 T.f_l_words T.fd_l_words P_l_words (spWords K ns) := by
  have G_l_take : FnOk P w K mg base CX0 1 T.f_l_take T.fd_l_take P_l_take (spTake K ns) := ok_l_take T ns
  have G_l_word : FnOk P w K mg base CX0 2 T.f_l_word T.fd_l_word P_l_word (spWord K ns) := ok_l_word T ns
  refine T.F_l_words.ok sc_l_words (fun vs H Q E h => ?_) (fun cdv A outer s H vs Q E hr h => ?_)
  · obtain ⟨a, p, sg, n, m, rfl, _⟩ := h
    rfl
  · obtain ⟨a, p, sg, n, m, rfl, hst, hsg, hn, hn2, hm, hm2, k⟩ := h
    refine ⟨_, (pss_one (ps_ret (pe_lc (own := [("_law_k", 5)]) (g := (gName 5)) rfl sc_l_words.nd (pi_range1 rfl T.n_range (pa_cons (pe_op op_add pe_int (pe_call G_l_take (hr.mono (by decide)) rfl T.m_l_take T.F_l_take.kp T.b_l_take .nil pass0 (pa_cons (pv 0) (pa_cons (pv 1) (pa_cons (pv 3) pa_nil))))) pa_nil)) (blkOk_by (N := N_l_words) (sc := defScope s_l_words) (by decide +kernel)) (fun _ _ _ _ _ => (pg_name (i := 5) sc_l_words.nd rfl (Or.inl rfl))) (fun _ _ _ _ _ => pts_nil) (fun _ _ _ _ _ => (pe_call G_l_word (hr.mono (by decide)) rfl T.m_l_word T.F_l_word.kp T.b_l_word .nil pass0 (pa_cons (pv 0) (pa_cons (pv 1) (pa_cons (pv 2) (pa_cons (pv 4) pa_nil))))))))), ?_⟩
    refine ⟨_, rfl, _, rfl, _, rfl, a, p, n, rfl, hst, hn, by omega, fun H1 r x1 st1 r0 r1 => ⟨_, _, rfl, rfl, ?_⟩⟩
    refine ⟨_, rfl, by omega, by omega, fun D hD => lc_range (lo := 0) (n := (1 + r).toNat) (fun i H' => ∃ us : List (List Nat), us.length = i ∧ (∀ u ∈ us, Word sg u ∧ (u.length : Int) ≤ m) ∧ H' D = some (.lst (txts us)) ∧ Ex p H H' ∧ St K ns a H' p) ?_ ?_ ?_⟩
    · exact ⟨[], rfl, fun _ h => (nomatch h), upd_same, x1.trans (Ex.new _ hD), st1.same (Same.new _ hD)⟩
    · rintro i H2 hi ⟨us, rfl, hu, hDs, x2, st2⟩
      have nD := st1.ne hD
      have hD0 := x1.free hD nD
      refine ⟨rfl, ?_⟩
      refine ⟨_, rfl, _, rfl, _, rfl, _, rfl, a, p, sg, m, rfl, st2, hsg, hm, hm2, fun H3 u x3 st3 hw hl => ?_⟩
      refine ⟨_, x3 _ _ nD hDs, lt_size (by rw [txts, List.length_map]; omega), us ++ [u], by simp, ?_, ?_, (x2.trans x3).updNew hD0, hst.upd st3 ((x2.trans x3).updNew hD0) nD⟩
      · intro d hd
        rcases List.mem_append.mp hd with h | h
        · exact hu d h
        · rw [List.mem_singleton.mp h]; exact ⟨hw, hl⟩
      · rw [upd_same]; simp [txts]
    · rintro H2 ⟨us, hl, hu, hDs, x2, st2⟩
      have nD := st1.ne hD
      exact k _ D us x2 st2 (x1.free hD nD) nD hDs hu (by omega) (by omega)
end
end J


set_option Elab.async false
set_option linter.all false
set_option maxRecDepth 100000
set_option maxHeartbeats 4000000
namespace J
open PySem L2
abbrev Arc := Nat × List Nat × Nat
def arcHO (a : Arc) : HO := .tup [.int (a.1 : Int), .str (SX.S a.2.1), .int (a.2.2 : Int)]
def Arcs (H : Hp) (vs : List V) (as : List Arc) : Prop := vs.length = as.length ∧ ∀ (i : Nat) (a : Arc), as[i]? = some a → ∃ t, vs[i]? = some (V.ref t) ∧ H t = some (arcHO a)
theorem Arcs.same {H H' : Hp} {vs : List V} {as : List Arc} (h : Arcs H vs as) (s : Same H H') : Arcs H' vs as :=
  ⟨h.1, fun i a e => by obtain ⟨t, h1, h2⟩ := h.2 i a e; exact ⟨t, h1, s _ _ h2⟩⟩
theorem Arcs.ex {H H' : Hp} {p : Addr} {xs : List V} {vs : List V} {as : List Arc} (h : Arcs H vs as) (x : Ex p H H') (hp : H p = some (.lst xs)) : Arcs H' vs as :=
  ⟨h.1, fun i a e => by
    obtain ⟨t, h1, h2⟩ := h.2 i a e
    exact ⟨t, h1, x _ _ (fun z => by rw [z, hp] at h2; cases h2) h2⟩⟩
theorem Arcs.snoc {H : Hp} {vs : List V} {as : List Arc} {t : Addr} {a : Arc} (h : Arcs H vs as) (ht : H t = some (arcHO a)) : Arcs H (vs ++ [V.ref t]) (as ++ [a]) := by
  refine ⟨by simp [h.1], fun i b e => ?_⟩
  by_cases hi : i < as.length
  · rw [List.getElem?_append_left hi] at e
    rw [List.getElem?_append_left (by rw [h.1]; exact hi)]
    exact h.2 i b e
  · rw [List.getElem?_append_right (by omega)] at e
    have e0 : i - as.length = 0 := by
      have q := (List.getElem?_eq_some_iff.mp e).1
      simp at q
      omega
    rw [e0] at e
    cases e
    refine ⟨t, ?_, ht⟩
    rw [List.getElem?_append_right (by rw [h.1]; omega), h.1, e0]
    rfl
theorem Arcs.updL {H : Hp} {vs xs : List V} {as : List Arc} {p : Addr} {o : HO} (h : Arcs H vs as) (hp : H p = some (.lst xs)) : Arcs (upd H p o) vs as := h.ex (Ex.upd o) hp

theorem Arcs.nil (H : Hp) : Arcs H [] [] := ⟨rfl, fun i a e => by simp at e⟩
theorem ex_upd_lst {p : Addr} {H : Hp} {o : HO} : Ex p H (upd H p o) := Ex.upd o
def OkArc (sg : List Nat) (a : Arc) : Prop := a.1 ≤ 63 ∧ Word sg a.2.1 ∧ a.2.2 ≤ 63
def OkArcs (sg : List Nat) (as : List Arc) : Prop := 1 ≤ as.length ∧ as.length ≤ 13 ∧ (∀ a ∈ as, OkArc sg a) ∧ ∃ a : Arc, as[0]? = some a ∧ a.1 = 0
end J


set_option Elab.async false
set_option linter.all false
set_option maxRecDepth 100000
set_option maxHeartbeats 4000000
/-! zip of two texts, in a for and in a comprehension -/
namespace L2
open PySem PySem.Spec PyProof.Rows
/-- two texts at once, the signs in new pairs -/
def ItzS (x y : Str) : It :=
  ⟨fun i _ => i < min x.cps.size y.cps.size,
    fun i H v H' => ∃ T c d, v = .ref T ∧ H T = none ∧ H' = upd H T (.tup [.str ⟨#[c]⟩, .str ⟨#[d]⟩]) ∧ x.cps[i]? = some c ∧ y.cps[i]? = some d,
    fun i _ => i = min x.cps.size y.cps.size⟩
theorem turn_zipS {P : Program} {w : World} {K : PySem.W.Frag} {elts : List Expr} {kk : Nat} {tpos : Pos} {x y : Str} {t1 t2 : Tok} {z TI TO i1 i2 : Addr} (D : ZipSep2 z TI TO i1 i2 [i1] [i2]) :
    Turn P w K (.Tuple elts kk tpos) (ItzS x y) [z, TI, TO, i1, i2] z (fun i h => IsZip h z TI TO .none ∧ IsTupOf2 h TI (.ref i1) (.ref i2) ∧ (∃ x y, IsTupOf2 h TO x y) ∧ h.IsStrIter i1 (strIterType x) x t1 i ∧ h.IsStrIter i2 (strIterType y) y t2 i) where
  mem := by simp
  obj := fun i h st c hc => by
    obtain ⟨hz, hTI, ⟨x, y, hTO⟩, ⟨o1, e1, _, d1⟩, ⟨o2, e2, _, d2⟩⟩ := st
    have e' : c = z ∨ c = TI ∨ c = TO ∨ c = i1 ∨ c = i2 := by simpa using hc
    rcases e' with q | q | q | q | q
    · rw [q]; exact ⟨_, hz, fun v q => nomatch q⟩
    · rw [q]; exact ⟨_, hTI, fun v q => nomatch q⟩
    · rw [q]; exact ⟨_, hTO, fun v q => nomatch q⟩
    · rw [q]; exact ⟨o1, e1, fun v q => by rw [d1] at q; cases q⟩
    · rw [q]; exact ⟨o2, e2, fun v q => by rw [d2] at q; cases q⟩
  keep := fun i h h' st k => by
    obtain ⟨hz, hTI, ⟨x, y, hTO⟩, ⟨o1, e1, r1⟩, ⟨o2, e2, r2⟩⟩ := st
    exact ⟨k z (by simp) _ hz, k TI (by simp) _ hTI, ⟨x, y, k TO (by simp) _ hTO⟩, ⟨o1, k i1 (by simp) _ e1, r1⟩, ⟨o2, k i2 (by simp) _ e2, r2⟩⟩
  item := by
    intro X hP hw hK hc i pins s σ H E I hf st hg
    subst hP hw hK
    obtain ⟨hz, hTI, ⟨x0, y0, hTO⟩, h1, h2⟩ := st
    have hg' : i < min x.cps.size y.cps.size := hg
    have hzl : z < s.heap.objs.size := Heap.lt_size hz
    have hd := I.ok.hd hc
    refine wpAny_pyNext_zipD2_item D (Draws.text (A := X.A.in1) hd i1 x t1) (Draws.text (A := X.A.in1) hd i2 y t2) hz hTI hTO h1 h2 (by omega) (by omega) fun u u2 h' tk p1 p2 z' TO' h1' h2' hT hsz hk => ?_
    obtain ⟨c, tc, hcx, rfl⟩ := p1
    obtain ⟨d, td, hdy, rfl⟩ := p2
    refine ⟨_, rfl, wpAny_letOwnedTupleGo_zip (s := { s with heap := h', toks := tk }) z' fun h'' z'' sb => ?_⟩
    have hT2 : h''.get? s.heap.objs.size = some { cls := .type "tuple", data := .seq #[.str ⟨#[c]⟩ tc, .str ⟨#[d]⟩ td] } := (sb.2 _ (Nat.ne_of_gt hzl)).trans hT
    have new : ObjOk X.prog X.w (upd H s.heap.objs.size (.tup [.str ⟨#[c]⟩, .str ⟨#[d]⟩])) h'' s.heap.objs.size (.tup [.str ⟨#[c]⟩, .str ⟨#[d]⟩]) :=
      ⟨by show 2 ≤ sizeLine; decide, [.str ⟨#[c]⟩ tc, .str ⟨#[d]⟩ td], .cons ⟨_, rfl⟩ (.cons ⟨_, rfl⟩ .nil), ⟨_, hT2, rfl, _, rfl⟩⟩
    have I1 : Inv X pins σ (upd H s.heap.objs.size (.tup [.str ⟨#[c]⟩, .str ⟨#[d]⟩])) { s with heap := h'', toks := tk } :=
      I.turnedNew (t' := tk) (ch := [z, TI, TO, i1, i2]) (fun c o hb q => (sb.2 c (fun q' => hb (by simp [q']))).trans (hk c o (fun q' => hb (by simp [q'])) (fun q' => hb (by simp [q'])) (fun q' => hb (by simp [q'])) (fun q' => hb (by simp [q'])) q)) hf (Nat.le_refl _) new
    have nz1 : i1 ≠ z := D.zi1.symm
    have nz2 : i2 ≠ z := D.zi2.symm
    refine ⟨.ref s.heap.objs.size, _, I1, rfl, ⟨_, c, d, rfl, I.hok.fresh (Nat.le_refl _), rfl, hcx, hdy⟩, ⟨z'', ?_, ⟨_, _, (sb.2 _ D.TOz).trans TO'⟩, ?_, ?_⟩, fun c hcm => ?_⟩
    · exact (sb.2 _ D.TIz).trans (hk _ _ D.TIz D.TITO D.TIi1 D.TIi2 hTI)
    · obtain ⟨o, e, r⟩ := h1'
      exact ⟨o, (sb.2 _ nz1).trans e, r⟩
    · obtain ⟨o, e, r⟩ := h2'
      exact ⟨o, (sb.2 _ nz2).trans e, r⟩
    · have hlt : c < s.heap.objs.size := by
        have e' : c = z ∨ c = TI ∨ c = TO ∨ c = i1 ∨ c = i2 := by simpa using hcm
        rcases e' with q | q | q | q | q
        · rw [q]; exact hzl
        · rw [q]; exact Heap.lt_size hTI
        · rw [q]; exact Heap.lt_size hTO
        · rw [q]; obtain ⟨_, e1, _⟩ := h1; exact Heap.lt_size e1
        · rw [q]; obtain ⟨_, e2, _⟩ := h2; exact Heap.lt_size e2
      rw [upd_ne (Nat.ne_of_lt hlt)]
      exact (hf c hcm).1
  done := by
    intro X hP hw hK hc i pins s σ H E I hf st hg
    subst hP hw hK
    obtain ⟨hz, hTI, ⟨x0, y0, hTO⟩, h1, h2⟩ := st
    have hg' : i = min x.cps.size y.cps.size := hg
    have hd := I.ok.hd hc
    exact wpAny_pyNext_zipD2_end D (Draws.text (A := X.A.in1) hd i1 x t1) (Draws.text (A := X.A.in1) hd i2 y t2) hz hTI hTO h1 h2 (by omega) (by omega) (by omega) fun h' tk hk => ⟨rfl, I.turnedL (t' := tk) (ch := [z, TI, TO, i1, i2]) (fun c o hb q =>
      hk c o (fun q' => hb (by simp [q'])) (fun q' => hb (by simp [q'])) (fun q' => hb (by simp [q'])) (fun q' => hb (by simp [q'])) q) hf⟩
  self := fun A i s Q E st h => wpAny_pyIter_zip st.1 h
def iZipS (ta : TA) : TI := fun σ H R => ta σ H fun vs H1 => ∃ x y, vs = [.str x, .str y] ∧ R (ItzS x y) H1
theorem pi_zipS {X : Cx} {e e2 : Expr} {ta : TA} {p pos tpos : Pos} {elts : List Expr} {kk : Nat} (hg : Gl X "zip") (hm : X.mg "zip" = none) (ha : PA X [e, e2] ta)
    (hs : starEach [e, e2] X.env = (false, eval e X.env) :: starEach [e2] X.env := by rfl) (hpl : (backTo pos (starEach [e2] X.env)).any (·.1) = false := by rfl) :
    PI X (.Tuple elts kk tpos) (.Call (.Name "zip" p) [e, e2] [] pos) (iZipS ta) := by
  refine ⟨fun pins s σ H R I h => ?_⟩
  refine Call_ (ld_blt I hg hm PyProof.Rows.boot_zip (PyProof.Rows.callWith_type1 (thn (ha.run pos pins s σ H _ I h) fun us s1 ⟨vs, H1, I1, r1, q1⟩ => ?_) hs hpl))
  obtain ⟨x, y, ex, q⟩ := q1
  subst ex
  cases r1 with
  | cons r rr =>
    cases rr with
    | cons r' rr =>
      cases rr
      obtain ⟨t1, rfl⟩ := r
      obtain ⟨t2, rfl⟩ := r'
      refine zip_begins2 (begins_text x t1) (begins_text y t2) trivial trivial fun h' hz hTI hTO h1 h2 hsz hk => wpAny_pyIter_zip hz ?_
      have I2 : Inv X pins σ H1 { s1 with heap := h' } := I1.kept (t' := s1.toks) hk
      generalize hn : s1.heap.objs.size = n at hz hTI hTO h1 h2 hsz ⊢
      have D : ZipSep2 (n + 4) (n + 2) (n + 3) n (n + 1) [n] [n + 1] := by constructor <;> simp <;> omega
      refine ⟨n + 4, [n + 4, n + 2, n + 3, n, n + 1], _, _, H1, rfl, I2, turn_zipS (t1 := t1) (t2 := t2) D, ⟨hz, hTI, ⟨_, _, hTO⟩, ⟨_, h1, rfl, rfl⟩, ⟨_, h2, rfl, rfl⟩⟩, fun c hcm => ?_, q⟩
      have e' : c = n + 4 ∨ c = n + 2 ∨ c = n + 3 ∨ c = n ∨ c = n + 1 := by simpa using hcm
      have hle : s1.heap.objs.size ≤ c := by
        rw [hn]
        rcases e' with q | q | q | q | q
        · rw [q]; exact Nat.le_add_right _ _
        · rw [q]; exact Nat.le_add_right _ _
        · rw [q]; exact Nat.le_add_right _ _
        · rw [q]; exact Nat.le_refl _
        · rw [q]; exact Nat.le_add_right _ _
      exact I1.fpOk hle (I1.hok.fresh hle)
end L2

set_option Elab.async false
set_option linter.all false
set_option maxRecDepth 100000
set_option maxHeartbeats 4000000
namespace J
open PySem L2

def spNumber : Sp := fun vs H Q _ => ∃ i lo hi : Int, vs = [.int i, .int lo, .int hi] ∧ ∀ b : Bool, (b = true ↔ lo ≤ i ∧ i ≤ hi) → Q (.bl b) H
def spSequence (K : PySem.W.Frag) : Sp := fun vs H Q _ => ∃ (a : Addr) (xs : List V) (lo hi : Int), vs = [.ref a, .int lo, .int hi] ∧ (H a = some (.lst xs) ∨ H a = some (.tup xs)) ∧ ∀ (H' : Hp) (b : Bool), Same H H' → (b = true ↔ lo ≤ xs.length ∧ xs.length ≤ hi) → Q (.bl b) H'
def spOver : Sp := fun vs H Q _ => ∃ (sg u : List Nat) (lo hi : Int), vs = [.str (SX.S sg), .str (SX.S u), .int lo, .int hi] ∧ lo ≤ u.length ∧ u.length ≤ hi ∧ hi ≤ 100000 ∧ (∀ c ∈ u, c ∈ sg) ∧ ∀ H' : Hp, Same H H' → Q (.bl true) H'
def spIsWord : Sp := fun vs H Q _ => ∃ (sg u : List Nat), vs = [.str (SX.S sg), .str (SX.S u)] ∧ Word sg u ∧ ∀ H' : Hp, Same H H' → Q (.bl true) H'
def spSigns : Sp := fun vs H Q _ => ∃ sg : List Nat, vs = [.str (SX.S sg)] ∧ Signs sg ∧ ∀ H' : Hp, Same H H' → Q (.bl true) H'
def spArc : Sp := fun vs H Q _ => ∃ (sg : List Nat) (t : Addr) (a : Arc), vs = [.str (SX.S sg), .ref t] ∧ H t = some (arcHO a) ∧ OkArc sg a ∧ ∀ H' : Hp, Same H H' → Q (.bl true) H'
def spState1 : Sp := fun vs H Q _ => ∃ i : Int, vs = [.int i] ∧ 0 ≤ i ∧ i ≤ 63 ∧ Q .non H
def spText1 : Sp := fun vs H Q _ => ∃ (sg u : List Nat), vs = [.str (SX.S sg), .str (SX.S u)] ∧ u.length ≤ 2000 ∧ (∀ c ∈ u, c ∈ sg) ∧ ∀ H' : Hp, Same H H' → Q .non H'
theorem rep_snoc (n : Nat) : (HO.lst ((List.replicate n true).map V.bl ++ [V.bl true])) = HO.lst ((List.replicate (n + 1) true).map V.bl) := by
  congr 1
  rw [List.replicate_succ']
  simp
theorem all_true {n : Nat} : (List.replicate n true).all id = true := by simp
section
variable {P : Program} {w : World} {K : PySem.W.Frag} {mg : Str → Option Value} {base : Heap}

theorem ok_is_number (T : Tx K mg) : FnOk P w K mg base CX0 1 T.f_is_number T.fd_is_number P_is_number spNumber := by
  refine T.F_is_number.ok sc_is_number (fun vs H Q E h => ?_) (fun cdv A outer s H vs Q E hr h => ?_)
  · obtain ⟨i, lo, hi, rfl, _⟩ := h
    rfl
  · obtain ⟨i, lo, hi, rfl, k⟩ := h
    refine ⟨_, (pss_one (ps_ret (pe_and (pe_callB (call_isiK' (K := K) rfl) rfl T.n_isinstance (by decide +kernel) (pa_cons (pv 0) (pa_cons (pe_bltn (v := V.ty "int") (u := .type "int") rfl T.n_int (by decide +kernel) rfl) pa_nil))) (pe_and (pe_not (pe_callB (call_isiK' (K := K) rfl) rfl T.n_isinstance (by decide +kernel) (pa_cons (pv 0) (pa_cons (pe_bltn (v := V.ty "bool") (u := .type "bool") rfl T.n_bool (by decide +kernel) rfl) pa_nil)))) (pe_one (pe_chain op_le op_le (pv 1) (pv 0) (pv 2))))))), ?_⟩
    refine ⟨_, rfl, _, _, _, _, true, rfl, .ty "int", .base (.int i), kit_ty (by decide +kernel), true, rfl, ?_⟩
    refine ⟨_, rfl, _, _, _, _, false, rfl, .ty "bool", .base (.int i), kit_ty (by decide +kernel), false, rfl, true, rfl, ?_⟩
    refine ⟨_, rfl, _, rfl, _, _, rfl, rfl, _, rfl, ?_⟩
    refine ite2 (fun c => ?_) (fun c => ?_)
    · refine ⟨_, rfl, _, _, rfl, rfl, k _ ?_⟩
      have c1 := of_decide_eq_true c
      constructor
      · intro h; exact ⟨c1, of_decide_eq_true h⟩
      · intro h; exact decide_eq_true h.2
    · refine k _ ?_
      constructor
      · intro h; cases h
      · intro h; exact absurd (decide_eq_true h.1) c

theorem ok_is_sequence (T : Tx K mg) : FnOk P w K mg base CX0 1 T.f_is_sequence T.fd_is_sequence P_is_sequence (spSequence K) := by
  refine T.F_is_sequence.ok sc_is_sequence (fun vs H Q E h => ?_) (fun cdv A outer s H vs Q E hr h => ?_)
  · obtain ⟨a, xs, lo, hi, rfl, _⟩ := h
    rfl
  · obtain ⟨a, xs, lo, hi, rfl, ha, k⟩ := h
    refine ⟨_, (pss_one (ps_ret (pe_and (pe_callB (call_isiTK (K := K) rfl) rfl T.n_isinstance (by decide +kernel) (pa_cons (pv 0) (pa_cons (pe_tup (pa_cons (pe_bltn (v := V.ty "list") (u := .type "list") rfl T.n_list (by decide +kernel) rfl) (pa_cons (pe_bltn (v := V.ty "tuple") (u := .type "tuple") rfl T.n_tuple (by decide +kernel) rfl) pa_nil))) pa_nil))) (pe_one (pe_chain op_le op_le (pv 1) (pe_callB (call_len_seqK (K := K) rfl) rfl T.n_len (by decide +kernel) (pa_cons (pv 0) pa_nil)) (pv 2)))))), ?_⟩
    refine ⟨_, rfl, le_size (by decide), fun t ht => ?_⟩
    have st := Same.new (.tup [V.ty "list", V.ty "tuple"]) ht
    have two : ∃ tv, TyX K (upd H t (.tup [V.ty "list", V.ty "tuple"])) (.ref a) tv ∧ PySem.W.kitAny K tv [.type "list", .type "tuple"] = some true := by
      rcases ha with ha | ha
      · exact ⟨_, .base (.lst (st _ _ ha)), kitAny_cons (b := true) (kit_ty (by decide +kernel)) (fun q => nomatch q) (fun _ => rfl)⟩
      · exact ⟨_, .base (.tup (st _ _ ha)), kitAny_cons (b := false) (kit_ty (by decide +kernel)) (fun _ => kitAny_cons (b := true) (kit_ty (by decide +kernel)) (fun q => nomatch q) (fun _ => rfl)) (fun q => nomatch q)⟩
    have one : SqL K (upd H t (.tup [V.ty "list", V.ty "tuple"])) a xs ∨ SqT K (upd H t (.tup [V.ty "list", V.ty "tuple"])) a xs := by
      rcases ha with ha | ha
      · exact .inl (SqL.of (st _ _ ha))
      · exact .inr (SqT.of (st _ _ ha))
    obtain ⟨tv, htv, hkt⟩ := two
    refine ⟨_, _, _, _, [.type "list", .type "tuple"], true, rfl, upd_same, .cons (.ty _) (.cons (.ty _) .nil), htv, hkt, true, rfl, ?_⟩
    refine ⟨_, rfl, _, rfl, a, xs, rfl, one, _, _, rfl, rfl, _, rfl, ?_⟩
    refine ite2 (fun c => ?_) (fun c => ?_)
    · refine ⟨_, rfl, _, _, rfl, rfl, k _ _ st ?_⟩
      have c1 := of_decide_eq_true c
      constructor
      · intro h; exact ⟨c1, of_decide_eq_true h⟩
      · intro h; exact decide_eq_true h.2
    · refine k _ _ st ?_
      constructor
      · intro h; cases h
      · intro h; exact absurd (decide_eq_true h.1) c

theorem ok_is_string_over (T : Tx K mg) : FnOk P w K mg base CX0 1 T.f_is_string_over T.fd_is_string_over P_is_string_over spOver := by
  refine T.F_is_string_over.ok sc_is_string_over (fun vs H Q E h => ?_) (fun cdv A outer s H vs Q E hr h => ?_)
  · obtain ⟨sg, u, lo, hi, rfl, _⟩ := h
    rfl
  · obtain ⟨sg, u, lo, hi, rfl, h1, h2, h3, hu, k⟩ := h
    refine ⟨_, (pss_cons (ps_if (PW.pt (pw_or (pt_not (pt_val (pe_callB (call_isiK' (K := K) rfl) rfl T.n_isinstance (by decide +kernel) (pa_cons (pv 1) (pa_cons (pe_bltn (v := V.ty "str") (u := .type "str") rfl T.n_str (by decide +kernel) rfl) pa_nil))))) (pw_or1 (pt_not (pt_chain op_le op_le (pv 2) (pe_callB call_len_str rfl T.n_len (by decide +kernel) (pa_cons (pv 1) pa_nil)) (pv 3)))))) (pss_one (ps_ret pe_bl)) pss_nil)
        (pss_one (ps_ret (pe_callB (cr_allK (K := K) rfl rfl) rfl T.n_all (by decide +kernel) (pa_cons (pe_lc (own := [("sign", 4)]) (g := (gName 4)) rfl sc_is_string_over.nd (pi_str (pv 1)) (blkOk_by (N := N_is_string_over) (sc := defScope s_is_string_over) (by decide +kernel)) (fun _ _ _ _ _ => (pg_name (i := 4) sc_is_string_over.nd rfl (Or.inl rfl))) (fun _ _ _ _ _ => pts_nil) (fun _ _ _ _ _ => (pe_cmpR op_in_sign (pv 4) (pv 0) rfl))) pa_nil))))), ?_⟩
    have hl : (SX.S u).length ≤ sizeLine := le_size (by rw [SX.S_len]; omega)
    refine ⟨_, rfl, _, _, _, _, true, rfl, .ty "str", .base (.str _), kit_ty (by decide +kernel), true, rfl, ?_⟩
    have e : ((SX.S u).length : Int) = u.length := by rw [SX.S_len]
    refine ⟨_, rfl, _, rfl, _, rfl, hl, _, _, rfl, rfl, true, congrArg V.bl (decide_eq_true (by rw [e]; exact h1)), ?_⟩
    refine ⟨_, rfl, _, _, rfl, rfl, true, congrArg V.bl (decide_eq_true (by rw [e]; exact h2)), ?_⟩
    refine ⟨_, rfl, _, rfl, fun D hD => lc_it (walk_str (z := SX.S u)) (fun i H' => H' D = some (.lst ((List.replicate i true).map V.bl)) ∧ Same H H') ⟨upd_same, Same.new _ hD⟩ (fun _ _ _ _ => trivial) ?_ ?_⟩
    · rintro i x H1 H2 hi ⟨hDl, sm⟩ ⟨rfl, c, hc, rfl⟩
      have hcu : c ∈ u := by
        have q : u[i]? = some c := by simpa using hc
        exact List.mem_of_getElem? q
      have hi2 : i ≤ 100000 := by
        have q : i < (SX.S u).length := hi
        rw [SX.S_len] at q
        omega
      refine ⟨rfl, _, rfl, _, rfl, c, _, rfl, rfl, _, hDl, lt_size (by simp; exact hi2), ?_, sm.updNew hD⟩
      rw [upd_same, decide_eq_true (by simpa using hu c hcu), rep_snoc]
    · rintro H1 ⟨hDl, sm⟩
      refine ⟨D, _, rfl, SqL.of hDl, ?_⟩
      rw [all_true]
      exact k _ sm

theorem ok_is_word (T : Tx K mg) : FnOk P w K mg base CX0 2 T.f_is_word T.fd_is_word P_is_word spIsWord := by
  have G_is_string_over : FnOk P w K mg base CX0 1 T.f_is_string_over T.fd_is_string_over P_is_string_over spOver := ok_is_string_over T
  refine T.F_is_word.ok sc_is_word (fun vs H Q E h => ?_) (fun cdv A outer s H vs Q E hr h => ?_)
  · obtain ⟨sg, u, rfl, _⟩ := h
    rfl
  · obtain ⟨sg, u, rfl, ⟨h1, h2, h3⟩, k⟩ := h
    refine ⟨_, (pss_one (ps_ret (pe_call G_is_string_over (hr.mono (by decide)) rfl T.m_is_string_over T.F_is_string_over.kp T.b_is_string_over .nil pass0 (pa_cons (pv 0) (pa_cons (pv 1) (pa_cons pe_int (pa_cons (pe_glob (v := V.int 12) rfl T.g_LONGEST_WORD ⟨_, rfl⟩) pa_nil))))))), ?_⟩
    exact ⟨_, rfl, _, rfl, sg, u, 1, 12, rfl, by omega, by omega, by omega, h3, k⟩
theorem ok_is_arc (T : Tx K mg) : FnOk P w K mg base CX0 3 T.f_is_arc T.fd_is_arc P_is_arc spArc := by
  have G_is_number : FnOk P w K mg base CX0 1 T.f_is_number T.fd_is_number P_is_number spNumber := ok_is_number T
  have G_is_word : FnOk P w K mg base CX0 2 T.f_is_word T.fd_is_word P_is_word spIsWord := ok_is_word T
  refine T.F_is_arc.ok sc_is_arc (fun vs H Q E h => ?_) (fun cdv A outer s H vs Q E hr h => ?_)
  · obtain ⟨sg, t, a, rfl, _⟩ := h
    rfl
  · obtain ⟨sg, t, ⟨s1, u, g1⟩, rfl, ht, ⟨hs, hw, hg⟩, k⟩ := h
    refine ⟨_, (pss_cons (ps_if (PW.pt (pw_or (pt_not (pt_val (pe_callB (call_isiK' (K := K) rfl) rfl T.n_isinstance (by decide +kernel) (pa_cons (pv 1) (pa_cons (pe_bltn (v := V.ty "tuple") (u := .type "tuple") rfl T.n_tuple (by decide +kernel) rfl) pa_nil))))) (pw_or1 (pt_cmpR op_ne (pe_callB (call_len_seqK (K := K) rfl) rfl T.n_len (by decide +kernel) (pa_cons (pv 1) pa_nil)) pe_int (nomark _))))) (pss_one (ps_ret pe_bl)) pss_nil)
        (pss_cons (ps_asg (pv 1) (pg_tup rfl (pgs_cons (pg_name (i := 2) sc_is_arc.nd rfl (Or.inl rfl)) (pgs_cons (pg_name (i := 3) sc_is_arc.nd rfl (Or.inl rfl)) (pgs_cons (pg_name (i := 4) sc_is_arc.nd rfl (Or.inl rfl)) pgs_nil)))))
        (pss_one (ps_ret (pe_and (pe_call G_is_number (hr.mono (by decide)) rfl T.m_is_number T.F_is_number.kp T.b_is_number .nil pass0 (pa_cons (pv 2) (pa_cons pe_int (pa_cons (pe_glob (v := V.int 63) rfl T.g_LAST_STATE ⟨_, rfl⟩) pa_nil)))) (pe_and (pe_call G_is_word (hr.mono (by decide)) rfl T.m_is_word T.F_is_word.kp T.b_is_word .nil pass0 (pa_cons (pv 0) (pa_cons (pv 3) pa_nil))) (pe_one (pe_call G_is_number (hr.mono (by decide)) rfl T.m_is_number T.F_is_number.kp T.b_is_number .nil pass0 (pa_cons (pv 4) (pa_cons pe_int (pa_cons (pe_glob (v := V.int 63) rfl T.g_LAST_STATE ⟨_, rfl⟩) pa_nil))))))))))), ?_⟩
    refine ⟨_, rfl, _, _, _, _, true, rfl, .ty "tuple", .base (.tup ht), kit_ty (by decide +kernel), true, rfl, ?_⟩
    refine ⟨_, rfl, t, _, rfl, .inr (SqT.of ht), rfl, false, rfl, ?_⟩
    refine ⟨_, rfl, t, _, rfl, SqT.of ht, rfl, ?_⟩
    have e1 : (0 : Int) ≤ ((s1 : Nat) : Int) ∧ ((s1 : Nat) : Int) ≤ 63 := by omega
    have e2 : (0 : Int) ≤ ((g1 : Nat) : Int) ∧ ((g1 : Nat) : Int) ≤ 63 := by have hg' : g1 ≤ 63 := hg; omega
    refine ⟨_, _, rfl, _, _, rfl, _, _, rfl, rfl, ?_⟩
    refine ⟨_, rfl, _, 0, 63, rfl, fun b hb => ⟨b, rfl, ?_⟩⟩
    rw [hb.mpr e1]
    refine ⟨_, rfl, _, rfl, sg, u, rfl, hw, fun H' sm => ⟨true, rfl, ?_⟩⟩
    refine ⟨_, rfl, _, 0, 63, rfl, fun b hb => ?_⟩
    rw [hb.mpr e2]
    exact k H' sm
end
end J


set_option Elab.async false
set_option linter.all false
set_option maxRecDepth 100000
set_option maxHeartbeats 4000000
namespace J
open PySem L2

theorem walk_zipS {x y : Str} : Walk (ItzS x y) (min x.cps.size y.cps.size) (fun _ => True) (fun i H v H' => ∃ T c d, v = .ref T ∧ H T = none ∧ H' = upd H T (.tup [.str ⟨#[c]⟩, .str ⟨#[d]⟩]) ∧ x.cps[i]? = some c ∧ y.cps[i]? = some d) :=
  ⟨fun _ _ h _ => h, fun _ _ => rfl, fun _ _ _ _ _ _ h => h⟩
theorem one_lt {c d : Nat} : ([c] < ([d] : List Nat)) ↔ c < d := by
  rw [List.cons_lt_cons_iff]
  constructor
  · rintro (h | ⟨_, h⟩)
    · exact h
    · exact absurd h (List.lt_irrefl _)
  · exact .inl
theorem signs_le {sg : List Nat} (h : Signs sg) : ∀ c ∈ sg, (!decide ([c] < ([97] : List Nat))) = true ∧ (!decide (([122] : List Nat) < [c])) = true := fun c hc => by
  obtain ⟨h1, h2⟩ := h.2.2.1 c hc
  rw [decide_eq_false (fun z => by rw [one_lt] at z; omega), decide_eq_false (fun z => by rw [one_lt] at z; omega)]
  exact ⟨rfl, rfl⟩
theorem signs_pair {sg : List Nat} (h : Signs sg) {i c d : Nat} (h1 : sg[i]? = some c) (h2 : (sg.drop 1)[i]? = some d) : decide ([c] < [d]) = true := by
  rw [List.getElem?_drop] at h2
  obtain ⟨l1, e1⟩ := List.getElem?_eq_some_iff.mp h1
  obtain ⟨l2, e2⟩ := List.getElem?_eq_some_iff.mp h2
  refine decide_eq_true (one_lt.mpr ?_)
  rw [← e1, ← e2]
  exact List.pairwise_iff_getElem.mp h.2.2.2 i (1 + i) l1 l2 (by omega)
section
variable {P : Program} {w : World} {K : PySem.W.Frag} {mg : Str → Option Value} {base : Heap}

theorem ok_is_signs (T : Tx K mg) : FnOk P w K mg base CX0 1 T.f_is_signs T.fd_is_signs P_is_signs spSigns := by
  refine T.F_is_signs.ok sc_is_signs (fun vs H Q E h => ?_) (fun cdv A outer s H vs Q E hr h => ?_)
  · obtain ⟨sg, rfl, _⟩ := h
    rfl
  · obtain ⟨sg, rfl, hsg, k⟩ := h
    refine ⟨_, (pss_cons (ps_if (PW.pt (pw_or (pt_not (pt_val (pe_callB (call_isiK' (K := K) rfl) rfl T.n_isinstance (by decide +kernel) (pa_cons (pv 0) (pa_cons (pe_bltn (v := V.ty "str") (u := .type "str") rfl T.n_str (by decide +kernel) rfl) pa_nil))))) (pw_or1 (pt_not (pt_chain op_le op_le pe_int (pe_callB call_len_str rfl T.n_len (by decide +kernel) (pa_cons (pv 0) pa_nil)) (pe_glob (v := V.int 4) rfl T.g_MOST_SIGNS ⟨_, rfl⟩)))))) (pss_one (ps_ret pe_bl)) pss_nil)
        (pss_cons (ps_set (i := 1) sc_is_signs.nd rfl (Or.inl rfl) (pe_callB (cr_allK (K := K) rfl rfl) rfl T.n_all (by decide +kernel) (pa_cons (pe_lc (own := [("sign", 2)]) (g := (gName 2)) rfl sc_is_signs.nd (pi_str (pv 0)) (blkOk_by (N := N_is_signs) (sc := defScope s_is_signs) (by decide +kernel)) (fun _ _ _ _ _ => (pg_name (i := 2) sc_is_signs.nd rfl (Or.inl rfl))) (fun _ _ _ _ _ => pts_nil) (fun _ _ _ _ _ => (pe_chain op_le_str op_le_str pe_str (pv 2) pe_str))) pa_nil)))
        (pss_one (ps_ret (pe_and (pv 1) (pe_one (pe_callB (cr_allK (K := K) rfl rfl) rfl T.n_all (by decide +kernel) (pa_cons (pe_lc (own := [("one", 3), ("other", 4)]) (g := (gTup K 2 (gCons (gName 3) (gCons (gName 4) gNil)))) rfl sc_is_signs.nd (pi_zipS rfl T.n_zip (pa_cons (pv 0) (pa_cons (pe_slice sl_str (pv 0) (po_some pe_int) po_none) pa_nil))) (blkOk_by (N := N_is_signs) (sc := defScope s_is_signs) (by decide +kernel)) (fun _ _ _ _ _ => (pg_tup rfl (pgs_cons (pg_name (i := 3) sc_is_signs.nd rfl (Or.inl rfl)) (pgs_cons (pg_name (i := 4) sc_is_signs.nd rfl (Or.inl rfl)) pgs_nil)))) (fun _ _ _ _ _ => pts_nil) (fun _ _ _ _ _ => (pe_cmpR op_lt_str (pv 3) (pv 4) (nomark _)))) pa_nil)))))))), ?_⟩
    have hlen := hsg.len
    have hl : (SX.S sg).length ≤ sizeLine := le_size (by rw [SX.S_len]; omega)
    have e : ((SX.S sg).length : Int) = sg.length := by rw [SX.S_len]
    refine ⟨_, rfl, _, _, _, _, true, rfl, .ty "str", .base (.str _), kit_ty (by decide +kernel), true, rfl, ?_⟩
    refine ⟨_, rfl, _, rfl, hl, _, _, rfl, rfl, true, congrArg V.bl (decide_eq_true (by rw [e]; omega)), ?_⟩
    refine ⟨_, _, rfl, rfl, true, congrArg V.bl (decide_eq_true (by rw [e]; omega)), ?_⟩
    refine ⟨_, rfl, _, rfl, fun D hD => lc_it (walk_str (z := SX.S sg)) (fun i H' => H' D = some (.lst ((List.replicate i true).map V.bl)) ∧ Same H H') ⟨upd_same, Same.new _ hD⟩ (fun _ _ _ _ => trivial) ?_ ?_⟩
    · rintro i x H1 H2 hi ⟨hDl, sm⟩ ⟨rfl, c, hc, rfl⟩
      have hcu : c ∈ sg := by
        have q : sg[i]? = some c := by simpa using hc
        exact List.mem_of_getElem? q
      have hi2 : i ≤ 100000 := by
        have q : i < (SX.S sg).length := hi
        rw [SX.S_len] at q
        omega
      obtain ⟨l1, l2⟩ := signs_le hsg c hcu
      refine ⟨rfl, _, rfl, _, _, rfl, rfl, true, congrArg V.bl l1, _, _, rfl, rfl, _, hDl, lt_size (by simp; exact hi2), ?_, sm.updNew hD⟩
      rw [upd_same]
      show some (HO.lst (_ ++ [V.bl (!decide (([122] : List Nat) < [c]))])) = _
      rw [l2, rep_snoc]
    · rintro H1 ⟨hDl, sm⟩
      refine ⟨D, _, rfl, SqL.of hDl, ?_⟩
      rw [all_true]
      refine ⟨_, rfl, true, rfl, ?_⟩
      refine ⟨_, rfl, _, rfl, _, rfl, _, rfl, hl, ?_⟩
      rw [C8.cutS_slice, SX.slice_from (by decide)]
      refine ⟨_, _, rfl, fun D2 hD2 => lc_it (walk_zipS (x := SX.S sg) (y := SX.S (sg.drop 1))) (fun i H' => H' D2 = some (.lst ((List.replicate i true).map V.bl)) ∧ Same H H') ⟨upd_same, sm.trans (Same.new _ hD2)⟩ (fun _ _ _ _ => trivial) ?_ ?_⟩
      · rintro i x H2 H3 hi ⟨hDl2, sm2⟩ ⟨t, c, d, rfl, ht, rfl, hc, hd⟩
        have hcu : sg[i]? = some c := by simpa using hc
        have hdu : (sg.drop 1)[i]? = some d := by simpa using hd
        have hi2 : i ≤ 100000 := by
          have q := (List.getElem?_eq_some_iff.mp hcu).1
          omega
        have nt : D2 ≠ t := fun z => hp_ne hDl2 ht z.symm
        refine ⟨t, _, rfl, SqT.of upd_same, rfl, _, _, rfl, _, _, rfl, rfl, rfl, _, rfl, _, rfl, _, _, rfl, rfl, _, by rw [upd_ne nt]; exact hDl2, lt_size (by simp; exact hi2), ?_, (sm2.trans (Same.new _ ht)).updNew (sm.free hD2)⟩
        rw [upd_same]
        show some (HO.lst (_ ++ [V.bl (decide ([c] < [d]))])) = _
        rw [signs_pair hsg hcu hdu, rep_snoc]
      · rintro H2 ⟨hDl2, sm2⟩
        refine ⟨D2, _, rfl, SqL.of hDl2, ?_⟩
        rw [all_true]
        exact k _ sm2
end
end J


set_option Elab.async false
set_option linter.all false
set_option maxRecDepth 100000
set_option maxHeartbeats 4000000
namespace J
open PySem L2
/-- arcs that a loom may have -/
def OkW (sg : List Nat) (as : List Arc) : Prop := 1 ≤ as.length ∧ as.length ≤ 200 ∧ ∀ a ∈ as, OkArc sg a
theorem OkArcs.w {sg : List Nat} {as : List Arc} (h : OkArcs sg as) : OkW sg as := ⟨h.1, by have := h.2.1; omega, h.2.2.1⟩
/-- a loom's fields -/
def lf (sg : List Nat) (T : Addr) : List (Str × V) := putF "arcs" (.ref T) (putF "signs" (.str (SX.S sg)) [])
theorem ne_sa : ¬ (("signs" : Str) = "arcs") := by decide +kernel
theorem lf_signs (sg : List Nat) (T : Addr) : (lf sg T).lookup ("signs" : Str) = some (.str (SX.S sg)) := by
  unfold lf
  rw [lookup_putF, if_neg ne_sa, lookup_putF, if_pos rfl]
theorem lf_arcs (sg : List Nat) (T : Addr) : (lf sg T).lookup ("arcs" : Str) = some (.ref T) := by
  unfold lf
  rw [lookup_putF, if_pos rfl]
/-- a loom stands at p -/
def LoomAt (C : Addr) (H : Hp) (p : Addr) (sg : List Nat) (us : List V) (as : List Arc) : Prop := ∃ dx T, H p = some (.ins C dx (lf sg T)) ∧ H T = some (.tup us) ∧ Arcs H us as ∧ OkW sg as ∧ Signs sg
def spInit (C : Addr) : Sp := fun vs H Q _ => ∃ (p dx a : Addr) (sg : List Nat) (us : List V) (as : List Arc), vs = [.ref p, .str (SX.S sg), .ref a] ∧ H p = some (.ins C dx []) ∧ H a = some (.lst us) ∧ Arcs H us as ∧ OkW sg as ∧ Signs sg ∧
  ∀ (H' : Hp) (T : Addr), Ex p H H' → H T = none → H' T = some (.tup us) → H' p = some (.ins C dx (lf sg T)) → Q .non H'
theorem take_snoc {α : Type} {l : List α} {i : Nat} {x : α} (h : l[i]? = some x) : l.take i ++ [x] = l.take (i + 1) := by
  rw [List.take_add_one, h]
  rfl
def spChkSigns : Sp := fun vs H Q _ => ∃ sg : List Nat, vs = [.str (SX.S sg)] ∧ Signs sg ∧ ∀ H', Same H H' → Q .non H'
section
variable {P : Program} {w : World} {K : PySem.W.Frag} {mg : Str → Option Value} {base : Heap}
theorem ok_check_signs (T : Tx K mg) : FnOk P w K mg base CX0 2 T.f_check_signs T.fd_check_signs P_check_signs spChkSigns := by
  have G_is_signs : FnOk P w K mg base CX0 1 T.f_is_signs T.fd_is_signs P_is_signs spSigns := ok_is_signs T
  refine T.F_check_signs.ok sc_check_signs (fun vs H Q E h => ?_) (fun cdv A outer s H vs Q E hr h => ?_)
  · obtain ⟨sg, rfl, _⟩ := h
    rfl
  · obtain ⟨sg, rfl, hsg, k⟩ := h
    refine ⟨_, (pss_one (ps_if (pt_not (pt_val (pe_call G_is_signs (hr.mono (by decide)) rfl T.m_is_signs T.F_is_signs.kp T.b_is_signs .nil pass0 (pa_cons (pv 0) pa_nil)))) (pss_one ps_never) pss_nil)), ?_⟩
    refine ⟨_, rfl, sg, rfl, hsg, fun H1 s1 => ⟨true, rfl, ?_⟩⟩
    exact k _ s1
theorem ok_Loom_init (T : Tx K mg) : FnOk P w K mg base CX0 4 T.f_Loom_init T.fd_Loom_init P_Loom_init (spInit T.C_Loom) := by
  have G_check_signs : FnOk P w K mg base CX0 2 T.f_check_signs T.fd_check_signs P_check_signs spChkSigns := ok_check_signs T
  have G_is_sequence : FnOk P w K mg base CX0 1 T.f_is_sequence T.fd_is_sequence P_is_sequence (spSequence K) := ok_is_sequence T
  have G_is_arc : FnOk P w K mg base CX0 3 T.f_is_arc T.fd_is_arc P_is_arc spArc := ok_is_arc T
  refine T.F_Loom_init.ok sc_Loom_init (fun vs H Q E h => ?_) (fun cdv A outer s H vs Q E hr h => ?_)
  · obtain ⟨p, dx, a, sg, us, as, rfl, _⟩ := h
    rfl
  · obtain ⟨p, dx, a, sg, us, as, rfl, hp, ha, harc, hok, hsg, k⟩ := h
    refine ⟨_, (pss_cons (ps_expr (pe_call G_check_signs (hr.mono (by decide)) rfl T.m_check_signs T.F_check_signs.kp T.b_check_signs .nil pass0 (pa_cons (pv 1) pa_nil)))
        (pss_cons (ps_if (pt_not (pt_val (pe_call G_is_sequence (hr.mono (by decide)) rfl T.m_is_sequence T.F_is_sequence.kp T.b_is_sequence .nil pass0 (pa_cons (pv 2) (pa_cons pe_int (pa_cons (pe_glob (v := V.int 200) rfl T.g_MOST_ARCS ⟨_, rfl⟩) pa_nil)))))) (pss_one ps_never) pss_nil)
        (pss_cons (ps_for PassesOwn.never rfl (pi_enum rfl T.n_enumerate (pa_cons (pv 2) pa_nil)) (pg_tup rfl (pgs_cons (pg_name (i := 3) sc_Loom_init.nd rfl (Or.inl rfl)) (pgs_cons (pg_name (i := 4) sc_Loom_init.nd rfl (Or.inl rfl)) pgs_nil))) (pss_one (ps_if (pt_not (pt_val (pe_call G_is_arc (hr.mono (by decide)) rfl T.m_is_arc T.F_is_arc.kp T.b_is_arc .nil pass0 (pa_cons (pv 1) (pa_cons (pv 4) pa_nil))))) (pss_one ps_never) pss_nil)))
        (pss_cons (ps_fld (pv 0) (pv 1) rfl)
        (pss_one (ps_fld (pv 0) (pe_callTy (call_tuple_ofK (K := K) rfl) rfl T.n_tuple (by decide +kernel) (pa_cons (pe_lc (own := [("arc", 4)]) (g := (gName 4)) rfl sc_Loom_init.nd (pi_list (pv 2)) (blkOk_by (N := N_Loom_init) (sc := defScope s_Loom_init) (by decide +kernel)) (fun _ _ _ _ _ => (pg_name (i := 4) sc_Loom_init.nd rfl (Or.inl rfl))) (fun _ _ _ _ _ => pts_nil) (fun _ _ _ _ _ => (pe_callTy (call_tuple_ofK (K := K) rfl) rfl T.n_tuple (by decide +kernel) (pa_cons (pv 4) pa_nil)))) pa_nil)) rfl)))))), ?_⟩
    refine ⟨_, rfl, sg, rfl, hsg, fun H1 s1 => ?_⟩
    refine ⟨_, rfl, a, us, 1, 200, rfl, .inl (s1 _ _ ha), fun H2 b s2 hb => ⟨b, rfl, ?_⟩⟩
    have hl := hok.2.1
    have hl0 := hok.1
    have hl2 := harc.1
    rw [hb.mpr ⟨by omega, by omega⟩]
    have s12 := s1.trans s2
    refine ⟨_, rfl, a, us, rfl, SqL.of (s12 _ _ ha), for_it walk_enum (fun i σ H' => ∃ v3 v4, σ = [some (.ref p), some (.str (SX.S sg)), some (.ref a), v3, v4] ∧ Same H H') ⟨_, _, rfl, s12⟩ (fun i σ H' _ ⟨_, _, _, sm⟩ => SqL.of (sm _ _ ha)) ?_ ?_⟩
    · rintro i x σ H3 H4 hi ⟨v3, v4, rfl, s3⟩ ⟨tp, x1, y1, rfl, ht, rfl, hx1, hy1⟩
      cases hx1
      have hia : i < as.length := by omega
      obtain ⟨t, hut, htt⟩ := harc.2 i as[i] (List.getElem?_eq_getElem hia)
      replace hy1 : us[i]? = some y1 := hy1
      rw [hut] at hy1
      cases hy1
      have sn := Same.new (.tup [V.int (i : Int), .ref t]) ht
      refine ⟨tp, _, rfl, SqT.of upd_same, rfl, _, _, rfl, _, _, rfl, rfl, ?_⟩
      refine ⟨_, rfl, _, rfl, sg, t, as[i], rfl, sn _ _ (s3 _ _ htt), hok.2.2 _ (List.getElem_mem hia), fun H5 s5 => ⟨true, rfl, ?_⟩⟩
      exact ⟨_, _, rfl, s3.trans (sn.trans s5)⟩
    · rintro σ H3 ⟨v3, v4, rfl, s3⟩
      have hp3 := s3 _ _ hp
      refine ⟨_, rfl, _, rfl, p, _, dx, _, rfl, hp3, T.cl_Loom, T.na_Loom_signs, (by show 0 < 1000; decide), ?_⟩
      have x3 : Ex p H (upd H3 p (.ins T.C_Loom dx (putF "signs" (.str (SX.S sg)) []))) := (Same.ex s3).trans (Ex.upd _)
      have nap : a ≠ p := fun z => by rw [z, hp] at ha; cases ha
      refine ⟨_, rfl, a, rfl, ⟨_, SqL.of (x3 _ _ nap ha)⟩, fun D hD => lc_list (K := K) (a := a) (xs := us) (fun i H' => H' D = some (.lst (us.take i)) ∧ Ex p H H' ∧ H' p = some (.ins T.C_Loom dx (putF "signs" (.str (SX.S sg)) []))) ?_ ?_ ?_ ?_⟩
      · have nDp : D ≠ p := hp_ne upd_same hD
        exact ⟨upd_same, x3.trans (Ex.new _ hD), by rw [upd_ne nDp.symm]; exact upd_same⟩
      · rintro i H4 hi ⟨_, x4, _⟩
        exact SqL.of (x4 _ _ nap ha)
      · rintro i y H4 hy ⟨hDl, x4, hp4⟩
        have hia : i < us.length := (List.getElem?_eq_some_iff.mp hy).1
        obtain ⟨t, hut, htt⟩ := harc.2 i as[i] (List.getElem?_eq_getElem (by omega))
        rw [hut] at hy
        cases hy
        have ntp : t ≠ p := fun z => by rw [z, hp] at htt; cases htt
        have nDp : D ≠ p := hp_ne upd_same hD
        refine ⟨rfl, _, rfl, t, _, rfl, .inr ⟨SqT.of (x4 _ _ ntp htt), _, hDl, lt_size (by simp; omega), ?_, x4.updNew (x3.free hD nDp), by rw [upd_ne nDp.symm]; exact hp4⟩⟩
        rw [upd_same, take_snoc hut]
      · rintro H4 ⟨hDl, x4, hp4⟩
        rw [List.take_length] at hDl
        refine ⟨D, us, rfl, .inl ⟨SqL.of hDl, fun T1 hT1 => ?_⟩⟩
        have nT : T1 ≠ p := hp_ne hp4 hT1
        refine ⟨_, rfl, p, _, dx, _, rfl, by rw [upd_ne nT.symm]; exact hp4, T.cl_Loom, T.na_Loom_arcs, (by show 1 < 1000; decide), ?_⟩
        exact k _ T1 ((x4.trans (Ex.new _ hT1)).trans (Ex.upd _)) (x4.free hT1 nT) (by rw [upd_ne nT]; exact upd_same) upd_same
end
end J


set_option Elab.async false
set_option linter.all false
set_option maxRecDepth 100000
set_option maxHeartbeats 4000000
/-! x != y of two objects of a class with an own __eq__ and no __ne__ -/
namespace HNB
open PySem PySem.Spec PyProof.Rows PySem.SeqAt
section
variable {M : Model} {prog : Program} {w : World} {A : Around} {E : Value → Shared → Prop} {s : Shared} {K : PySem.W.Frag} {x C f : Addr} {ox : Obj} {od : Option Obj} {b tb : Value} {rb : Bool}
theorem ifBound_objNe {args : List Value} {Q : Option Value → Shared → Prop} (X : K.In s.heap) (I : PySem.W.InstAt s.heap x ox C od) (hs : PySem.W.findIn K (.ref C) "__ne__" = some (some (.builtin "object.__ne__")))
    (h : wpAny M A (call (.builtin "object.__ne__") (.ref x :: args)) (fun v => Q (some v)) E s) : wpAny M A (callSpecialIfBound? (.ref x) "__ne__" args) Q E s := by
  simp only [callSpecialIfBound?, bindSpecialIfBound?]
  refine wpAny_holding (wpAny_bind (wpAny_bind (wpAny_bind (I.type.here ((PySem.W.looks_findIn X hs).here ?_)))))
  refine wpAny_bind (wpAny_askSetting (wpAny_ite ?_))
  have fin : wpAny M A (call (.builtin "object.__ne__") ([.ref x] ++ args) >>= fun v => pure (some v)) Q E s := wpAny_bind (wpAny_mono h (fun v s' h' => wpAny_pure h') fun _ _ h' => h')
  split
  · exact wpAny_bind (wpAny_of_eq (F.cmp_object.ne.bind _) (wpAny_pure (by exact fin)))
  · exact wpAny_tryCatch (wpAny_bind (wpAny_of_eq (F.cmp_object.ne.bind _) (wpAny_pure (by exact fin))))
/-- what object.__ne__ does, where the class's own __eq__ says True -/
theorem entry_ne {R : Fin → Shared → Prop} (hu : A.units < cLine) (X : K.In s.heap) (I : PySem.W.InstAt s.heap x ox C od) (hs : PySem.W.findIn K (.ref C) "__eq__" = some (some (.ref f))) (hf : PySem.W.isFn K (.ref f) = true)
    (h : wpAny M A (call (.ref f) [.ref x, b]) (fun v s' => v = .bool rb ∧ R (.done (.ret (.bool (!rb)))) s') E s) : wpAny M A (Builtin.«object.__ne__» ⟨[.ref x, b], []⟩) R E s := by
  unfold Builtin.«object.__ne__»
  have q : wpAny M A (callSpecialIfBound? (.ref x) "__eq__" [b]) (fun r s' => r = some (.bool rb) ∧ R (.done (.ret (.bool (!rb)))) s') E s :=
    PySem.W.ifBound_K X I hs hf (wpAny_mono h (fun v s' ⟨e, z⟩ => ⟨by rw [e], z⟩) fun _ _ z => z)
  repeat (first | with_reducible refine wpAny_cRoomFor hu ?_ | with_reducible refine wpAny_bind (wpAny_mono q (fun r s' ⟨e, z⟩ => ?_) fun _ _ z => z) | wp_step)
  subst e
  refine wpAny_bind (wpAny_truthy_bool ?_)
  exact wpAny_pure z
theorem call_objNe {Q : Value → Shared → Prop} (hu : A.in1.units < cLine) (X : K.In s.heap) (I : PySem.W.InstAt s.heap x ox C od) (hm : PySem.W.mroIn K C (.type "object") = some true) (hs : PySem.W.findIn K (.ref C) "__eq__" = some (some (.ref f))) (hf : PySem.W.isFn K (.ref f) = true)
    (h : wpAny (model prog w) A.in1 (call (.ref f) [.ref x, b]) (fun v s' => v = .bool rb ∧ Q (.bool (!rb)) s') E s) :
    wpAny (model prog w) A (call (.builtin "object.__ne__") [.ref x, b]) Q E s :=
  wpAny_call (codeAny_call_builtin F.cmp_object.ne.plain F.cmpEntry_ne (PySem.W.check_slot F.cmpKind_ne F.cmpSplit_ne (I.type.andThen (PySem.W.looks_mroIn X hm)) (F.cmpArgs_ne _ _) (entry_ne (rb := rb) hu X I hs hf h)))
theorem rc_ne {L : Addr} {h₀ : Heap} {m : Str → Option Value} {Q : Value → Shared → Prop} (hu : A.units < cLine) (hu1 : A.in1.units < cLine) (F : Fr h₀ L s.heap m) (X₀ : K.In h₀) (I : PySem.W.InstAt s.heap x ox C od) (hb : PySem.W.Looks (model prog w) s.heap (typeOf b) tb) (hn : PySem.W.notFirst K C tb = true)
    (hm : PySem.W.mroIn K C (.type "object") = some true) (hne : PySem.W.findIn K (.ref C) "__ne__" = some (some (.builtin "object.__ne__"))) (hs : PySem.W.findIn K (.ref C) "__eq__" = some (some (.ref f))) (hf : PySem.W.isFn K (.ref f) = true)
    (h : wpAny (model prog w) A.in1 (call (.ref f) [.ref x, b]) (fun v s' => v = .bool rb ∧ Q (.bool (!rb)) s') E s) : wpAny (model prog w) A (richCompare .NotEq (.ref x) b) Q E s := by
  have X := X₀.keeps F.keep
  have one : wpAny (model prog w) A (tryCompare (.ref x) (cmpInfo .NotEq).2.1 b) (fun r s' => ∃ v, r = some v ∧ Q v s') E s := by
    unfold tryCompare
    refine wpAny_bind (ifBound_objNe X I hne (call_objNe (rb := rb) hu1 X I hm hs hf (wpAny_mono h (fun v s' hv => ?_) fun _ _ e => e)))
    exact ⟨hv.1, wpAny_pure ⟨_, rfl, hv.2⟩⟩
  unfold richCompare
  simp only [oneThing_ref]
  refine wpAny_holding (wpAny_bind (wpAny_cRoomFor hu ?_))
  refine wpAny_bind (I.type.here (wpAny_bind (hb.here ?_)))
  split
  · rename_i q
    have e : PySem.W.subIn K tb (.ref C) = some false := by
      rcases Bool.or_eq_true_iff.mp hn with e | e
      · rw [beq_iff_eq.mp e] at q; simp at q
      · exact beq_iff_eq.mp e
    refine wpAny_bind ((PySem.W.looks_subIn X e).here ?_)
    simp only [Bool.false_eq_true, if_false]
    refine wpAny_bind (wpAny_mono one (fun r s' z => ?_) fun _ _ e => e)
    obtain ⟨v, rfl, hq⟩ := z
    exact wpAny_pure hq
  · refine wpAny_bind (wpAny_pure ?_)
    simp only [Bool.false_eq_true, if_false]
    refine wpAny_bind (wpAny_mono one (fun r s' z => ?_) fun _ _ e => e)
    obtain ⟨v, rfl, hq⟩ := z
    exact wpAny_pure hq
end
end HNB
namespace L2
open PySem PySem.Spec PyProof.Rows
section
variable {X : Cx} {n : Nat}
/-- what the own == says of two objects -/
def spEqB (R : Addr → Addr → Bool → Hp → Prop) : Sp := fun vs H Q _ => ∃ a b r, vs = [.ref a, .ref b] ∧ R a b r H ∧ ∀ H', Ext H H' → Q (.bl r) H'
def rEqB (C : Addr) (R : Addr → Addr → Bool → Hp → Prop) : R2 := fun x y H Q => ∃ a b dx dy fs gs r, x = .ref a ∧ y = .ref b ∧ H a = some (.ins C dx fs) ∧ H b = some (.ins C dy gs) ∧ R a b r H ∧ ∀ H', Ext H H' → Q (.bl r) H'
def rNeB (C : Addr) (R : Addr → Addr → Bool → Hp → Prop) : R2 := fun x y H Q => ∃ a b dx dy fs gs r, x = .ref a ∧ y = .ref b ∧ H a = some (.ins C dx fs) ∧ H b = some (.ins C dy gs) ∧ R a b r H ∧ ∀ H', Ext H H' → Q (.bl (!r)) H'
/-- the call of the own == -/
theorem call_eqB {CX : CXT} {f : Addr} {fd : FuncData} {ps : List Str} {R : Addr → Addr → Bool → Hp → Prop} {E : XK} {A : Around} {pins : List (Addr × Obj)} {σ : St} {H : Hp} {s : Shared} {a b : Addr} {r : Bool} (F : FnOk X.prog X.w X.K X.mg X.base CX n f fd ps (spEqB R))
    (hb : Binds X.K fd ps []) (hx : Passes CX X E) (sb : Sub X n A) (I : Inv X pins σ H s) (hr : R a b r H) :
    wpAny (model X.prog X.w) A (call (.ref f) [.ref a, .ref b]) (fun v s' => v = .bool r ∧ ∃ H', Inv X pins σ H' s' ∧ Ext H H') X.xe s := by
  have hsp : spEqB R [.ref a, .ref b] H (fun v H' => v = .bl r ∧ Ext H H') E := ⟨a, b, r, rfl, hr, fun H' e => ⟨rfl, e⟩⟩
  have e0 : Env0 X.prog X.w X.K X.mg X.base A X.stack s H := by
    obtain ⟨p1, p2, p3, p4, p5, p6, p7, p8⟩ := I.env0
    exact ⟨by rw [sb.fr]; exact p1, p2, p3, p4, p5, p6, p7, p8⟩
  have two : Vals [V.ref a, V.ref b] [Value.ref a, Value.ref b] := .cons rfl (.cons rfl .nil)
  have bd := hb s [.ref a, .ref b] I.kIn (by simpa using F.len _ _ _ _ hsp)
  have go := F.run A X.stack s H ⟨[.ref a, .ref b], []⟩ [.ref a, .ref b] [.ref a, .ref b] _ E sb.room e0 (by simpa using bd) two hsp
  refine wpAny_call (codeAny_mono go fun z t hz => ?_)
  match z, hz with
  | .error e, hz => exact hx pins σ H s e t I hz
  | .ok (.ret w'), hz =>
    obtain ⟨y, H', I', ry, rfl, ex⟩ := I.after hz
    cases ry
    exact ⟨rfl, H', I', ex⟩
  | .ok .next, hz => exact hz.elim
  | .ok .brk, hz => exact hz.elim
  | .ok .cont, hz => exact hz.elim
theorem op_eqB {CX : CXT} {C f : Addr} {fd : FuncData} {ps : List Str} {R : Addr → Addr → Bool → Hp → Prop} {E : XK} (F : FnOk X.prog X.w X.K X.mg X.base CX n f fd ps (spEqB R))
    (hs : PySem.W.findIn X.K (.ref C) "__eq__" = some (some (.ref f))) (hf : PySem.W.isFn X.K (.ref f) = true) (hb : Binds X.K fd ps []) (hx : Passes CX X E) (hr : Room n X.A) : OpR X (compareOp .Eq) (rEqB C R) := by
  intro pins s σ H x y u v Q I rx ry hq
  obtain ⟨a, b, dx, dy, fs, gs, r, rfl, rfl, ha, hb', hR, q⟩ := hq
  cases rx
  cases ry
  obtain ⟨mA, J, _⟩ := ins_get I.hok ha
  obtain ⟨mB, J', _⟩ := ins_get I.hok hb'
  obtain ⟨od, J, _⟩ := J.look
  obtain ⟨od', J', _⟩ := J'.look
  obtain ⟨m, hF⟩ := I.fr
  show wpAny (model X.prog X.w) X.A (richCompare .Eq (.ref a) (.ref b)) (EP X pins σ Q) X.xe s
  refine PySem.W.cmp_K (tb := .ref C) hr.units0 hF I.ok.mod.kin J J'.type (by simp [PySem.W.notFirst]) hs hf (wpAny_mono (call_eqB F hb hx ⟨hr, rfl⟩ I hR) (fun w' t z => ?_) fun _ _ e => e)
  obtain ⟨rfl, H', I', ex⟩ := z
  exact ⟨.bl r, H', I', rfl, q H' ex⟩
theorem op_neB {CX : CXT} {C f : Addr} {fd : FuncData} {ps : List Str} {R : Addr → Addr → Bool → Hp → Prop} {E : XK} (F : FnOk X.prog X.w X.K X.mg X.base CX n f fd ps (spEqB R))
    (hs : PySem.W.findIn X.K (.ref C) "__eq__" = some (some (.ref f))) (hf : PySem.W.isFn X.K (.ref f) = true) (hne : PySem.W.findIn X.K (.ref C) "__ne__" = some (some (.builtin "object.__ne__"))) (hm : PySem.W.mroIn X.K C (.type "object") = some true)
    (hb : Binds X.K fd ps []) (hx : Passes CX X E) (hr : Room (n + 1) X.A) : OpR X (compareOp .NotEq) (rNeB C R) := by
  intro pins s σ H x y u v Q I rx ry hq
  obtain ⟨a, b, dx, dy, fs, gs, r, rfl, rfl, ha, hb', hR, q⟩ := hq
  cases rx
  cases ry
  obtain ⟨mA, J, _⟩ := ins_get I.hok ha
  obtain ⟨mB, J', _⟩ := ins_get I.hok hb'
  obtain ⟨od, J, _⟩ := J.look
  obtain ⟨od', J', _⟩ := J'.look
  obtain ⟨m, hF⟩ := I.fr
  have sb : Sub X n X.A.in1 := Sub.in1 ⟨hr, rfl⟩
  show wpAny (model X.prog X.w) X.A (richCompare .NotEq (.ref a) (.ref b)) (EP X pins σ Q) X.xe s
  refine HNB.rc_ne (tb := .ref C) (rb := r) hr.units0 sb.room.units0 hF I.ok.mod.kin J J'.type (by simp [PySem.W.notFirst]) hm hne hs hf (wpAny_mono (call_eqB F hb hx sb I hR) (fun w' t z => ?_) fun _ _ e => e)
  obtain ⟨rfl, H', I', ex⟩ := z
  exact ⟨rfl, .bl (!r), H', I', rfl, q H' ex⟩
end
end L2

set_option Elab.async false
set_option linter.all false
set_option maxRecDepth 100000
set_option maxHeartbeats 4000000
namespace J
open PySem L2
theorem pi_or {X : Cx} {tg l : Expr} {ti tj : TI} (h1 : PI X tg l ti) (h2 : PI X tg l tj) : PI X tg l (fun σ H R => ti σ H R ∨ tj σ H R) := ⟨fun pins s σ H R I h => h.elim (h1.run pins s σ H R I) (h2.run pins s σ H R I)⟩
/-- the arcs of a book -/
def bka (ws : List (List Nat)) : List Arc := ws.map fun u => (0, u, 0)
theorem bka_len (ws : List (List Nat)) : (bka ws).length = ws.length := by simp [bka]
theorem bka_ok {sg : List Nat} {ws : List (List Nat)} (h1 : 1 ≤ ws.length) (h2 : ws.length ≤ 200) (h : ∀ u ∈ ws, Word sg u) : OkW sg (bka ws) := by
  refine ⟨by rw [bka_len]; exact h1, by rw [bka_len]; exact h2, fun a ha => ?_⟩
  obtain ⟨u, hu, rfl⟩ := List.mem_map.mp ha
  exact ⟨Nat.zero_le _, h u hu, Nat.zero_le _⟩
theorem LoomAt.same {C : Addr} {H H' : Hp} {p : Addr} {sg : List Nat} {us : List V} {as : List Arc} (h : LoomAt C H p sg us as) (s : Same H H') : LoomAt C H' p sg us as := by
  obtain ⟨dx, T, h1, h2, h3, h4, h5⟩ := h
  exact ⟨dx, T, s _ _ h1, s _ _ h2, h3.same s, h4, h5⟩
/-- a list or a tuple -/
def Seq (H : Hp) (a : Addr) (xs : List V) : Prop := H a = some (.lst xs) ∨ H a = some (.tup xs)
theorem Seq.same {H H' : Hp} {a : Addr} {xs : List V} (h : Seq H a xs) (s : Same H H') : Seq H' a xs := h.imp (s _ _) (s _ _)
def spBook (C : Addr) : Sp := fun vs H Q _ => ∃ (a : Addr) (sg : List Nat) (ws : List (List Nat)), vs = [.str (SX.S sg), .ref a] ∧ Seq H a (txts ws) ∧ Signs sg ∧ 1 ≤ ws.length ∧ ws.length ≤ 200 ∧ (∀ u ∈ ws, Word sg u) ∧
  ∀ H' (q : Addr) us, Same H H' → H q = none → LoomAt C H' q sg us (bka ws) → Q (.ref q) H'
def kdB (as : List Arc) : Bool := as.all fun a => a.1 == 0 && a.2.2 == 0
def spIsBook (K : PySem.W.Frag) (C : Addr) : Sp := fun vs H Q _ => ∃ v, vs = [v] ∧ ((∃ (q : Addr) (sg : List Nat) (us : List V) (as : List Arc), v = .ref q ∧ LoomAt C H q sg us as ∧ ∀ H', Same H H' → Q (.bl (kdB as)) H') ∨
  (∃ t, TyZ K H v t ∧ PySem.W.kitOne K t (.ref C) = some false ∧ Q (.bl false) H))
def spChkBook (C : Addr) : Sp := fun vs H Q _ => ∃ (q : Addr) (sg : List Nat) (us : List V) (as : List Arc), vs = [.ref q] ∧ LoomAt C H q sg us as ∧ kdB as = true ∧ ∀ H', Same H H' → Q .non H'
def spPWords (C : Addr) : Sp := fun vs H Q _ => ∃ (q : Addr) (sg : List Nat) (us : List V) (ws : List (List Nat)), vs = [.ref q] ∧ LoomAt C H q sg us (bka ws) ∧
  ∀ H' (r : Addr), Same H H' → H r = none → H' r = some (.lst (txts ws)) → Q (.ref r) H'
theorem kd_book (ws : List (List Nat)) : kdB (bka ws) = true := by simp [kdB, bka]
theorem kit_self {K : PySem.W.Frag} (t : Value) : PySem.W.kitOne K t t = some true := by unfold PySem.W.kitOne; simp
theorem all_map_bl (l : List Bool) : (l.map V.bl).length = l.length := List.length_map _
theorem txt_at {ws : List (List Nat)} {i : Nat} {y : V} (h : (txts ws)[i]? = some y) : ∃ u, ws[i]? = some u ∧ y = .str (SX.S u) := by
  rw [txts, List.getElem?_map] at h
  obtain ⟨u, hu, e⟩ := Option.map_eq_some_iff.mp h
  exact ⟨u, hu, e.symm⟩
theorem nat_zero (n : Nat) : decide (V.int (n : Int) = V.int 0) = (n == 0) := by
  by_cases h : n = 0
  · subst h; rfl
  · rw [decide_eq_false (fun z => h (by injection z with z; omega))]
    exact (beq_false_of_ne h).symm
section
variable {P : Program} {w : World} {K : PySem.W.Frag} {mg : Str → Option Value} {base : Heap}
theorem ok_book (T : Tx K mg) : FnOk P w K mg base CX0 6 T.f_book T.fd_book P_book (spBook T.C_Loom) := by
  have G_check_signs : FnOk P w K mg base CX0 2 T.f_check_signs T.fd_check_signs P_check_signs spChkSigns := ok_check_signs T
  have G_is_sequence : FnOk P w K mg base CX0 1 T.f_is_sequence T.fd_is_sequence P_is_sequence (spSequence K) := ok_is_sequence T
  have G_Loom_init : FnOk P w K mg base CX0 4 T.f_Loom_init T.fd_Loom_init P_Loom_init (spInit T.C_Loom) := ok_Loom_init T
  refine T.F_book.ok sc_book (fun vs H Q E h => ?_) (fun cdv A outer s H vs Q E hr h => ?_)
  · obtain ⟨a, sg, ws, rfl, _⟩ := h
    rfl
  · obtain ⟨a, sg, ws, rfl, ha, hsg, h1, h2, hw, k⟩ := h
    refine ⟨_, (pss_cons (ps_expr (pe_call G_check_signs (hr.mono (by decide)) rfl T.m_check_signs T.F_check_signs.kp T.b_check_signs .nil pass0 (pa_cons (pv 0) pa_nil)))
        (pss_cons (ps_if (pt_not (pt_val (pe_call G_is_sequence (hr.mono (by decide)) rfl T.m_is_sequence T.F_is_sequence.kp T.b_is_sequence .nil pass0 (pa_cons (pv 1) (pa_cons pe_int (pa_cons (pe_glob (v := V.int 200) rfl T.g_MOST_ARCS ⟨_, rfl⟩) pa_nil)))))) (pss_one ps_never) pss_nil)
        (pss_one (ps_ret (pe_make T.M_Loom G_Loom_init (hr.mono (by decide)) rfl T.g_Loom T.b_Loom_init .nil pass0 (pa_cons (pv 0) (pa_cons (pe_lc (own := [("word", 2)]) (g := (gName 2)) rfl sc_book.nd (pi_or (pi_list (pv 1)) (pi_tup (pv 1))) (blkOk_by (N := N_book) (sc := defScope s_book) (by decide +kernel)) (fun _ _ _ _ _ => (pg_name (i := 2) sc_book.nd rfl (Or.inl rfl))) (fun _ _ _ _ _ => pts_nil) (fun _ _ _ _ _ => (pe_tup (pa_cons pe_int (pa_cons (pv 2) (pa_cons pe_int pa_nil)))))) pa_nil))))))), ?_⟩
    refine ⟨_, rfl, sg, rfl, hsg, fun H1 s1 => ?_⟩
    refine ⟨_, rfl, a, txts ws, 1, 200, rfl, ha.same s1, fun H2 b s2 hb => ⟨b, rfl, ?_⟩⟩
    have wl : (txts ws).length = ws.length := by rw [txts, List.length_map]
    rw [hb.mpr ⟨by omega, by omega⟩]
    have s12 := s1.trans s2
    refine ⟨_, rfl, ?_⟩
    have step : ∀ {Q : VK} {D : Addr} {i : Nat} {H' : Hp} {u : List Nat}, H2 D = none → ws[i]? = some u → (∃ us, us.length = i ∧ H' D = some (.lst us) ∧ Arcs H' us ((bka ws).take i) ∧ Same H2 H') →
        ∀ t, H' t = none → ∃ acc, upd H' t (.tup [.int 0, .str (SX.S u), .int 0]) D = some (.lst acc) ∧ acc.length < sizeLine ∧ ∃ us, us.length = i + 1 ∧ upd (upd H' t (.tup [.int 0, .str (SX.S u), .int 0])) D (.lst (acc ++ [.ref t])) D = some (.lst us) ∧ Arcs (upd (upd H' t (.tup [.int 0, .str (SX.S u), .int 0])) D (.lst (acc ++ [.ref t]))) us ((bka ws).take (i + 1)) ∧ Same H2 (upd (upd H' t (.tup [.int 0, .str (SX.S u), .int 0])) D (.lst (acc ++ [.ref t]))) := by
      rintro Q D i H' u hD hu ⟨us, rfl, hDl, harc, sm⟩ t ht
      have nt : D ≠ t := fun z => hp_ne hDl ht z.symm
      have hi := (List.getElem?_eq_some_iff.mp hu).1
      have sn : Same H' (upd H' t (.tup [.int 0, .str (SX.S u), .int 0])) := Same.new _ ht
      have hD1 : upd H' t (.tup [.int 0, .str (SX.S u), .int 0]) D = some (.lst us) := by rw [upd_ne nt]; exact hDl
      refine ⟨us, hD1, lt_size (by omega), us ++ [.ref t], by simp, upd_same, ?_, (sm.trans sn).updNew hD⟩
      have e : (bka ws).take (us.length + 1) = (bka ws).take us.length ++ [(0, u, 0)] := by
        rw [take_snoc (by rw [bka, List.getElem?_map, hu]; rfl)]
      rw [e]
      exact ((harc.same sn).snoc (t := t) (a := (0, u, 0)) upd_same).updL hD1
    have fin : ∀ {H3 : Hp} {D : Addr}, H2 D = none → (∃ us, us.length = ws.length ∧ H3 D = some (.lst us) ∧ Arcs H3 us ((bka ws).take ws.length) ∧ Same H2 H3) → ∃ us, H3 D = some (.lst us) ∧ Arcs H3 us (bka ws) ∧ Same H H3 := by
      rintro H3 D hD ⟨us, hl, hDl, harc, sm⟩
      rw [List.take_of_length_le (by rw [bka_len]; exact Nat.le_refl _)] at harc
      exact ⟨us, hDl, harc, s12.trans sm⟩
    have mk : ∀ {H3 : Hp} {D : Addr} {us : List V}, H3 D = some (.lst us) → Arcs H3 us (bka ws) → Same H H3 → ∀ x dx, H3 x = none → H3 dx = none → x ≠ dx → ∃ p dx' a' sg' us' as', [V.ref x, .str (SX.S sg), .ref D] = [.ref p, .str (SX.S sg'), .ref a'] ∧ upd (upd H3 dx (.own x)) x (.ins T.C_Loom dx []) p = some (.ins T.C_Loom dx' []) ∧
        upd (upd H3 dx (.own x)) x (.ins T.C_Loom dx []) a' = some (.lst us') ∧ Arcs (upd (upd H3 dx (.own x)) x (.ins T.C_Loom dx [])) us' as' ∧ OkW sg' as' ∧ Signs sg' ∧
        ∀ (H' : Hp) (Tt : Addr), Ex p (upd (upd H3 dx (.own x)) x (.ins T.C_Loom dx [])) H' → upd (upd H3 dx (.own x)) x (.ins T.C_Loom dx []) Tt = none → H' Tt = some (.tup us') → H' p = some (.ins T.C_Loom dx' (lf sg' Tt)) → V.non = V.non ∧ Q (.ref x) H' := by
      intro H3 D us hDl harc sm x dx hx hd hne
      have S : Same H3 (upd (upd H3 dx (.own x)) x (.ins T.C_Loom dx [])) := (Same.new _ hd).trans (Same.new _ (by rw [upd_ne hne]; exact hx))
      refine ⟨x, dx, D, sg, us, bka ws, rfl, upd_same, S _ _ hDl, harc.same S, bka_ok h1 h2 hw, hsg, fun H' Tt x3 hT hTus g => ⟨rfl, ?_⟩⟩
      have s3 : Same H3 H' := fun b o e => x3 _ _ (ne_of_none e hx) (S _ _ e)
      exact k H' x us (sm.trans s3) (sm.free hx) ⟨dx, Tt, g, hTus, (harc.same s3), bka_ok h1 h2 hw, hsg⟩
    rcases ha with ha | ha
    · refine .inl ⟨_, rfl, a, rfl, ⟨_, SqL.of (s12 _ _ ha)⟩, fun D hD => lc_list (K := K) (a := a) (xs := txts ws) (fun i H' => ∃ us, us.length = i ∧ H' D = some (.lst us) ∧ Arcs H' us ((bka ws).take i) ∧ Same H2 H') ⟨[], rfl, upd_same, Arcs.nil _, Same.new _ hD⟩ (fun i H' _ ⟨_, _, _, _, sm⟩ => SqL.of (sm _ _ (s12 _ _ ha))) ?_ ?_⟩
      · rintro i y H' hy P
        obtain ⟨u, hu, rfl⟩ := txt_at hy
        exact ⟨rfl, _, rfl, le_size (by simp), fun t ht => step (Q := Q) hD hu P t ht⟩
      · intro H3 P
        rw [wl] at P
        obtain ⟨us, hDl, harc, sm⟩ := fin hD P
        exact fun x dx hx hd hne => mk hDl harc sm x dx hx hd hne.symm
    · refine .inr ⟨_, rfl, a, rfl, ⟨_, SqT.of (s12 _ _ ha)⟩, fun D hD => lc_tup (K := K) (a := a) (xs := txts ws) (fun i H' => ∃ us, us.length = i ∧ H' D = some (.lst us) ∧ Arcs H' us ((bka ws).take i) ∧ Same H2 H') ⟨[], rfl, upd_same, Arcs.nil _, Same.new _ hD⟩ (fun i H' _ ⟨_, _, _, _, sm⟩ => SqT.of (sm _ _ (s12 _ _ ha))) ?_ ?_⟩
      · rintro i y H' hy P
        obtain ⟨u, hu, rfl⟩ := txt_at hy
        exact ⟨rfl, _, rfl, le_size (by simp), fun t ht => step (Q := Q) hD hu P t ht⟩
      · intro H3 P
        rw [wl] at P
        obtain ⟨us, hDl, harc, sm⟩ := fin hD P
        exact fun x dx hx hd hne => mk hDl harc sm x dx hx hd hne.symm
theorem ok_is_book (T : Tx K mg) : FnOk P w K mg base CX0 1 T.f_is_book T.fd_is_book P_is_book (spIsBook K T.C_Loom) := by
  refine T.F_is_book.ok sc_is_book (fun vs H Q E h => ?_) (fun cdv A outer s H vs Q E hr h => ?_)
  · obtain ⟨v, rfl, _⟩ := h
    rfl
  · obtain ⟨v, rfl, h⟩ := h
    refine ⟨_, (pss_one (ps_ret (pe_and (pe_callB (call_isiZ (K := K) rfl) rfl T.n_isinstance (by decide +kernel) (pa_cons (pv 0) (pa_cons (pe_glob (v := V.ref T.C_Loom) rfl T.g_Loom rfl) pa_nil))) (pe_one (pe_callB (cr_allK (K := K) rfl rfl) rfl T.n_all (by decide +kernel) (pa_cons (pe_lc (own := [("arc", 1)]) (g := (gName 1)) rfl sc_is_book.nd (pi_tup (pe_fld (pv 0) rfl)) (blkOk_by (N := N_is_book) (sc := defScope s_is_book) (by decide +kernel)) (fun _ _ _ _ _ => (pg_name (i := 1) sc_is_book.nd rfl (Or.inl rfl))) (fun _ _ _ _ _ => pts_nil) (fun _ _ _ _ _ => (pe_and (pe_cmpR op_eq (pe_ix (ix_tupK (K := K) rfl) (pv 1) pe_int (fun _ _ => rfl)) pe_int (nomark _)) (pe_one (pe_cmpR op_eq (pe_ix (ix_tupK (K := K) rfl) (pv 1) pe_int (fun _ _ => rfl)) pe_int (nomark _)))))) pa_nil)))))), ?_⟩
    rcases h with ⟨q, sg, us, as, rfl, ⟨dx, TT, hq, hT, harc, hok, hsg⟩, k⟩ | ⟨t, ht, hk, k⟩
    · refine ⟨_, rfl, _, _, _, _, true, rfl, .own _, .x (.base (.ins hq T.cl_Loom T.ic_Loom T.ig T.it T.im_Loom)), kit_self _, true, rfl, ?_⟩
      refine ⟨_, rfl, q, _, dx, _, _, rfl, hq, T.cl_Loom, T.na_Loom_arcs, lf_arcs _ _, TT, rfl, ⟨_, SqT.of hT⟩, fun D hD => lc_tup (K := K) (a := TT) (xs := us) (fun i H' => H' D = some (.lst (((as.take i).map fun a => a.1 == 0 && a.2.2 == 0).map V.bl)) ∧ Same H H') ⟨upd_same, Same.new _ hD⟩ (fun i H' _ ⟨_, sm⟩ => SqT.of (sm _ _ hT)) ?_ ?_⟩
      · rintro i y H1 hy ⟨hDl, sm⟩
        have hi : i < as.length := by rw [← harc.1]; exact (List.getElem?_eq_some_iff.mp hy).1
        obtain ⟨t, hut, htt⟩ := harc.2 i as[i] (List.getElem?_eq_getElem hi)
        rw [hut] at hy
        cases hy
        have hl := hok.2.1
        have tk : as.take (i + 1) = as.take i ++ [as[i]] := (take_snoc (List.getElem?_eq_getElem hi)).symm
        refine ⟨rfl, _, rfl, t, _, _, _, rfl, rfl, SqT.of (sm _ _ htt), rfl, rfl, _, rfl, ?_⟩
        refine ite2 (fun c => ?_) (fun c => ?_)
        · refine ⟨_, rfl, t, _, _, _, rfl, rfl, SqT.of (sm _ _ htt), rfl, rfl, _, hDl, lt_size (by simp; omega), ?_, sm.updNew hD⟩
          rw [upd_same, tk, List.map_append, List.map_append, nat_zero] 
          rw [nat_zero] at c
          simp [of_decide_eq_true c]
        · refine ⟨_, hDl, lt_size (by simp; omega), ?_, sm.updNew hD⟩
          rw [upd_same, tk, List.map_append, List.map_append]
          rw [nat_zero] at c
          simp [c]
      · rintro H1 ⟨hDl, sm⟩
        refine ⟨D, _, rfl, SqL.of hDl, ?_⟩
        have e : as.take us.length = as := by rw [harc.1, List.take_length]
        rw [e, List.all_map]
        exact k H1 sm
    · exact ⟨_, rfl, _, _, _, _, false, rfl, .own _, ht, hk, false, rfl, k⟩
theorem ok_check_book (T : Tx K mg) : FnOk P w K mg base CX0 2 T.f_check_book T.fd_check_book P_check_book (spChkBook T.C_Loom) := by
  have G_is_book : FnOk P w K mg base CX0 1 T.f_is_book T.fd_is_book P_is_book (spIsBook K T.C_Loom) := ok_is_book T
  refine T.F_check_book.ok sc_check_book (fun vs H Q E h => ?_) (fun cdv A outer s H vs Q E hr h => ?_)
  · obtain ⟨q, sg, us, as, rfl, _⟩ := h
    rfl
  · obtain ⟨q, sg, us, as, rfl, hL, hkd, k⟩ := h
    refine ⟨_, (pss_one (ps_if (pt_not (pt_val (pe_call G_is_book (hr.mono (by decide)) rfl T.m_is_book T.F_is_book.kp T.b_is_book .nil pass0 (pa_cons (pv 0) pa_nil)))) (pss_one ps_never) pss_nil)), ?_⟩
    refine ⟨_, rfl, _, rfl, .inl ⟨q, sg, us, as, rfl, hL, fun H1 sm => ⟨_, rfl, ?_⟩⟩⟩
    rw [hkd]
    exact k H1 sm
theorem ok_words (T : Tx K mg) : FnOk P w K mg base CX0 3 T.f_words T.fd_words P_words (spPWords T.C_Loom) := by
  have G_check_book : FnOk P w K mg base CX0 2 T.f_check_book T.fd_check_book P_check_book (spChkBook T.C_Loom) := ok_check_book T
  refine T.F_words.ok sc_words (fun vs H Q E h => ?_) (fun cdv A outer s H vs Q E hr h => ?_)
  · obtain ⟨q, sg, us, ws, rfl, _⟩ := h
    rfl
  · obtain ⟨q, sg, us, ws, rfl, hL, k⟩ := h
    refine ⟨_, (pss_cons (ps_expr (pe_call G_check_book (hr.mono (by decide)) rfl T.m_check_book T.F_check_book.kp T.b_check_book .nil pass0 (pa_cons (pv 0) pa_nil)))
        (pss_one (ps_ret (pe_lc (own := [("arc", 1)]) (g := (gName 1)) rfl sc_words.nd (pi_tup (pe_fld (pv 0) rfl)) (blkOk_by (N := N_words) (sc := defScope s_words) (by decide +kernel)) (fun _ _ _ _ _ => (pg_name (i := 1) sc_words.nd rfl (Or.inl rfl))) (fun _ _ _ _ _ => pts_nil) (fun _ _ _ _ _ => (pe_ix (ix_tupK (K := K) rfl) (pv 1) pe_int (fun _ _ => rfl))))))), ?_⟩
    refine ⟨_, rfl, q, sg, us, bka ws, rfl, hL, kd_book ws, fun H1 s1 => ?_⟩
    obtain ⟨dx, TT, hq, hT, harc, hok, hsg⟩ := hL.same s1
    refine ⟨_, rfl, q, _, dx, _, _, rfl, hq, T.cl_Loom, T.na_Loom_arcs, lf_arcs _ _, TT, rfl, ⟨_, SqT.of hT⟩, fun D hD => lc_tup (K := K) (a := TT) (xs := us) (fun i H' => H' D = some (.lst (txts (ws.take i))) ∧ Same H1 H') ⟨upd_same, Same.new _ hD⟩ (fun i H' _ ⟨_, sm⟩ => SqT.of (sm _ _ hT)) ?_ ?_⟩
    · rintro i y H2 hy ⟨hDl, sm⟩
      have hl := hok.2.1
      rw [bka_len] at hl
      have hi : i < ws.length := by rw [← bka_len, ← harc.1]; exact (List.getElem?_eq_some_iff.mp hy).1
      have ei : ws[i]? = some ws[i] := List.getElem?_eq_getElem hi
      obtain ⟨t, hut, htt⟩ := harc.2 i (0, ws[i], 0) (by rw [bka, List.getElem?_map, ei]; rfl)
      rw [hut] at hy
      cases hy
      refine ⟨rfl, _, rfl, t, _, _, _, rfl, rfl, SqT.of (sm _ _ htt), rfl, _, hDl, lt_size (by simp [txts]; omega), ?_, sm.updNew hD⟩
      rw [upd_same, ← take_snoc ei, txts, txts, List.map_append]
      rfl
    · rintro H2 ⟨hDl, sm⟩
      have e : ws.take us.length = ws := by rw [harc.1, bka_len, List.take_length]
      rw [e] at hDl
      exact k H2 D (s1.trans sm) (s1.free hD) hDl
end
end J


set_option Elab.async false
set_option linter.all false
set_option maxRecDepth 100000
set_option maxHeartbeats 4000000
namespace J
open PySem L2
/-! ### what two looms are, held against each other -/
theorem S_inj {u v : List Nat} (h : SX.S u = SX.S v) : u = v := by
  unfold SX.S at h
  injection h with h
  simpa using h
def arcD (a : Arc) : PyData := .tuple [.int (a.1 : Int), .str (SX.S a.2.1), .int (a.2.2 : Int)]
theorem dp_arc {K : PySem.W.Frag} {H : Hp} {t : Addr} {a : Arc} (h : H t = some (arcHO a)) : Dp K H (.ref t) (arcD a) := .tup (SqT.of h) (.cons (.int _) (.cons (.str _) (.cons (.int _) .nil)))
theorem dp_arcs {K : PySem.W.Frag} {H : Hp} : ∀ {us : List V} {as : List Arc}, Arcs H us as → DpAll K H us (as.map arcD)
  | [], [], _ => .nil
  | [], _ :: _, h => by have := h.1; simp at this
  | _ :: _, [], h => by have := h.1; simp at this
  | u :: us, a :: as, h => by
    obtain ⟨t, e, ht⟩ := h.2 0 a rfl
    cases e
    refine .cons (dp_arc ht) (dp_arcs ⟨by have := h.1; simpa using this, fun i b hb => ?_⟩)
    obtain ⟨t', e', ht'⟩ := h.2 (i + 1) b (by simpa using hb)
    exact ⟨t', by simpa using e', ht'⟩
theorem str_beq (u v : List Nat) : (SX.S u == SX.S v) = decide (u = v) := by
  by_cases h : u = v
  · subst h; simp
  · have n : SX.S u ≠ SX.S v := fun z => h (S_inj z)
    rw [decide_eq_false h]
    exact beq_false_of_ne n
theorem nat_beq (m n : Nat) : ((m : Int) == (n : Int)) = decide (m = n) := by
  by_cases h : m = n
  · subst h; simp
  · rw [decide_eq_false h]
    exact beq_false_of_ne (fun z => h (by exact_mod_cast z))
theorem eqv_arc (a b : Arc) : PyData.eqv (arcD a) (arcD b) = decide (a = b) := by
  show (((a.1 : Int) == (b.1 : Int)) && ((SX.S a.2.1 == SX.S b.2.1) && (((a.2.2 : Int) == (b.2.2 : Int)) && true))) = _
  rw [nat_beq, nat_beq, str_beq]
  obtain ⟨a1, a2, a3⟩ := a
  obtain ⟨b1, b2, b3⟩ := b
  rw [Bool.eq_iff_iff]
  simp
theorem eqv_arcs : ∀ as bs : List Arc, PyData.eqvAll (as.map arcD) (bs.map arcD) = decide (as = bs)
  | [], [] => rfl
  | [], b :: bs => by rw [decide_eq_false (by simp)]; rfl
  | a :: as, [] => by rw [decide_eq_false (by simp)]; rfl
  | a :: as, b :: bs => by
    show (PyData.eqv (arcD a) (arcD b) && PyData.eqvAll (as.map arcD) (bs.map arcD)) = _
    rw [eqv_arc, eqv_arcs as bs, Bool.eq_iff_iff]
    simp
def txtD (ws : List (List Nat)) : List PyData := ws.map fun u => .str (SX.S u)
theorem dp_txts {K : PySem.W.Frag} {H : Hp} : ∀ ws : List (List Nat), DpAll K H (txts ws) (txtD ws)
  | [] => .nil
  | _ :: r => .cons (.str _) (dp_txts r)
theorem eqv_txts : ∀ as bs : List (List Nat), PyData.eqvAll (txtD as) (txtD bs) = decide (as = bs)
  | [], [] => rfl
  | [], b :: bs => by rw [decide_eq_false (by simp)]; rfl
  | a :: as, [] => by rw [decide_eq_false (by simp)]; rfl
  | a :: as, b :: bs => by
    show ((SX.S a == SX.S b) && PyData.eqvAll (txtD as) (txtD bs)) = _
    rw [str_beq, eqv_txts as bs, Bool.eq_iff_iff]
    simp
theorem str_ok {u : List Nat} (h : ∀ c ∈ u, c < 1114112) : PyData.strOk (SX.S u) = true := by
  unfold PyData.strOk SX.S
  simp only [List.all_toArray, List.all_eq_true, decide_eq_true_eq]
  exact h
theorem word_small {sg u : List Nat} (hs : Signs sg) (h : Word sg u) : ∀ c ∈ u, c < 1114112 := fun c hc => by
  have := (hs.2.2.1 c (h.2.2 c hc)).2
  omega
theorem lay_arcs {sg : List Nat} (hs : Signs sg) : ∀ as : List Arc, (∀ a ∈ as, OkArc sg a) → PyData.canLayAll0 (as.map arcD) = true
  | [], _ => rfl
  | a :: r, h => by
    have e : PyData.strOk (SX.S a.2.1) = true := str_ok (word_small hs (h a (by simp)).2.1)
    have ea : PyData.canLay0 (arcD a) = true := by
      show (true && (PyData.strOk (SX.S a.2.1) && (true && true))) = true
      rw [e]; rfl
    show (PyData.canLay0 (arcD a) && PyData.canLayAll0 (r.map arcD)) = true
    rw [ea, lay_arcs hs r fun b hb => h b (by simp [hb])]
    rfl
theorem deep_arcs : ∀ as : List Arc, PyData.depthAll (as.map arcD) ≤ 1
  | [] => by simp [PyData.depthAll]
  | a :: r => by
    show max (PyData.depth (arcD a)) (PyData.depthAll (r.map arcD)) ≤ 1
    have e : PyData.depth (arcD a) = 1 := by simp [arcD, PyData.depth, PyData.depthAll]
    have := deep_arcs r
    omega
theorem shaped_arcsL {sg : List Nat} {as : List Arc} (hs : Signs sg) (h : ∀ a ∈ as, OkArc sg a) : SeqAt.shaped (.tuple (as.map arcD)) = true ∧ SeqAt.shaped (.list (as.map arcD)) = true := by
  have e1 := lay_arcs hs as h
  have e2 : PyData.depthAll (as.map arcD) + 1 ≤ 64 := by
    have := deep_arcs as
    omega
  constructor
  · have q1 : PyData.canLay0 (.tuple (as.map arcD)) = true := e1
    have q2 : PyData.depth (.tuple (as.map arcD)) ≤ 64 := e2
    unfold SeqAt.shaped
    rw [q1, decide_eq_true q2]
    rfl
  · have q1 : PyData.canLay0 (.list (as.map arcD)) = true := e1
    have q2 : PyData.depth (.list (as.map arcD)) ≤ 64 := e2
    unfold SeqAt.shaped
    rw [q1, decide_eq_true q2]
    rfl
theorem lay_txts : ∀ ws : List (List Nat), (∀ u ∈ ws, ∀ c ∈ u, c < 1114112) → PyData.canLayAll0 (txtD ws) = true
  | [], _ => rfl
  | u :: r, h => by
    show (PyData.strOk (SX.S u) && PyData.canLayAll0 (txtD r)) = true
    rw [str_ok (h u (by simp)), lay_txts r fun v hv => h v (by simp [hv])]
    rfl
theorem deep_txts : ∀ ws : List (List Nat), PyData.depthAll (txtD ws) = 0
  | [] => by simp [txtD, PyData.depthAll]
  | u :: r => by
    show max (PyData.depth (.str (SX.S u))) (PyData.depthAll (txtD r)) = 0
    rw [deep_txts r]
    simp [PyData.depth]
theorem shaped_txts {ws : List (List Nat)} (h : ∀ u ∈ ws, ∀ c ∈ u, c < 1114112) : SeqAt.shaped (.list (txtD ws)) = true := by
  have q1 : PyData.canLay0 (.list (txtD ws)) = true := lay_txts ws h
  have q2 : PyData.depth (.list (txtD ws)) ≤ 64 := by
    show PyData.depthAll (txtD ws) + 1 ≤ 64
    rw [deep_txts]
    decide
  unfold SeqAt.shaped
  rw [q1, decide_eq_true q2]
  rfl
/-- two looms, and whether they are the same -/
def Eql (C : Addr) (a b : Addr) (r : Bool) (H : Hp) : Prop := ∃ sg us as sg' us' as', LoomAt C H a sg us as ∧ LoomAt C H b sg' us' as' ∧ r = decide (sg = sg' ∧ as = as')
/-- values that are told apart by what they are -/
def Flat (v : V) : Prop := (∃ b, v = .bl b) ∨ (∃ i, v = .int i) ∨ (∃ z, v = .str z)
def spLike : Sp := fun vs H Q _ => ∃ x y, vs = [x, y] ∧ (Flat x ∧ y = x ∧ Q (.bl true) H ∨
  ∃ (a b : Addr) (xs : List V), x = .ref a ∧ y = .ref b ∧ H a = some (.lst xs) ∧ H b = some (.lst xs) ∧ (∀ v ∈ xs, Flat v) ∧ xs.length ≤ 1000 ∧ ∀ H', Same H H' → Q (.bl true) H')
def spFlat : Sp := fun vs H Q _ => ∃ x, vs = [x, x] ∧ Flat x ∧ Q (.bl true) H
theorem flat_txts (ws : List (List Nat)) : ∀ v ∈ txts ws, Flat v := fun v hv => by
  obtain ⟨u, _, rfl⟩ := List.mem_map.mp hv
  exact .inr (.inr ⟨_, rfl⟩)
theorem third {r : Int} (h0 : 0 ≤ r) (h1 : r < 4) : ∃ m : Nat, r.fdiv 3 = (m : Int) ∧ m ≤ 63 := by
  have h : r = 0 ∨ r = 1 ∨ r = 2 ∨ r = 3 := by omega
  rcases h with rfl | rfl | rfl | rfl
  · exact ⟨0, rfl, by decide⟩
  · exact ⟨0, rfl, by decide⟩
  · exact ⟨0, rfl, by decide⟩
  · exact ⟨1, rfl, by decide⟩
def spNo : Sp := fun _ _ _ _ => False
def spOdd (K : PySem.W.Frag) (ns : List Int) (C : Addr) : Sp := fun vs H Q _ => ∃ (a p : Addr), vs = [.ref a, .ref p] ∧ St K ns a H p ∧ ∀ H' x t, Ex p H H' → St K ns a H' p → TyZ K H' x t → PySem.W.kitOne K t (.ref C) = some false → Q x H'
def spArcs (K : PySem.W.Frag) (ns : List Int) : Sp := fun vs H Q _ => ∃ (a p : Addr) (sg : List Nat), vs = [.ref a, .ref p, .str (SX.S sg)] ∧ St K ns a H p ∧ Signs sg ∧
  ∀ H' (q : Addr) us as, Ex p H H' → St K ns a H' p → H q = none → q ≠ p → H' q = some (.lst us) → Arcs H' us as → OkW sg as → Q (.ref q) H'
theorem kit_own {K : PySem.W.Frag} {t : Value} {C : Addr} {b : Bool} (h1 : PySem.W.isClsIn K C = true) (h2 : PySem.W.typeIn K (.ref C) = some (.type "type")) (h3 : PySem.W.subIn K t (.ref C) = some b) (hb : t = .ref C → b = true) : PySem.W.kitOne K t (.ref C) = some b := by
  unfold PySem.W.kitOne
  by_cases e : (t == Value.ref C) = true
  · rw [if_pos e, hb (eq_of_beq e)]
  · rw [if_neg e]
    have q : ((PySem.W.clsIn K C).isSome && PySem.W.typeIn K (.ref C) == some (.type "type")) = true := by
      have h1' : (PySem.W.clsIn K C).isSome = true := h1
      rw [h1', h2] <;> rfl
    show (if ((PySem.W.clsIn K C).isSome && PySem.W.typeIn K (.ref C) == some (.type "type")) = true then PySem.W.subIn K t (.ref C) else none) = some b
    rw [if_pos q]
    exact h3
theorem Arcs.st {K : PySem.W.Frag} {ns : List Int} {a p : Addr} {H H' : Hp} {vs : List V} {as : List Arc} (h : Arcs H vs as) (st : St K ns a H p) (x : Ex p H H') : Arcs H' vs as := by
  obtain ⟨⟨b0, b1, b2, b3, hp, _⟩, _⟩ := st
  exact h.ex x hp
section
variable {P : Program} {w : World} {K : PySem.W.Frag} {mg : Str → Option Value} {base : Heap}
theorem ok_Loom_eq (T : Tx K mg) : FnOk P w K mg base CX0 1 T.f_Loom_eq T.fd_Loom_eq P_Loom_eq (spEqB (Eql T.C_Loom)) := by
  refine T.F_Loom_eq.ok sc_Loom_eq (fun vs H Q E h => ?_) (fun cdv A outer s H vs Q E hr h => ?_)
  · obtain ⟨a, b, r, rfl, _⟩ := h
    rfl
  · obtain ⟨a, b, r, rfl, ⟨sg, us, as, sg', us', as', ⟨dx, TT, hq, hT, harc, hok, hsg⟩, ⟨dx', TT', hq', hT', harc', hok', hsg'⟩, rfl⟩, k⟩ := h
    refine ⟨_, (pss_one (ps_ret (pe_and (pe_callB (call_isiZ (K := K) rfl) rfl T.n_isinstance (by decide +kernel) (pa_cons (pv 1) (pa_cons (pe_glob (v := V.ref T.C_Loom) rfl T.g_Loom rfl) pa_nil))) (pe_and (pe_cmpR op_eq (pe_fld (pv 0) rfl) (pe_fld (pv 1) rfl) (nomark _)) (pe_one (pe_cmpR (op_eqD hr.units) (pe_fld (pv 0) rfl) (pe_fld (pv 1) rfl) (nomark _))))))), ?_⟩
    refine ⟨_, rfl, _, _, _, _, true, rfl, .own _, .x (.base (.ins hq' T.cl_Loom T.ic_Loom T.ig T.it T.im_Loom)), kit_self _, true, rfl, ?_⟩
    refine ⟨_, rfl, a, _, dx, _, _, rfl, hq, T.cl_Loom, T.na_Loom_signs, lf_signs _ _, ?_⟩
    refine ⟨_, rfl, b, _, dx', _, _, rfl, hq', T.cl_Loom, T.na_Loom_signs, lf_signs _ _, ?_⟩
    refine ⟨rfl, _, rfl, ?_⟩
    refine ite2 (fun c => ?_) (fun c => ?_)
    · have e0 := of_decide_eq_true c
      injection e0 with e0
      have e1 : sg = sg' := S_inj e0
      subst e1
      refine ⟨_, rfl, a, _, dx, _, _, rfl, hq, T.cl_Loom, T.na_Loom_arcs, lf_arcs _ _, ?_⟩
      refine ⟨_, rfl, b, _, dx', _, _, rfl, hq', T.cl_Loom, T.na_Loom_arcs, lf_arcs _ _, ?_⟩
      refine ⟨_, _, .tup (SqT.of hT) (dp_arcs harc), .tup (SqT.of hT') (dp_arcs harc'), (shaped_arcsL hsg hok.2.2).1, (shaped_arcsL hsg hok'.2.2).1, ?_⟩
      have e2 : PyData.eqv (.tuple (as.map arcD)) (.tuple (as'.map arcD)) = decide (sg = sg ∧ as = as') := by
        show PyData.eqvAll (as.map arcD) (as'.map arcD) = _
        rw [eqv_arcs]
        simp
      rw [e2]
      exact k H Ext.rfl'
    · have n : ¬ (sg = sg' ∧ as = as') := fun z => c (decide_eq_true (by rw [z.1]))
      rw [decide_eq_false n] at k
      exact k H Ext.rfl'
end
end J


set_option Elab.async false
set_option linter.all false
set_option maxRecDepth 100000
set_option maxHeartbeats 4000000
/-! list(d.values()) -/
namespace L2
open PySem PySem.Spec PyProof.Rows
def tListVals (te : TE) : TE := fun σ H Q => te σ H fun x H1 => ∃ d kvs, x = V.ref d ∧ H1 d = some (.dK kvs) ∧ ∀ p, H1 p = none → Q (.ref p) (upd H1 p (.lst (kvs.map (·.2))))
theorem kv_vals {κ : Type} : ∀ {kvs : List (κ × V)} {vs : List (κ × Value)}, KV kvs vs → Vals (kvs.map (·.2)) (vs.map (·.2))
  | [], [], _ => .nil
  | _ :: _, _ :: _, .cons h t => .cons h.2 (kv_vals t)
section
variable {X : Cx} {e : Expr} {te : TE} {p apos cpos pos : Pos}
theorem pe_listVals (hc : X.calm = true) (he : PE X e te) (hg : Gl X "list") (hm : X.mg "list" = none) (hv : bootBuiltins "list" = some (.type "list")) (hbase : attributeBase e "values" X.env (eval e X.env) = eval e X.env := by rfl) (hline : (apos.endLine == cpos.line) = true := by rfl)
    (hs : starEach [.Call (.Attribute e "values" apos) [] [] cpos] X.env = (false, eval (.Call (.Attribute e "values" apos) [] [] cpos) X.env) :: starEach [] X.env := by rfl) :
    PE X (.Call (.Name "list" p) [.Call (.Attribute e "values" apos) [] [] cpos] [] pos) (tListVals te) := by
  refine ⟨fun pins s σ H Q I hq => ?_⟩
  refine wpAny_Call_Name_kw (ld_blt I hg hm hv ?_)
  refine PyProof.Rows.callWith_type1 ?_ hs rfl
  rw [hs]
  show wpAny _ _ (spliced ((false, eval (.Call (.Attribute e "values" apos) [] [] cpos) X.env) :: backTo pos (starEach [] X.env))) _ _ s
  refine Calls.spliced_cons ?_
  refine wpAny_Call_method (T := "dict") (id := "dict.values") hbase rfl hline F.plainAttrs_dict F.slot_dict_values F.type_dict_values (thn (he.run pins s σ H _ I hq) fun u s1 ⟨x, H1, I1, rx, d, kvs, ex, hd, q⟩ => ?_)
  subst ex
  obtain rfl : u = Value.ref d := rx
  obtain ⟨hz, hs0, vs, kv, hdo⟩ := I1.hok d _ hd
  obtain ⟨ep, hat⟩ := hdo.dictAt
  have lk : kvs.length = vs.length := Paired.length kv
  have I2 : Inv X pins σ H1 { s1 with heap := s1.heap.push { cls := .type "dict_values", data := .fields #[.ref d] } } := I1.kept (t' := s1.toks) fun b ob q => Heap.get?_push_of_some _ q
  refine ⟨hdo.typeIs, hdo.mapOf.noDict, ?_⟩
  show wpAny _ _ (callWith cpos (.builtin "dict.values") [.ref d] [] []) _ X.xe s1
  refine method_meetsIn F.slot_dict_values F.entry_dict_values rfl (PySem.evalArgs_none ⟨rfl, hdo.typeIs, F.args_dict_values_1 _, _, meets_dict_values (mixKind X.prog X.w) d hs0, ⟨vs, hdo⟩, ?_⟩)
  refine Calls.spliced_nil ?_
  refine PySem.W.kdl_call (PySem.W.kdl_values (knd := mixKind X.prog X.w) (kvs := vs) (ep := ep) (r := s1.heap.objs.size) (d := d)) (I1.ok.hd hc) ⟨⟨_, Heap.get?_push_size _ rfl, rfl, rfl⟩, hat.push _⟩ (by rw [← lk]; exact hz) fun h' tk acc c' hk hD hacc => ?_
  have ev : acc.toList = vs.map (·.2) := PySem.W.kdl_vals_eq _ (by rw [Array.length_toList]; exact hacc.1) fun j v e => hacc.2 j v (by rw [← Array.getElem?_toList]; exact e)
  refine ⟨.ref _, upd H1 _ (.lst (kvs.map (·.2))), I2.laid (t' := tk) hk (Nat.le_refl _)
    (show ObjOk X.prog X.w _ _ _ (.lst (kvs.map (·.2))) from ⟨by rw [List.length_map]; exact hz, acc.toList, c', by rw [ev]; exact kv_vals kv, by rw [Array.toArray_toList]; exact hD⟩), rfl, q _ (I2.hok.fresh (Nat.le_refl _))⟩
end
end L2

set_option Elab.async false
set_option linter.all false
set_option maxRecDepth 100000
set_option maxHeartbeats 4000000
namespace J
open PySem L2
def OkAll (as : List Arc) : Prop := as.length ≤ 100000 ∧ ∀ a ∈ as, a.1 ≤ 63 ∧ 1 ≤ a.2.1.length ∧ a.2.1.length ≤ 12 ∧ a.2.2 ≤ 63
theorem OkW.all {sg : List Nat} {as : List Arc} (h : OkW sg as) : OkAll as := ⟨by have := h.2.1; omega, fun a ha => by
  obtain ⟨h1, h2, h3⟩ := h.2.2 a ha
  exact ⟨h1, h2.1, h2.2.1, h3⟩⟩
theorem nodup_le : ∀ (n : Nat) (l : List Nat), l.Nodup → (∀ x ∈ l, x < n) → l.length ≤ n
  | 0, l, _, h => by
    cases l with
    | nil => simp
    | cons a r => exact absurd (h a (by simp)) (Nat.not_lt_zero _)
  | n + 1, l, hn, h => by
    have h1 : (l.erase n).length ≤ n := nodup_le n (l.erase n) (hn.erase n) fun x hx => by
      have q := h x (List.mem_of_mem_erase hx)
      have : x ≠ n := fun z => by
        subst z
        exact (List.Nodup.not_mem_erase hn) hx
      omega
    have h2 : l.length ≤ (l.erase n).length + 1 := by
      by_cases c : n ∈ l
      · rw [List.length_erase_of_mem c]; omega
      · rw [List.erase_of_not_mem c]; omega
    omega
/-! ### dicts of ints by states -/
abbrev KV := List (Nat × Int)
def get (e : KV) (g : Nat) : Option Int := (e.find? fun p => decide (p.1 = g)).map (·.2)
def put (e : KV) (g : Nat) (v : Int) : KV := if (e.any fun p => decide (p.1 = g)) = true then e.map (fun p => if p.1 = g then (p.1, v) else p) else e ++ [(g, v)]
def val (e : KV) (g : Nat) : Int := (get e g).getD 0
def enc (e : KV) : List (Key × V) := e.map fun p => (Sum.inl (p.1 : Int), V.int p.2)
theorem inl_eq (a b : Nat) : ((Sum.inl (a : Int) : Key) = Sum.inl (b : Int)) ↔ a = b := by
  constructor
  · intro h; injection h with h; omega
  · intro h; rw [h]
theorem valV_enc (e : KV) (g : Nat) : valV (enc e) (Sum.inl (g : Int)) = (get e g).map V.int := by
  unfold valV get enc
  induction e with
  | nil => rfl
  | cons p r ih =>
    rw [List.map_cons, List.find?_cons, List.find?_cons]
    by_cases c : p.1 = g
    · rw [decide_eq_true ((inl_eq p.1 g).mpr c), decide_eq_true c]
      rfl
    · rw [decide_eq_false (fun h => c ((inl_eq p.1 g).mp h)), decide_eq_false c]
      exact ih
theorem putK_enc (e : KV) (g : Nat) (v : Int) : putK (enc e) (Sum.inl (g : Int)) (V.int v) = enc (put e g v) := by
  unfold putK put enc
  have e1 : ((e.map fun p : Nat × Int => ((Sum.inl (p.1 : Int) : Key), V.int p.2)).any fun kv => decide (kv.1 = Sum.inl (g : Int))) = e.any fun p => decide (p.1 = g) := by
    rw [List.any_map]
    congr 1
    funext p
    exact decide_eq_decide.mpr (inl_eq p.1 g)
  rw [e1]
  by_cases c : (e.any fun p => decide (p.1 = g)) = true
  · rw [if_pos c, if_pos c, List.map_map, List.map_map]
    refine List.map_congr_left fun p _ => ?_
    by_cases d : p.1 = g
    · simp [d]
    · have d2 : ¬ ((p.1 : Int) = (g : Int)) := by omega
      simp [d, d2]
  · rw [if_neg c, if_neg c]
    simp
theorem get_none {e : KV} {g : Nat} (h : ∀ p ∈ e, p.1 ≠ g) : get e g = none := by
  unfold get
  rw [List.find?_eq_none.mpr fun p hp => by simpa using h p hp]
  rfl
theorem val_none {e : KV} {g : Nat} (h : ∀ p ∈ e, p.1 ≠ g) : val e g = 0 := by unfold val; rw [get_none h]; rfl
theorem get_mem {e : KV} {g : Nat} (h : (e.any fun p => decide (p.1 = g)) = true) : ∃ v, get e g = some v := by
  unfold get
  obtain ⟨p, hp, hg⟩ := List.any_eq_true.mp h
  cases q : e.find? fun p => decide (p.1 = g) with
  | none => exact absurd hg (List.find?_eq_none.mp q p hp)
  | some v => exact ⟨v.2, rfl⟩
theorem get_cons (p : Nat × Int) (r : KV) (h : Nat) : get (p :: r) h = if p.1 = h then some p.2 else get r h := by
  unfold get
  rw [List.find?_cons]
  by_cases c : p.1 = h
  · rw [decide_eq_true c, if_pos c]; rfl
  · rw [decide_eq_false c, if_neg c]
theorem get_append (a b : KV) (h : Nat) : get (a ++ b) h = (get a h).or (get b h) := by
  induction a with
  | nil => simp [get]
  | cons p r ih =>
    rw [List.cons_append, get_cons, get_cons, ih]
    by_cases c : p.1 = h
    · simp [c]
    · simp [c]
theorem get_map (e : KV) (g h : Nat) (v : Int) : get (e.map fun p => if p.1 = g then (p.1, v) else p) h = if h = g then (get e h).map fun _ => v else get e h := by
  induction e with
  | nil => simp [get]
  | cons p r ih =>
    rw [List.map_cons, get_cons, ih, get_cons]
    by_cases c : p.1 = g
    · by_cases d : h = g
      · subst d; simp [c]
      · have c2 : ¬ p.1 = h := fun z => d (z ▸ c)
        have c3 : ¬ g = h := fun z => d z.symm
        simp [c, d, c3]
    · by_cases d : h = g
      · subst d; simp [c]
      · simp [c, d]
theorem get_put (e : KV) (g : Nat) (v : Int) (h : Nat) : get (put e g v) h = if h = g then some v else get e h := by
  unfold put
  by_cases c : (e.any fun p => decide (p.1 = g)) = true
  · rw [if_pos c, get_map]
    by_cases d : h = g
    · subst d
      obtain ⟨w, hw⟩ := get_mem c
      simp [hw]
    · simp [d]
  · rw [if_neg c, get_append]
    have hn : ∀ p ∈ e, p.1 ≠ g := fun p hp z => c (List.any_eq_true.mpr ⟨p, hp, decide_eq_true z⟩)
    by_cases d : h = g
    · subst d
      rw [get_none hn]
      simp [get]
    · have d2 : ¬ g = h := fun z => d z.symm
      simp [d, get_cons, d2]
      simp [get]
theorem val_put (e : KV) (g : Nat) (v : Int) (h : Nat) : val (put e g v) h = if h = g then v else val e h := by
  unfold val
  rw [get_put]
  by_cases d : h = g
  · simp [d]
  · simp [d]
structure OkKV (e : KV) : Prop where
  nd : (e.map (·.1)).Nodup
  lt : ∀ p ∈ e, p.1 < 64
theorem OkKV.put {e : KV} (h : OkKV e) {g : Nat} (hg : g < 64) (v : Int) : OkKV (put e g v) := by
  unfold J.put
  by_cases c : (e.any fun p => decide (p.1 = g)) = true
  · rw [if_pos c]
    have ek : ((e.map fun p => if p.1 = g then (p.1, v) else p).map (·.1)) = e.map (·.1) := by
      rw [List.map_map]
      exact List.map_congr_left fun p _ => by by_cases d : p.1 = g <;> simp [d]
    refine ⟨by rw [ek]; exact h.nd, fun p hp => ?_⟩
    have : p.1 ∈ e.map (·.1) := by rw [← ek]; exact List.mem_map_of_mem hp
    obtain ⟨q, hq, e2⟩ := List.mem_map.mp this
    rw [← e2]
    exact h.lt q hq
  · rw [if_neg c]
    refine ⟨?_, fun p hp => ?_⟩
    · rw [List.map_append, List.nodup_append]
      refine ⟨h.nd, by simp, fun x hx y hy => ?_⟩
      obtain ⟨p, hp, rfl⟩ := List.mem_map.mp hx
      have : y = g := by simpa using hy
      rw [this]
      exact fun z => c (List.any_eq_true.mpr ⟨p, hp, decide_eq_true z⟩)
    · rcases List.mem_append.mp hp with q | q
      · exact h.lt p q
      · rw [List.mem_singleton.mp q]; exact hg
theorem OkKV.len {e : KV} (h : OkKV e) : e.length ≤ 64 := by
  have := nodup_le 64 (e.map (·.1)) h.nd fun x hx => by
    obtain ⟨p, hp, rfl⟩ := List.mem_map.mp hx
    exact h.lt p hp
  simpa using this
theorem OkKV.nil : OkKV [] := ⟨by simp, fun p hp => nomatch hp⟩
/-! ### sums -/
theorem sum_add (l : List Nat) (f g : Nat → Int) : (l.map fun x => f x + g x).sum = (l.map f).sum + (l.map g).sum := by
  induction l with
  | nil => rfl
  | cons a r ih => simp only [List.map_cons, List.sum_cons, ih]; omega
theorem sum_add' {α : Type} (l : List α) (f g : α → Int) : (l.map fun x => f x + g x).sum = (l.map f).sum + (l.map g).sum := by
  induction l with
  | nil => rfl
  | cons a r ih => simp only [List.map_cons, List.sum_cons, ih]; omega
theorem sum_zero {α : Type} (l : List α) (f : α → Int) (h : ∀ x ∈ l, f x = 0) : (l.map f).sum = 0 := by
  induction l with
  | nil => rfl
  | cons a r ih =>
    rw [List.map_cons, List.sum_cons, h a (by simp), ih fun x hx => h x (List.mem_cons_of_mem _ hx)]
    rfl
theorem sum_single (n k : Nat) (v : Int) (hk : k < n) : ((List.range n).map fun g => if g = k then v else 0).sum = v := by
  induction n with
  | zero => omega
  | succ n ih =>
    rw [List.range_succ, List.map_append, List.sum_append]
    by_cases c : k = n
    · subst c
      rw [sum_zero _ _ fun x hx => by
        have := List.mem_range.mp hx
        rw [if_neg (by omega)]]
      simp
    · rw [ih (by omega)]
      have : ¬ n = k := fun z => c z.symm
      simp [this]
theorem total_eq {e : KV} (h : OkKV e) : (e.map (·.2)).sum = ((List.range 64).map (val e)).sum := by
  obtain ⟨nd, lt⟩ := h
  induction e with
  | nil => rw [sum_zero _ _ fun x _ => val_none (fun p hp => absurd hp (List.not_mem_nil))]; rfl
  | cons p r ih =>
    rw [List.map_cons, List.nodup_cons] at nd
    have hp : ∀ q ∈ r, q.1 ≠ p.1 := fun q hq z => nd.1 (by rw [← z]; exact List.mem_map_of_mem hq)
    have e1 : ∀ g, val (p :: r) g = (if g = p.1 then p.2 else 0) + val r g := fun g => by
      unfold val
      rw [get_cons]
      by_cases c : p.1 = g
      · subst c
        rw [get_none hp]
        simp
      · have c2 : ¬ g = p.1 := fun z => c z.symm
        simp [c, c2]
    rw [List.map_cons, List.sum_cons, ih nd.2 fun q hq => lt q (List.mem_cons_of_mem _ hq)]
    rw [show (List.range 64).map (val (p :: r)) = (List.range 64).map (fun g => (if g = p.1 then p.2 else 0) + val r g) from List.map_congr_left fun g _ => e1 g]
    rw [sum_add, sum_single 64 p.1 p.2 (lt p (by simp))]
/-! ### rows counted -/
def matchAt (x w : List Nat) (i : Nat) : Bool := (x.drop i).take w.length == w
theorem matchAt_le {x w : List Nat} {i : Nat} (h : matchAt x w i = true) (hi : i ≤ x.length) : i + w.length ≤ x.length := by
  unfold matchAt at h
  have e := congrArg List.length (eq_of_beq h)
  rw [List.length_take, List.length_drop] at e
  omega
def con (x : List Nat) (i : Nat) (F : Nat → Nat → Int) (j h : Nat) (a : Arc) : Int := if matchAt x a.2.1 i = true ∧ j = i + a.2.1.length ∧ h = a.2.2 then F i a.1 else 0
def step (as : List Arc) (x : List Nat) (i : Nat) (F : Nat → Nat → Int) (j h : Nat) : Int := F j h + (as.map (con x i F j h)).sum
def run (as : List Arc) (s : Nat) (x : List Nat) : Nat → Nat → Nat → Int
  | 0 => fun j h => if j = 0 ∧ h = s then 1 else 0
  | i + 1 => step as x i (run as s x i)
/-- the number of the rows from s that read x -/
def cnt (as : List Arc) (s : Nat) (x : List Nat) : Int := ((List.range 64).map (run as s x x.length x.length)).sum
theorem con_self {x : List Nat} {i : Nat} {F : Nat → Nat → Int} {h : Nat} {a : Arc} (ha : 1 ≤ a.2.1.length) : con x i F i h a = 0 := by
  unfold con
  rw [if_neg]
  rintro ⟨_, h2, _⟩
  omega
def tv (T : List KV) (j h : Nat) : Int := match T[j]? with | some e => val e h | none => 0
theorem tv_at {T : List KV} {j h : Nat} {e : KV} (q : T[j]? = some e) : tv T j h = val e h := by unfold tv; rw [q]
theorem tv_set {T : List KV} {k : Nat} {e : KV} (hk : T[k]? = some e) (g : Nat) (v : Int) (j h : Nat) : tv (T.set k (put e g (val e g + v))) j h = tv T j h + if j = k ∧ h = g then v else 0 := by
  have hlt : k < T.length := (List.getElem?_eq_some_iff.mp hk).1
  by_cases c : j = k
  · subst c
    rw [tv_at (e := put e g (val e g + v)) (by rw [List.getElem?_set_self hlt]), tv_at hk, val_put]
    by_cases d : h = g
    · subst d; simp
    · simp [d]
  · have : tv (T.set k (put e g (val e g + v))) j h = tv T j h := by
      unfold tv
      rw [List.getElem?_set_ne (fun z => c z.symm)]
    rw [this]
    simp [c]
structure TabAt (H : Hp) (ds : List Addr) (T : List KV) : Prop where
  len : ds.length = T.length
  nd : ds.Nodup
  dict : ∀ (j : Nat) (d : Addr) (e : KV), ds[j]? = some d → T[j]? = some e → H d = some (.dK (enc e))
  ok : ∀ e ∈ T, OkKV e
theorem TabAt.same {H H' : Hp} {ds : List Addr} {T : List KV} (h : TabAt H ds T) (s : Same H H') : TabAt H' ds T := ⟨h.len, h.nd, fun j d e h1 h2 => s _ _ (h.dict j d e h1 h2), h.ok⟩
theorem TabAt.get {H : Hp} {ds : List Addr} {T : List KV} (h : TabAt H ds T) {j : Nat} (hj : j < T.length) : ∃ d e, ds[j]? = some d ∧ T[j]? = some e ∧ H d = some (.dK (enc e)) ∧ OkKV e := by
  have hd : j < ds.length := by rw [h.len]; exact hj
  refine ⟨ds[j], T[j], List.getElem?_eq_getElem hd, List.getElem?_eq_getElem hj, h.dict j _ _ (List.getElem?_eq_getElem hd) (List.getElem?_eq_getElem hj), h.ok _ (List.getElem_mem hj)⟩
theorem TabAt.set {H : Hp} {ds : List Addr} {T : List KV} (h : TabAt H ds T) {j : Nat} {d : Addr} {e : KV} (hd : ds[j]? = some d) (he : OkKV e) : TabAt (upd H d (.dK (enc e))) ds (T.set j e) := by
  have hj : j < ds.length := (List.getElem?_eq_some_iff.mp hd).1
  refine ⟨by rw [List.length_set]; exact h.len, h.nd, fun k c f h1 h2 => ?_, fun f hf => ?_⟩
  · by_cases q : k = j
    · subst q
      rw [hd] at h1
      cases h1
      rw [List.getElem?_set_self (by rw [← h.len]; exact hj)] at h2
      cases h2
      exact upd_same
    · rw [List.getElem?_set_ne (fun z => q z.symm)] at h2
      have ncd : c ≠ d := fun z => by
        subst z
        have e1 := (List.getElem?_eq_some_iff.mp h1)
        have e2 := (List.getElem?_eq_some_iff.mp hd)
        exact q ((List.getElem_inj h.nd).mp (e1.2.trans e2.2.symm))
      rw [upd_ne ncd]
      exact h.dict k c f h1 h2
  · rcases List.mem_or_eq_of_mem_set hf with q | q
    · exact h.ok f q
    · rw [q]; exact he
theorem dput_enc {H : Hp} {d : Addr} {e : KV} (hd : H d = some (.dK (enc e))) (ok : OkKV e) (g : Nat) (v : Int) : DPut H d (.int (g : Int)) (.int v) (upd H d (.dK (enc (put e g v)))) := by
  have q := DPut.k (k := (Sum.inl (g : Int) : Key)) (v := V.int v) hd (lt_size (by rw [enc, List.length_map]; have := ok.len; omega))
  rw [putK_enc] at q
  exact q
theorem dget_enc {H : Hp} {d : Addr} {e : KV} (hd : Rd H d (.dK (enc e))) (g : Nat) : DGet H d (.int (g : Int)) ((get e g).map V.int) := .inl ⟨_, Sum.inl (g : Int), hd, rfl, (valV_enc e g).symm⟩
theorem enc_vals (e : KV) : (enc e).map (·.2) = (e.map (·.2)).map V.int := by unfold enc; rw [List.map_map, List.map_map]; rfl
theorem starts_S {x w : List Nat} {i : Nat} (hi : i ≤ x.length) (hw : 1 ≤ w.length) : Txt.startswith3 (SX.S x) (SX.S w) (i : Int) = matchAt x w i := by
  have ef : fromIndex (SX.S x).length (i : Int) = i := by
    unfold fromIndex
    rw [if_neg (by omega)]
    omega
  unfold Txt.startswith3
  rw [ef, PySem.StrLaws.subAt_eq, SX.S_len, SX.S_len]
  show (decide (i + w.length ≤ x.length) && ((x.drop i).take w.length == w)) = matchAt x w i
  unfold matchAt
  cases c : ((x.drop i).take w.length == w) with
  | false => simp
  | true =>
    have := matchAt_le (x := x) (w := w) (i := i) c hi
    simp [this]
theorem cutS_mid (x : List Nat) {i k : Nat} (hi : i ≤ x.length) : cutS (SX.S x) (some (i : Int)) (some ((i + k : Nat) : Int)) = SX.S ((x.drop i).take k) := by
  unfold cutS
  rw [HT.sIx_nat, HT.sIx_nat, SX.S_len]
  show SX.S ((x.drop (min i x.length)).take (min (i + k) x.length - min i x.length)) = _
  congr 1
  rw [Nat.min_eq_left hi]
  by_cases c : i + k ≤ x.length
  · rw [Nat.min_eq_left c, show i + k - i = k by omega]
  · rw [Nat.min_eq_right (by omega), List.take_of_length_le (by rw [List.length_drop]; omega), List.take_of_length_le (by rw [List.length_drop]; omega)]
def spCount (C : Addr) : Sp := fun vs H Q _ => ∃ (p : Addr) (sg : List Nat) (us : List V) (as : List Arc) (s : Nat) (x : List Nat), vs = [.ref p, .int (s : Int), .str (SX.S x)] ∧ LoomAt C H p sg us as ∧ s ≤ 63 ∧ x.length ≤ 2000 ∧ (∀ c ∈ x, c ∈ sg) ∧
  ∀ H' : Hp, Same H H' → Q (.int (cnt as s x)) H'
end J


set_option Elab.async false
set_option linter.all false
set_option maxRecDepth 100000
set_option maxHeartbeats 4000000
namespace J
open PySem L2
theorem getD_val (e : KV) (g : Nat) : ((get e g).map V.int).getD (V.int 0) = V.int (val e g) := by
  unfold val
  cases get e g <;> rfl
section
variable {P : Program} {w : World} {K : PySem.W.Frag} {mg : Str → Option Value} {base : Heap}
theorem ok_check_state (T : Tx K mg) : FnOk P w K mg base CX0 2 T.f_check_state T.fd_check_state P_check_state spState1 := by
  have G_is_number : FnOk P w K mg base CX0 1 T.f_is_number T.fd_is_number P_is_number spNumber := ok_is_number T
  refine T.F_check_state.ok sc_check_state (fun vs H Q E h => ?_) (fun cdv A outer s H vs Q E hr h => ?_)
  · obtain ⟨i, rfl, _⟩ := h
    rfl
  · obtain ⟨i, rfl, h1, h2, k⟩ := h
    refine ⟨_, (pss_one (ps_if (pt_not (pt_val (pe_call G_is_number (hr.mono (by decide)) rfl T.m_is_number T.F_is_number.kp T.b_is_number .nil pass0 (pa_cons (pv 0) (pa_cons pe_int (pa_cons (pe_glob (v := V.int 63) rfl T.g_LAST_STATE ⟨_, rfl⟩) pa_nil)))))) (pss_one ps_never) pss_nil)), ?_⟩
    refine ⟨_, rfl, i, 0, 63, rfl, fun b hb => ⟨b, rfl, ?_⟩⟩
    rw [hb.mpr ⟨h1, h2⟩]
    exact k
theorem ok_check_text (T : Tx K mg) : FnOk P w K mg base CX0 2 T.f_check_text T.fd_check_text P_check_text spText1 := by
  have G_is_string_over : FnOk P w K mg base CX0 1 T.f_is_string_over T.fd_is_string_over P_is_string_over spOver := ok_is_string_over T
  refine T.F_check_text.ok sc_check_text (fun vs H Q E h => ?_) (fun cdv A outer s H vs Q E hr h => ?_)
  · obtain ⟨sg, u, rfl, _⟩ := h
    rfl
  · obtain ⟨sg, u, rfl, h1, h2, k⟩ := h
    refine ⟨_, (pss_one (ps_if (pt_not (pt_val (pe_call G_is_string_over (hr.mono (by decide)) rfl T.m_is_string_over T.F_is_string_over.kp T.b_is_string_over .nil pass0 (pa_cons (pv 0) (pa_cons (pv 1) (pa_cons pe_int (pa_cons (pe_glob (v := V.int 2000) rfl T.g_LONGEST_TEXT ⟨_, rfl⟩) pa_nil))))))) (pss_one ps_never) pss_nil)), ?_⟩
    exact ⟨_, rfl, _, rfl, sg, u, 0, 2000, rfl, by omega, by omega, by omega, h2, fun H' sm => ⟨true, rfl, k H' sm⟩⟩
theorem ok_count (T : Tx K mg) : FnOk P w K mg base CX0 3 T.f_count T.fd_count P_count (spCount T.C_Loom) := by
  have G_check_state : FnOk P w K mg base CX0 2 T.f_check_state T.fd_check_state P_check_state spState1 := ok_check_state T
  have G_check_text : FnOk P w K mg base CX0 2 T.f_check_text T.fd_check_text P_check_text spText1 := ok_check_text T
  refine T.F_count.ok sc_count (fun vs H Q E h => ?_) (fun cdv A outer s0 H vs Q E hr h => ?_)
  · obtain ⟨p, sg, us, as, s, x, rfl, _⟩ := h
    rfl
  · obtain ⟨p, sg, us, as, s, x, rfl, ⟨dx, Tp, hp, hTp, harc, hok, hsg⟩, hs, hx, hin, k⟩ := h
    refine ⟨_, (pss_cons (ps_expr (pe_call G_check_state (hr.mono (by decide)) rfl T.m_check_state T.F_check_state.kp T.b_check_state .nil pass0 (pa_cons (pv 1) pa_nil)))
        (pss_cons (ps_expr (pe_call G_check_text (hr.mono (by decide)) rfl T.m_check_text T.F_check_text.kp T.b_check_text .nil pass0 (pa_cons (pe_fld (pv 0) rfl) (pa_cons (pv 2) pa_nil))))
        (pss_cons (ps_setLc (i := 3) (own := [("_", 9)]) (g := (gName 9)) rfl sc_count.nd rfl rfl (sw_true rfl rfl rfl (by decide +kernel)) (pi_range1 rfl T.n_range (pa_cons (pe_op op_add (pe_callB call_len_str rfl T.n_len (by decide +kernel) (pa_cons (pv 2) pa_nil)) pe_int) pa_nil)) (blkOk_by (N := N_count) (sc := defScope s_count) (by decide +kernel)) (fun _ _ _ _ _ => (pg_name (i := 9) sc_count.nd rfl (Or.inl rfl))) (fun _ _ _ _ _ => pts_nil) (fun _ _ _ _ _ => pe_dnewK))
        (pss_cons (ps_dput (hu_of hr) (pe_ix (ix_listK (K := K) rfl) (pv 3) pe_int (fun _ _ => rfl)) (pv 1) pe_int rfl)
        (pss_cons (ps_for PassesOwn.never rfl (pi_range1 rfl T.n_range (pa_cons (pe_callB call_len_str rfl T.n_len (by decide +kernel) (pa_cons (pv 2) pa_nil)) pa_nil)) (pg_name (i := 4) sc_count.nd rfl (Or.inl rfl)) (pss_one (ps_for PassesOwn.never rfl (pi_tup (pe_fld (pv 0) rfl)) (pg_tup rfl (pgs_cons (pg_name (i := 5) sc_count.nd rfl (Or.inl rfl)) (pgs_cons (pg_name (i := 6) sc_count.nd rfl (Or.inl rfl)) (pgs_cons (pg_name (i := 7) sc_count.nd rfl (Or.inl rfl)) pgs_nil)))) (pss_one (ps_if (PW.pt (pw_and (pt_cmp (pc_din (hu_of hr) (pv 5) (pe_ix (ix_listK (K := K) rfl) (pv 3) (pv 4) (fun _ _ => rfl)))) (pw_and1 (pt_val (pe_bm PySem.F.plainAttrs_str PySem.F.slot_str_startswith PySem.F.type_str_startswith mt_startswith3 (pv 2) (pa_cons (pv 6) (pa_cons (pv 4) pa_nil))))))) (pss_cons (ps_set (i := 8) sc_count.nd rfl (Or.inl rfl) (pe_op op_add (pv 4) (pe_callB call_len_str rfl T.n_len (by decide +kernel) (pa_cons (pv 6) pa_nil))))
        (pss_one (ps_dput (hu_of hr) (pe_ix (ix_listK (K := K) rfl) (pv 3) (pv 8) (fun _ _ => rfl)) (pv 7) (pe_op op_add (pe_dget2 (hu_of hr) (pe_ix (ix_listK (K := K) rfl) (pv 3) (pv 8) (fun _ _ => rfl)) (pv 7) pe_int ⟨rfl, rfl, rfl, rfl⟩) (pe_dget (hu_of hr) (pe_ix (ix_listK (K := K) rfl) (pv 3) (pv 4) (fun _ _ => rfl)) (pv 5) (fun _ _ => rfl))) rfl))) pss_nil)))))
        (pss_one (ps_ret (pe_callB (cr_sumK (K := K) rfl rfl) rfl T.n_sum (by decide +kernel) (pa_cons (pe_listVals rfl (pe_ix (ix_listK (K := K) rfl) (pv 3) (pe_callB call_len_str rfl T.n_len (by decide +kernel) (pa_cons (pv 2) pa_nil)) (fun _ _ => rfl)) rfl T.n_list (by decide +kernel)) pa_nil))))))))), ?_⟩
    have oka := hok.all
    have hxl : (SX.S x).length ≤ sizeLine := le_size (by rw [SX.S_len]; omega)
    have exl : ((SX.S x).length : Int) = (x.length : Int) := by rw [SX.S_len]
    refine ⟨_, rfl, (s : Int), rfl, by omega, by omega, ?_⟩
    refine ⟨_, rfl, p, _, dx, _, _, rfl, hp, T.cl_Loom, T.na_Loom_signs, lf_signs _ _, _, rfl, sg, x, rfl, hx, hin, fun H1 s1 => ?_⟩
    -- the table
    refine ⟨_, rfl, _, rfl, hxl, _, _, rfl, rfl, _, rfl, by rw [exl]; omega, by rw [exl]; omega, fun D hD => lc_range (lo := 0) (n := x.length + 1) (fun i H' => ∃ ds : List Addr, ds.length = i ∧ ds.Nodup ∧ H' D = some (.lst (ds.map V.ref)) ∧ (∀ d ∈ ds, H' d = some (.dK []) ∧ H d = none ∧ d ≠ D) ∧ Same H H') ?_ ?_ ?_⟩
    · exact ⟨[], rfl, by simp, upd_same, fun d hd => absurd hd (List.not_mem_nil), s1.trans (Same.new _ hD)⟩
    · rintro i H2 hi ⟨ds, rfl, nd, hDl, hds, s2⟩
      refine ⟨rfl, fun d hd => ?_⟩
      have nDd : D ≠ d := (hp_ne hDl hd).symm
      have hd0 : H d = none := s2.free hd
      refine ⟨_, by rw [upd_ne nDd]; exact hDl, lt_size (by simp; omega), ds ++ [d], by simp, ?_, by rw [upd_same]; simp, fun c hc => ?_, (s2.trans (Same.new _ hd)).updNew (s1.free hD)⟩
      · rw [List.nodup_append]
        exact ⟨nd, by simp, fun a ha b hb => by
          rw [List.mem_singleton.mp hb]
          exact fun z => hp_ne (hds a ha).1 hd z.symm⟩
      · rcases List.mem_append.mp hc with q | q
        · obtain ⟨q1, q2, q3⟩ := hds c q
          exact ⟨by rw [upd_ne q3, upd_ne (hp_ne q1 hd).symm]; exact q1, q2, q3⟩
        · rw [List.mem_singleton.mp q]
          exact ⟨by rw [upd_ne nDd.symm]; exact upd_same, hd0, nDd.symm⟩
    · rintro H2 ⟨ds, hl, nd, hDl, hds, s2⟩
      have hD0 : H D = none := s1.free hD
      have tab0 : TabAt H2 ds (List.replicate (x.length + 1) []) := ⟨by simp [hl], nd, fun j d e h1 h2 => by
        have e0 : e = [] := (List.mem_replicate.mp (List.mem_of_getElem? h2)).2
        rw [e0]
        exact (hds d (List.mem_of_getElem? h1)).1, fun e he => by rw [(List.mem_replicate.mp he).2]; exact .nil⟩
      have hfr : ∀ d ∈ ds, H d = none ∧ d ≠ D := fun d hd => (hds d hd).2
      obtain ⟨d0, e0, hd0, he0, hdd0, _⟩ := tab0.get (j := 0) (by simp)
      have e00 : e0 = [] := (List.mem_replicate.mp (List.mem_of_getElem? he0)).2
      subst e00
      have nD0 := hfr d0 (List.mem_of_getElem? hd0)
      -- ways[0][state] = 1
      refine ⟨_, rfl, D, _, _, _, rfl, rfl, SqL.of hDl, atI_nat (j := 0) (by rw [List.getElem?_map, hd0]; rfl), _, rfl, d0, _, rfl, dput_enc hdd0 .nil s 1, ?_⟩
      have okp : OkKV (put [] s 1) := OkKV.nil.put (by omega) 1
      have tab1 := tab0.set hd0 okp
      have sm1 := s2.updNew (o := .dK (enc (put [] s 1))) nD0.1
      have hD1 : upd H2 d0 (.dK (enc (put [] s 1))) D = some (.lst (ds.map V.ref)) := by rw [upd_ne nD0.2.symm]; exact hDl
      have tv1 : ∀ j h, tv ((List.replicate (x.length + 1) ([] : KV)).set 0 (put [] s 1)) j h = run as s x 0 j h := fun j h => by
        have q := tv_set (T := List.replicate (x.length + 1) ([] : KV)) (k := 0) (e := []) he0 s 1 j h
        rw [show val [] s + 1 = 1 from rfl] at q
        rw [q]
        have z : tv (List.replicate (x.length + 1) ([] : KV)) j h = 0 := by
          unfold tv
          cases c : (List.replicate (x.length + 1) ([] : KV))[j]? with
          | none => rfl
          | some e => rw [(List.mem_replicate.mp (List.mem_of_getElem? c)).2]; rfl
        rw [z]
        show 0 + _ = if j = 0 ∧ h = s then (1 : Int) else 0
        omega
      clear tab0 hd0 he0
      refine ⟨_, rfl, _, rfl, hxl, _, rfl, by rw [exl]; omega, by rw [exl]; omega, for_range (lo := 0) (n := x.length) (fun i σ H' => ∃ (T' : List KV) (v4 v5 v6 v7 v8 : Option V), σ = [some (.ref p), some (.int (s : Int)), some (.str (SX.S x)), some (.ref D), v4, v5, v6, v7, v8, none] ∧
        H' D = some (.lst (ds.map V.ref)) ∧ TabAt H' ds T' ∧ (∀ j h, tv T' j h = run as s x i j h) ∧ Same H H') ?_ ?_ ?_⟩
      · exact ⟨_, none, none, none, none, none, rfl, hD1, tab1, tv1, sm1⟩
      · rintro i σ H3 hi ⟨T3, v4, v5, v6, v7, v8, rfl, hD3, tab3, tv3, sm3⟩
        have hTl : T3.length = x.length + 1 := by rw [← tab3.len, hl]
        obtain ⟨di, ei, hdi, hei, hddi, oki⟩ := tab3.get (j := i) (by omega)
        have ezi : (0 : Int) + (i : Int) = (i : Int) := by omega
        refine ⟨_, rfl, p, _, dx, _, _, rfl, sm3 _ _ hp, T.cl_Loom, T.na_Loom_arcs, lf_arcs _ _, Tp, rfl, ⟨_, SqT.of (sm3 _ _ hTp)⟩, for_tup (K := K) (a := Tp) (xs := us) (fun m σ H' => ∃ (T' : List KV) (v5 v6 v7 v8 : Option V), σ = [some (.ref p), some (.int (s : Int)), some (.str (SX.S x)), some (.ref D), some (.int (0 + (i : Int))), v5, v6, v7, v8, none] ∧
          H' D = some (.lst (ds.map V.ref)) ∧ TabAt H' ds T' ∧ (∀ j h, tv T' j h = run as s x i j h + ((as.take m).map (con x i (run as s x i) j h)).sum) ∧ Same H H') ?_ ?_ ?_ ?_⟩
        · exact ⟨T3, v5, v6, v7, v8, rfl, hD3, tab3, fun j h => by rw [tv3]; simp, sm3⟩
        · rintro m σ H4 _ ⟨_, _, _, _, _, _, _, _, _, sm4⟩
          exact SqT.of (sm4 _ _ hTp)
        · rintro m y σ H4 hy ⟨T4, v5, v6, v7, v8, rfl, hD4, tab4, tv4, sm4⟩
          have hm : m < as.length := by
            have q := (List.getElem?_eq_some_iff.mp hy).1
            have := harc.1
            omega
          have ham : as[m]? = some as[m] := List.getElem?_eq_getElem hm
          obtain ⟨t, hut, htt⟩ := harc.2 m as[m] ham
          rw [hut] at hy
          cases hy
          obtain ⟨o1, o2, o3, o4⟩ := oka.2 as[m] (List.getElem_mem hm)
          have hT4 : T4.length = x.length + 1 := by rw [← tab4.len, hl]
          obtain ⟨ci, fi, hci, hfi, hcci, okf⟩ := tab4.get (j := i) (by omega)
          -- what stands at the place itself is not changed
          have row : ∀ g, val fi g = run as s x i i g := fun g => by
            rw [← tv_at hfi, tv4, sum_zero _ _ fun a ha => con_self (oka.2 a (List.mem_of_mem_take ha)).2.1]
            omega
          have snoc : ∀ j h, ((as.take (m + 1)).map (con x i (run as s x i) j h)).sum = ((as.take m).map (con x i (run as s x i) j h)).sum + con x i (run as s x i) j h as[m] := fun j h => by
            rw [← take_snoc ham, List.map_append, List.sum_append]
            simp
          have atw : ∀ {j : Nat} {d : Addr}, ds[j]? = some d → atI (ds.map V.ref) (j : Int) = some (V.ref d) := fun {j d} q => atI_nat (by rw [List.getElem?_map, q]; rfl)
          refine ⟨t, _, rfl, SqT.of (sm4 _ _ htt), rfl, _, _, rfl, _, _, rfl, _, _, rfl, rfl, ?_⟩
          refine ⟨_, rfl, _, rfl, _, rfl, D, _, _, _, rfl, rfl, SqL.of hD4, by rw [ezi]; exact atw hci, ci, _, rfl, dget_enc (.inl hcci) _, _, rfl, ?_⟩
          refine ite2 (fun c => ?_) (fun c => ?_)
          · obtain ⟨w, hw⟩ : ∃ w, get fi as[m].1 = some w := by
              cases q : get fi as[m].1 with
              | none => rw [q] at c; cases c
              | some w => exact ⟨w, rfl⟩
            have hwv : w = run as s x i i as[m].1 := by
              rw [← row]
              unfold val
              rw [hw]
              rfl
            refine ⟨_, rfl, rfl, _, rfl, _, rfl, _, _, _, rfl, rfl, _, rfl, ?_⟩
            rw [ezi, starts_S (by omega) o2]
            refine ite2 (fun c2 => ?_) (fun c2 => ?_)
            · have hle := matchAt_le c2 (by omega)
              have hw12 : (SX.S as[m].2.1).length ≤ sizeLine := le_size (by rw [SX.S_len]; omega)
              have hend : ((i : Int) + ((SX.S as[m].2.1).length : Nat)) = ((i + as[m].2.1.length : Nat) : Int) := by rw [SX.S_len]; omega
              obtain ⟨ce, fe, hce, hfe, hcce, okfe⟩ := tab4.get (j := i + as[m].2.1.length) (by omega)
              have atE : atI (ds.map V.ref) ((i : Int) + ((SX.S as[m].2.1).length : Nat)) = some (V.ref ce) := by rw [hend]; exact atw hce
              refine ⟨_, rfl, _, rfl, _, rfl, hw12, _, _, rfl, rfl, ?_⟩
              refine ⟨_, rfl, _, rfl, D, _, _, _, rfl, rfl, SqL.of hD4, atE, ce, rfl, .inl ⟨_, .inl hcce⟩, _, rfl, _, dget_enc (.inl hcce) _, ?_⟩
              refine ⟨_, rfl, _, rfl, D, _, _, _, rfl, rfl, SqL.of hD4, atw hci, _, rfl, ci, V.int w, rfl, by have q := dget_enc (.inl hcci) as[m].1; rw [hw] at q; exact q, val fe as[m].2.2, w, getD_val _ _, rfl, ?_⟩
              refine ⟨_, rfl, _, rfl, D, _, _, _, rfl, rfl, SqL.of hD4, atE, _, rfl, ce, _, rfl, dput_enc hcce okfe as[m].2.2 (val fe as[m].2.2 + w), ?_⟩
              have fr := hfr ce (List.mem_of_getElem? hce)
              refine ⟨T4.set (i + as[m].2.1.length) (put fe as[m].2.2 (val fe as[m].2.2 + w)), _, _, _, _, rfl, by rw [upd_ne fr.2.symm]; exact hD4, tab4.set hce (okfe.put (by omega) _), fun j h => ?_, sm4.updNew fr.1⟩
              rw [tv_set hfe, tv4, snoc, hwv]
              unfold con
              by_cases q : j = i + as[m].2.1.length ∧ h = as[m].2.2
              · rw [if_pos q, if_pos ⟨c2, q⟩]
                omega
              · rw [if_neg q, if_neg (fun z => q z.2)]
                omega
            · refine ⟨T4, _, _, _, _, rfl, hD4, tab4, fun j h => ?_, sm4⟩
              rw [tv4, snoc]
              unfold con
              rw [if_neg (fun z : matchAt x as[m].2.1 i = true ∧ j = i + as[m].2.1.length ∧ h = as[m].2.2 => c2 z.1)]
              omega
          · refine ⟨T4, _, _, _, _, rfl, hD4, tab4, fun j h => ?_, sm4⟩
            have z : get fi as[m].1 = none := by
              cases q : get fi as[m].1 with
              | none => rfl
              | some w => rw [q] at c; exact absurd rfl c
            have z0 : run as s x i i as[m].1 = 0 := by
              rw [← row]
              unfold val
              rw [z]
              rfl
            rw [tv4, snoc]
            unfold con
            rw [z0]
            simp
        · rintro σ H4 ⟨T4, v5, v6, v7, v8, rfl, hD4, tab4, tv4, sm4⟩
          refine ⟨T4, _, v5, v6, v7, v8, rfl, hD4, tab4, fun j h => ?_, sm4⟩
          rw [tv4, harc.1, List.take_length]
          rfl
      · rintro σ H3 ⟨T3, v4, v5, v6, v7, v8, rfl, hD3, tab3, tv3, sm3⟩
        have hTl : T3.length = x.length + 1 := by rw [← tab3.len, hl]
        obtain ⟨dn, en, hdn, hen, hddn, okn⟩ := tab3.get (j := x.length) (by omega)
        refine ⟨_, rfl, _, rfl, _, rfl, hxl, D, _, _, _, rfl, rfl, SqL.of hD3, by rw [exl]; exact atI_nat (by rw [List.getElem?_map, hdn]; rfl), dn, _, rfl, hddn, fun q hq => ?_⟩
        rw [enc_vals]
        refine ⟨q, en.map (·.2), rfl, SqL.of upd_same, ?_⟩
        rw [total_eq okn, show (List.range 64).map (val en) = (List.range 64).map (run as s x x.length x.length) from List.map_congr_left fun g _ => by rw [← tv_at hen, tv3]]
        exact k _ (sm3.trans (Same.new _ hq))
end
end J


set_option Elab.async false
set_option linter.all false
set_option maxRecDepth 100000
set_option maxHeartbeats 4000000
namespace J
open PySem L2
/-! ### rows of a book, counted from the front and from behind -/
def Sg (g : Nat → Int) : Nat → Nat → Int
  | _, 0 => 0
  | k, m + 1 => g k + Sg g (k + 1) m
theorem Sg_add (f g : Nat → Int) : ∀ (k m : Nat), Sg (fun i => f i + g i) k m = Sg f k m + Sg g k m
  | _, 0 => rfl
  | k, m + 1 => by
    show (f k + g k) + Sg (fun i => f i + g i) (k + 1) m = (f k + Sg f (k + 1) m) + (g k + Sg g (k + 1) m)
    rw [Sg_add f g (k + 1) m]
    omega
theorem Sg_zero (g : Nat → Int) : ∀ (k m : Nat), (∀ i, k ≤ i → i < k + m → g i = 0) → Sg g k m = 0
  | _, 0, _ => rfl
  | k, m + 1, h => by
    show g k + Sg g (k + 1) m = 0
    rw [h k (Nat.le_refl _) (by omega), Sg_zero g (k + 1) m fun i h1 h2 => h i (by omega) (by omega)]
    rfl
theorem Sg_congr {f g : Nat → Int} : ∀ (k m : Nat), (∀ i, k ≤ i → i < k + m → f i = g i) → Sg f k m = Sg g k m
  | _, 0, _ => rfl
  | k, m + 1, h => by
    show f k + Sg f (k + 1) m = g k + Sg g (k + 1) m
    rw [h k (Nat.le_refl _) (by omega), Sg_congr (k + 1) m fun i h1 h2 => h i (by omega) (by omega)]
theorem Sg_one (p : Nat) (v : Int) : ∀ (k m : Nat), k ≤ p → p < k + m → Sg (fun i => if i = p then v else 0) k m = v
  | _, 0, h1, h2 => by omega
  | k, m + 1, h1, h2 => by
    show (if k = p then v else 0) + Sg (fun i => if i = p then v else 0) (k + 1) m = v
    by_cases c : k = p
    · subst c
      rw [if_pos rfl, Sg_zero _ _ _ fun i q _ => if_neg (by omega)]
      omega
    · rw [if_neg c, Sg_one p v (k + 1) m (by omega) (by omega)]
      omega
/-- what a word gives to the number at i, read from behind -/
def bk (x : List Nat) (b : Nat → Int) (i : Nat) (u : List Nat) : Int := if matchAt x u i = true then b (i + u.length) else 0
/-- the table from behind -/
structure Back (x : List Nat) (ws : List (List Nat)) (b : Nat → Int) : Prop where
  last : b x.length = 1
  mid : ∀ i, i < x.length → b i = (ws.map (bk x b i)).sum
theorem fwd_words (x : List Nat) (b : Nat → Int) (F : Nat → Nat → Int) {i : Nat} (hi : i < x.length) : ∀ l : List (List Nat), (∀ u ∈ l, 1 ≤ u.length) →
    Sg (fun j => ((bka l).map (con x i F j 0)).sum * b j) (i + 1) (x.length - i) = F i 0 * (l.map (bk x b i)).sum
  | [], _ => by
    rw [Sg_zero _ _ _ fun j _ _ => by simp [bka]]
    simp
  | u :: r, h => by
    have ih := fwd_words x b F hi r fun v hv => h v (List.mem_cons_of_mem _ hv)
    have e : ∀ j, ((bka (u :: r)).map (con x i F j 0)).sum * b j = (if j = i + u.length then (F i 0 * bk x b i u) else 0) + ((bka r).map (con x i F j 0)).sum * b j := fun j => by
      have e1 : ((bka (u :: r)).map (con x i F j 0)).sum = con x i F j 0 (0, u, 0) + ((bka r).map (con x i F j 0)).sum := by simp [bka]
      rw [e1, Int.add_mul]
      congr 1
      unfold con bk
      by_cases c : j = i + u.length
      · rw [if_pos c]
        by_cases m : matchAt x u i = true
        · rw [if_pos ⟨m, c, rfl⟩, if_pos m, c]
        · rw [if_neg (fun z => m z.1), if_neg m]
          simp
      · rw [if_neg c, if_neg (fun z => c z.2.1)]
        simp
    rw [Sg_congr _ _ fun j _ _ => e j, Sg_add, ih, List.map_cons, List.sum_cons, Int.mul_add]
    congr 1
    have hu := h u (by simp)
    by_cases m : matchAt x u i = true
    · have := matchAt_le m (by omega)
      exact Sg_one _ _ _ _ (by omega) (by omega)
    · have z : bk x b i u = 0 := by unfold bk; rw [if_neg m]
      rw [z, Int.mul_zero]
      exact Sg_zero _ _ _ fun j _ _ => by simp
theorem run_zero (ws : List (List Nat)) (x : List Nat) : ∀ (i j h : Nat), h ≠ 0 → run (bka ws) 0 x i j h = 0
  | 0, j, h, n => by
    show (if j = 0 ∧ h = 0 then (1 : Int) else 0) = 0
    exact if_neg fun z => n z.2
  | i + 1, j, h, n => by
    show run (bka ws) 0 x i j h + ((bka ws).map (con x i (run (bka ws) 0 x i) j h)).sum = 0
    rw [run_zero ws x i j h n, sum_zero _ _ fun a ha => by
      obtain ⟨u, _, rfl⟩ := List.mem_map.mp ha
      unfold con
      exact if_neg fun z => n z.2.2]
    rfl
theorem run_back {x : List Nat} {ws : List (List Nat)} {b : Nat → Int} (hb : Back x ws b) (hw : ∀ u ∈ ws, 1 ≤ u.length) : ∀ i, i ≤ x.length → Sg (fun j => run (bka ws) 0 x i j 0 * b j) i (x.length + 1 - i) = b 0
  | 0, _ => by
    have e : ∀ j, run (bka ws) 0 x 0 j 0 * b j = if j = 0 then b 0 else 0 := fun j => by
      show (if j = 0 ∧ 0 = 0 then (1 : Int) else 0) * b j = _
      by_cases c : j = 0
      · subst c; simp
      · simp [c]
    rw [Sg_congr _ _ fun j _ _ => e j]
    exact Sg_one 0 (b 0) 0 _ (Nat.le_refl _) (by omega)
  | i + 1, hi => by
    have ih := run_back hb hw i (by omega)
    rw [show x.length + 1 - i = (x.length - i) + 1 by omega] at ih
    have ih2 : run (bka ws) 0 x i i 0 * b i + Sg (fun j => run (bka ws) 0 x i j 0 * b j) (i + 1) (x.length - i) = b 0 := ih
    have e : ∀ j, run (bka ws) 0 x (i + 1) j 0 * b j = run (bka ws) 0 x i j 0 * b j + ((bka ws).map (con x i (run (bka ws) 0 x i) j 0)).sum * b j := fun j => by
      show (run (bka ws) 0 x i j 0 + ((bka ws).map (con x i (run (bka ws) 0 x i) j 0)).sum) * b j = _
      rw [Int.add_mul]
    rw [show x.length + 1 - (i + 1) = x.length - i by omega, Sg_congr _ _ fun j _ _ => e j, Sg_add, fwd_words x b _ (by omega) ws hw, ← hb.mid i (by omega)]
    omega
/-- both ways come to the same -/
theorem cnt_back {x : List Nat} {ws : List (List Nat)} {b : Nat → Int} (hb : Back x ws b) (hw : ∀ u ∈ ws, 1 ≤ u.length) : cnt (bka ws) 0 x = b 0 := by
  have e := run_back hb hw x.length (Nat.le_refl _)
  rw [show x.length + 1 - x.length = 0 + 1 by omega] at e
  have e2 : run (bka ws) 0 x x.length x.length 0 * b x.length + 0 = b 0 := e
  rw [hb.last] at e2
  unfold cnt
  have e3 : (List.range 64).map (run (bka ws) 0 x x.length x.length) = (List.range 64).map fun g => if g = 0 then b 0 else 0 := List.map_congr_left fun g _ => by
    by_cases c : g = 0
    · subst c
      rw [if_pos rfl]
      omega
    · rw [if_neg c, run_zero ws x _ _ _ c]
  rw [e3, sum_single 64 0 (b 0) (by decide)]
theorem ixn_at {n M : Nat} (h : M < n) : ixN n (M : Int) = some M := by
  unfold ixN
  rw [if_pos (by omega), if_pos (by omega)]
  rfl
def bl (n : Nat) (b : Nat → Int) : List V := (List.range (n + 1)).map fun i => V.int (b i)
theorem bl_len (n : Nat) (b : Nat → Int) : (bl n b).length = n + 1 := by simp [bl]
theorem bl_at {n i : Nat} (b : Nat → Int) (h : i ≤ n) : (bl n b)[i]? = some (V.int (b i)) := by
  unfold bl
  rw [List.getElem?_map, List.getElem?_range (by omega)]
  rfl
theorem bl_set (n k : Nat) (b : Nat → Int) (v : Int) : (bl n b).set k (V.int v) = bl n fun j => if j = k then v else b j := by
  apply List.ext_getElem?
  intro i
  rw [List.getElem?_set]
  by_cases hi : i ≤ n
  · rw [bl_at _ hi, bl_at _ hi, bl_len]
    by_cases c : k = i
    · subst c
      rw [if_pos rfl, if_pos (by omega), if_pos rfl]
    · have c2 : ¬ i = k := fun z => c z.symm
      rw [if_neg c, if_neg c2]
  · have z : ∀ b, (bl n b)[i]? = none := fun b => List.getElem?_eq_none (by rw [bl_len]; omega)
    rw [z, z, bl_len]
    by_cases c : k = i
    · subst c
      rw [if_pos rfl, if_neg (by omega)]
    · rw [if_neg c]
theorem bl_start (n : Nat) : List.replicate n (V.int 0) ++ [V.int 1] = bl n fun i => if i = n then 1 else 0 := by
  apply List.ext_getElem?
  intro i
  by_cases h1 : i < n
  · rw [List.getElem?_append_left (by simpa using h1), List.getElem?_replicate, if_pos h1, bl_at _ (by omega), if_neg (by omega)]
  · by_cases h2 : i = n
    · subst h2
      rw [List.getElem?_append_right (by simp), bl_at _ (Nat.le_refl _), if_pos rfl]
      simp
    · rw [List.getElem?_eq_none (by simp; omega), List.getElem?_eq_none (by rw [bl_len]; omega)]
def spLCount : Sp := fun vs H Q _ => ∃ (a : Addr) (ws : List (List Nat)) (x : List Nat), vs = [.ref a, .str (SX.S x)] ∧ H a = some (.lst (txts ws)) ∧ ws.length ≤ 1000 ∧ (∀ u ∈ ws, 1 ≤ u.length ∧ u.length ≤ 1000) ∧ x.length ≤ 2000 ∧
  ∀ (H' : Hp) (b : Nat → Int), Same H H' → Back x ws b → Q (.int (b 0)) H'
section
variable {P : Program} {w : World} {K : PySem.W.Frag} {mg : Str → Option Value} {base : Heap}
theorem ok_l_count (T : Tx K mg) : FnOk P w K mg base CX0 1 T.f_l_count T.fd_l_count P_l_count spLCount := by
  refine T.F_l_count.ok sc_l_count (fun vs H Q E h => ?_) (fun cdv A outer s H vs Q E hr h => ?_)
  · obtain ⟨a, ws, x, rfl, _⟩ := h
    rfl
  · obtain ⟨a, ws, x, rfl, ha, hwl, hw, hx, k⟩ := h
    refine ⟨_, (pss_cons (ps_set (i := 2) sc_l_count.nd rfl (Or.inl rfl) (pe_op op_cat (pe_op op_rep (pe_lst (pa_cons pe_int pa_nil)) (pe_callB call_len_str rfl T.n_len (by decide +kernel) (pa_cons (pv 1) pa_nil))) (pe_lst (pa_cons pe_int pa_nil))))
        (pss_cons (ps_for PassesOwn.never rfl (pi_range1 rfl T.n_range (pa_cons (pe_callB call_len_str rfl T.n_len (by decide +kernel) (pa_cons (pv 1) pa_nil)) pa_nil)) (pg_name (i := 3) sc_l_count.nd rfl (Or.inl rfl)) (pss_cons (ps_set (i := 4) sc_l_count.nd rfl (Or.inl rfl) (pe_op op_sub (pe_op op_sub (pe_callB call_len_str rfl T.n_len (by decide +kernel) (pa_cons (pv 1) pa_nil)) pe_int) (pv 3)))
        (pss_one (ps_for PassesOwn.never rfl (pi_list (pv 0)) (pg_name (i := 5) sc_l_count.nd rfl (Or.inl rfl)) (pss_one (ps_if (pt_cmpR op_eq (pe_slice sl_str (pv 1) (po_some (pv 4)) (po_some (pe_op op_add (pv 4) (pe_callB call_len_str rfl T.n_len (by decide +kernel) (pa_cons (pv 5) pa_nil))))) (pv 5) (nomark _)) (pss_one (ps_asg (pe_op op_add (pe_ix (ix_listK (K := K) rfl) (pv 2) (pv 4) (fun _ _ => rfl)) (pe_ix (ix_listK (K := K) rfl) (pv 2) (pe_op op_add (pv 4) (pe_callB call_len_str rfl T.n_len (by decide +kernel) (pa_cons (pv 5) pa_nil))) (fun _ _ => rfl))) (pg_sub (pv 2) (pv 4) set_list))) pss_nil))))))
        (pss_one (ps_ret (pe_ix (ix_listK (K := K) rfl) (pv 2) pe_int (fun _ _ => rfl)))))), ?_⟩
    have hxl : (SX.S x).length ≤ sizeLine := le_size (by rw [SX.S_len]; omega)
    have exl : ((SX.S x).length : Int) = (x.length : Int) := by rw [SX.S_len]
    have wl : (txts ws).length = ws.length := by rw [txts, List.length_map]
    refine ⟨le_size (by simp), fun l1 h1 => ?_⟩
    refine ⟨_, rfl, _, rfl, hxl, l1, _, _, rfl, rfl, upd_same, by rw [exl]; omega, by rw [exl]; omega, by rw [exl]; exact le_size (by simp; omega), fun l2 h2 => ?_⟩
    have e2 : upd (upd H l1 (.lst [.int 0])) l2 (.lst (List.replicate ((SX.S x).length : Int).toNat [V.int 0]).flatten) = upd (upd H l1 (.lst [.int 0])) l2 (.lst (List.replicate x.length (V.int 0))) := by
      rw [exl, Int.toNat_natCast]
      congr 2
      induction x.length with
      | zero => rfl
      | succ n ih => rw [List.replicate_succ, List.flatten_cons, ih, List.replicate_succ]; rfl
    rw [e2]
    have s1 : Same H (upd H l1 (.lst [.int 0])) := Same.new _ h1
    have s2 : Same H (upd (upd H l1 (.lst [.int 0])) l2 (.lst (List.replicate x.length (V.int 0)))) := s1.trans (Same.new _ h2)
    have g2 : upd (upd H l1 (.lst [.int 0])) l2 (.lst (List.replicate x.length (V.int 0))) l2 = some (.lst (List.replicate x.length (V.int 0))) := upd_same
    generalize upd (upd H l1 (.lst [.int 0])) l2 (.lst (List.replicate x.length (V.int 0))) = H2 at *
    refine ⟨le_size (by simp), fun l3 h3 => ?_⟩
    have s3 : Same H2 (upd H2 l3 (.lst [.int 1])) := Same.new _ h3
    have g3 : upd H2 l3 (.lst [.int 1]) l3 = some (.lst [.int 1]) := upd_same
    generalize upd H2 l3 (.lst [.int 1]) = H3 at *
    refine ⟨l2, l3, _, _, rfl, rfl, s3 _ _ g2, g3, by simp; exact le_size (by omega), fun D hD => ?_⟩
    have s4 : Same H (upd H3 D (.lst (List.replicate x.length (V.int 0) ++ [V.int 1]))) := (s2.trans s3).trans (Same.new _ hD)
    have hD0 : H D = none := (s2.trans s3).free hD
    rw [bl_start] at s4 ⊢
    have g4 : upd H3 D (.lst (bl x.length fun i => if i = x.length then 1 else 0)) D = some (.lst (bl x.length fun i => if i = x.length then 1 else 0)) := upd_same
    generalize upd H3 D (.lst (bl x.length fun i => if i = x.length then 1 else 0)) = H4 at *
    have nDa : a ≠ D := fun z => by rw [z, hD0] at ha; cases ha
    refine ⟨_, rfl, _, rfl, hxl, _, rfl, by rw [exl]; omega, by rw [exl]; omega, for_range (lo := 0) (n := x.length) (fun t σ H' => ∃ (b : Nat → Int) (v3 v4 v5 : Option V), σ = [some (.ref a), some (.str (SX.S x)), some (.ref D), v3, v4, v5] ∧
      H' D = some (.lst (bl x.length b)) ∧ Same H H' ∧ b x.length = 1 ∧ (∀ i, i < x.length → x.length - t ≤ i → b i = (ws.map (bk x b i)).sum) ∧ (∀ i, i < x.length - t → b i = 0)) ?_ ?_ ?_⟩
    · exact ⟨_, none, none, none, rfl, g4, s4, if_pos rfl, fun i h1 h2 => by omega, fun i h => if_neg (by omega)⟩
    · rintro t σ H5 ht ⟨b, v3, v4, v5, rfl, hb, s5, b1, b2, b3⟩
      obtain ⟨at_, hat⟩ : ∃ at_, at_ + 1 + t = x.length := ⟨x.length - 1 - t, by omega⟩
      have eat : ((SX.S x).length : Int) - 1 - (0 + (t : Int)) = (at_ : Int) := by rw [exl]; omega
      refine ⟨_, rfl, _, rfl, hxl, _, _, rfl, rfl, _, rfl, _, _, rfl, rfl, ?_⟩
      dsimp only
      rw [eat]
      refine ⟨_, rfl, a, rfl, ⟨_, SqL.of (s5 _ _ ha)⟩, for_list (K := K) (a := a) (xs := txts ws) (fun m σ H' => ∃ (c : Nat → Int) (v5 : Option V), σ = [some (.ref a), some (.str (SX.S x)), some (.ref D), some (.int (0 + (t : Int))), some (.int (at_ : Int)), v5] ∧
        H' D = some (.lst (bl x.length c)) ∧ Same H H' ∧ (∀ j, j ≠ at_ → c j = b j) ∧ c at_ = ((ws.take m).map (bk x b at_)).sum) ?_ ?_ ?_ ?_⟩
      · exact ⟨b, v5, rfl, hb, s5, fun _ _ => rfl, by rw [b3 at_ (by omega)]; rfl⟩
      · rintro m σ H6 _ ⟨_, _, _, _, s6, _⟩
        exact SqL.of (s6 _ _ ha)
      · rintro m y σ H6 hy ⟨c, v5, rfl, hc, s6, c1, c2⟩
        obtain ⟨u, hu, rfl⟩ := txt_at hy
        obtain ⟨u1, u2⟩ := hw u (List.mem_of_getElem? hu)
        have hul : (SX.S u).length ≤ sizeLine := le_size (by rw [SX.S_len]; omega)
        have eend : (at_ : Int) + ((SX.S u).length : Nat) = ((at_ + u.length : Nat) : Int) := by rw [SX.S_len]; omega
        have snoc : ((ws.take (m + 1)).map (bk x b at_)).sum = ((ws.take m).map (bk x b at_)).sum + bk x b at_ u := by
          rw [← take_snoc hu, List.map_append, List.sum_append]
          simp
        refine ⟨_, rfl, _, rfl, _, rfl, _, rfl, _, rfl, _, rfl, hul, _, _, rfl, rfl, ?_⟩
        dsimp only
        rw [eend]
        refine ⟨_, rfl, _, rfl, hxl, ?_⟩
        rw [cutS_mid x (by omega)]
        refine ⟨_, rfl, rfl, _, rfl, ?_⟩
        have em : (V.str (SX.S ((x.drop at_).take u.length)) = V.str (SX.S u)) ↔ matchAt x u at_ = true := by
          unfold matchAt
          constructor
          · intro z
            injection z with z
            exact beq_iff_eq.mpr (S_inj z)
          · intro z
            rw [beq_iff_eq.mp z]
        refine ite2 (fun q => ?_) (fun q => ?_)
        · have hm := em.mp (of_decide_eq_true q)
          have hle := matchAt_le hm (by omega)
          refine ⟨_, rfl, _, rfl, D, _, _, _, rfl, rfl, SqL.of hc, atI_nat (bl_at c (by omega)), ?_⟩
          refine ⟨_, rfl, _, rfl, _, rfl, _, rfl, hul, _, _, rfl, rfl, D, _, _, _, rfl, rfl, SqL.of hc, by rw [eend]; exact atI_nat (bl_at c hle), _, _, rfl, rfl, ?_⟩
          refine ⟨_, rfl, _, rfl, D, _, _, at_, rfl, rfl, hc, ixn_at (by rw [bl_len]; omega), ?_⟩
          refine ⟨fun j => if j = at_ then c at_ + c (at_ + u.length) else c j, _, rfl, by rw [upd_same, bl_set], s6.updNew hD0, fun j n => by show (if j = at_ then _ else c j) = b j; rw [if_neg n]; exact c1 j n, ?_⟩
          show (if at_ = at_ then c at_ + c (at_ + u.length) else _) = _
          rw [if_pos rfl, snoc, c2, c1 _ (by omega)]
          unfold bk
          rw [if_pos hm]
        · have hm : ¬ matchAt x u at_ = true := fun z => q (decide_eq_true (em.mpr z))
          refine ⟨c, _, rfl, hc, s6, c1, ?_⟩
          rw [snoc, c2]
          unfold bk
          rw [if_neg hm]
          omega
      · rintro σ H6 ⟨c, v5, rfl, hc, s6, c1, c2⟩
        have ew : ws.take (txts ws).length = ws := by rw [wl, List.take_length]
        rw [ew] at c2
        have ebk : ∀ i, at_ ≤ i → (ws.map (bk x c i)).sum = (ws.map (bk x b i)).sum := fun i hi => by
          congr 1
          refine List.map_congr_left fun u hu => ?_
          have := (hw u hu).1
          unfold bk
          rw [c1 _ (by omega)]
        refine ⟨c, _, _, _, rfl, hc, s6, by rw [c1 _ (by omega)]; exact b1, fun i h1 h2 => ?_, fun i h => by rw [c1 _ (by omega)]; exact b3 i (by omega)⟩
        rw [ebk i (by omega)]
        by_cases e : i = at_
        · rw [e]; exact c2
        · rw [c1 i e]; exact b2 i h1 (by omega)
    · rintro σ H5 ⟨b, v3, v4, v5, rfl, hb, s5, b1, b2, b3⟩
      exact ⟨_, rfl, D, _, _, _, rfl, rfl, SqL.of hb, atI_nat (j := 0) (bl_at b (Nat.zero_le _)), k _ b s5 ⟨b1, fun i hi => b2 i hi (by omega)⟩⟩
end
end J


set_option Elab.async false
set_option linter.all false
set_option maxRecDepth 100000
set_option maxHeartbeats 4000000
namespace PySem
namespace ExX
section
variable {prog : Program} {w : World} {A : Around} {E : Value → Shared → Prop} {R : Result → Shared → Prop} {s : Shared} {K : W.Frag} {mg : Str → Option Value} {C fI : Addr}
open PySem.W PySem.Calls PyProof.Rows PySem.HandSPX
theorem init_LimitExceeded (T : ExcT K mg C fI "LimitExceeded" ["limit"] "LimitExceeded.__init__" J.s_LimitExceeded_init) {x t0 : Addr} {v0 : Value} (X : K.In s.heap) (hlim : s.heap.NoLimit) (hx : s.heap.get? x = some (excO C t0)) (hnx : K.lookup x = none) (hroom : A.depth < recursionLimit)
    (hq : ∀ h' tk dx, (∀ b o, b ≠ x → s.heap.get? b = some o → h'.get? b = some o) → h'.get? x = some { cls := .ref C, dict := some dx, data := .fields #[.ref t0, .none, .none, .none, .bool false, .none] } → s.heap.objs.size ≤ dx → dx ≠ x →
      h'.Ns1 dx (fun y => if y = "limit" then some v0 else none) → R (.ok (.ret .none)) { s with heap := h', toks := tk }) :
    codeAny (model prog w) A (.call (.ref fI) ⟨[.ref x, v0], []⟩) R s := by
  obtain ⟨oc, od, kV, doc, pm, an, cdv, ct, osl, ho, hcd⟩ := T.fn
  obtain ⟨nm, q, N, bs, bm, sn, sub, ab, col, dd, k0, k1, k2, k3, k5, hC, hbm⟩ := T.cls
  have hcl : clsIn K C = some { name := nm, bases := bs, mro := .ref C :: bm, ns := N, qualname := q, hasDict := true, slotNames := sn, subclasses := sub, abstract := ab, collection := col, hasDel := false } := by unfold clsIn; rw [hC] <;> rfl
  refine Att.call_fn (binds := [("self", .ref x), ("limit", v0)]) X hlim ho hcd hroom (BindsTo.of_eq (by first | rfl | with_unfolding_all rfl)) (by first | rfl | decide | with_unfolding_all rfl) (fun s₁ IC => ?_) rfl rfl rfl
  obtain ⟨h₁, tk₁, rfl⟩ := IC.toInCall.same
  have k : ∀ b o, s.heap.get? b = some o → h₁.get? b = some o := IC.toInCall.keep
  have hn := IC.toInCall.ns
  have hxL : s.heap.objs.size ≠ x := Nat.ne_of_gt (Heap.lt_size hx)
  have X₁ : K.In h₁ := X.keeps k
  have hx₁ := k _ _ hx
  have z : s.heap.objs.size < h₁.objs.size := hn.lt
  show wpAny _ _ (execs _ _) _ _ _
  refine wpAny_execs_cons (plainObj_wpAny_Assign_Attribute ?_)
  refine ldC (v := v0) hn (by first | rfl | with_unfolding_all rfl | kernel_rfl) (ldC (v := .ref x) hn (by first | rfl | with_unfolding_all rfl | kernel_rfl) ?_)
  refine set_plain X₁ (ox := excO C t0) (od := none) ⟨hx₁, rfl, rfl, trivial⟩ T.sa ?_
  refine osa_new X₁ hx₁ hcl (show refsEX (.ref C :: bm) = true from hbm) rfl (T.no "limit" (by simp)) (fun h₃ tk₃ dx k₃ dn dne hx₃ hn₃ => ?_)
  show wpAny _ _ (execs _ _) _ _ _
  exact wpAny_execs_nil (hq h₃ tk₃ dx (fun b o hb e => k₃ b o hb (k b o e)) hx₃ (Nat.le_of_lt (Nat.lt_of_lt_of_le z dn)) dne hn₃)
theorem made_LimitExceeded (T : ExcT K mg C fI "LimitExceeded" ["limit"] "LimitExceeded.__init__" J.s_LimitExceeded_init) {v0 : Value} (X : K.In s.heap) (hlim : s.heap.NoLimit) (hroom : A.depth + 1 < recursionLimit)
    (hq : ∀ h' tk e d, OwnMade s.heap h' e C d (fun y => if y = "limit" then some v0 else none) → R (.ok (.ret (.ref e))) { s with heap := h', toks := tk }) :
    codeAny (model prog w) A (.call (.ref C) ⟨[v0], []⟩) R s := by
  obtain ⟨nm, q, N, bs, bm, sn, sub, ab, col, dd, k0, k1, k2, k3, k5, hC, hbm⟩ := T.cls
  obtain ⟨hp, g, dr, tk, os⟩ := s
  have k : ∀ b o, hp.get? b = some o → ((hp.push (kdv_tup [v0])).push (excO C hp.objs.size)).get? b = some o := fun b o e => Heap.get?_push_of_some _ (Heap.get?_push_of_some _ e)
  have hget : ((hp.push (kdv_tup [v0])).push (excO C hp.objs.size)).get? (hp.objs.size + 1) = some (excO C hp.objs.size) := by heap_get
  have hnx : K.lookup (hp.objs.size + 1) = none := by
    cases e : K.lookup (hp.objs.size + 1) with
    | none => rfl
    | some o =>
      have z : hp.get? (hp.objs.size + 1) = some o := X _ _ e
      exact absurd (Nat.lt_of_succ_lt (Heap.lt_size z)) (Nat.lt_irrefl _)
  refine call_own F.excBase_Exception (fun X => refsEX_contains X bm hbm) (X _ _ hC) (looks_findIn X T.iC) (fun self => bind_fn X self T.tC) (by show 1 ≤ sizeLine; rw [sizeLine_eq]; decide) ?_
  refine init_LimitExceeded (s := ⟨(hp.push (kdv_tup [v0])).push (excO C hp.objs.size), g, dr, tk, os⟩) T (X.keeps k) (hlim.keeps k) hget hnx ?_ fun h' tk' dx k' hx dn dne hns => ?_
  · show A.depth + 1 < recursionLimit
    exact hroom
  · have old : ∀ b o, hp.get? b = some o → h'.get? b = some o := fun b o e => k' b o (Nat.ne_of_lt (Nat.lt_succ_of_lt (Heap.lt_size e))) (k b o e)
    have z : hp.objs.size + 1 + 1 ≤ dx := by
      first
        | (simpa only [Heap.size_push] using dn)
        | exact dn
        | (have q := dn; rw [Heap.size_push, Heap.size_push] at q; exact q)
    exact ⟨rfl, hq h' tk' (hp.objs.size + 1) dx ⟨old, Nat.le_succ _, ⟨_, _, hx, rfl, rfl, rfl, rfl⟩, Nat.le_trans (Nat.le_trans (Nat.le_succ _) (Nat.le_succ _)) z, dne, hns⟩⟩
end
end ExX
end PySem
namespace L2
open PySem PySem.Spec PyProof.Rows PySem.ExX
def fs_LimitExceeded (x0 : V) : List (Str × V) := [(("limit" : Str), x0)]
theorem rel_LimitExceeded {x0 : V} {v0 : Value} (r0 : RelV x0 v0) (f : Str) : RelO (List.lookup f (fs_LimitExceeded x0)) ((fun y : Str => if y = "limit" then some v0 else none) f) := by
  unfold fs_LimitExceeded
  exact (fun g => relO_put (f := "limit") (fs := []) (mA := fun _ => none) r0 (fun _ => trivial) g) f
section
variable {X : Cx} {C fI : Addr} {es : List Expr} {e : Expr} {ta : TA} {p pos : Pos} {k : Nat}
def tV_LimitExceeded (C : Addr) (ta : TA) : TE := fun σ H Q => ta σ H fun vs H1 => ∃ x0, vs = [x0] ∧ ∀ e d, H1 e = none → H1 d = none → d ≠ e → Q (.ref e) (upd (upd H1 d (.xd (fs_LimitExceeded x0))) e (ExD C d e))
/-- LimitExceeded(..) as a value -/
theorem pe_LimitExceeded (T : ExcT X.K X.mg C fI "LimitExceeded" ["limit"] "LimitExceeded.__init__" J.s_LimitExceeded_init) (hr : Room k X.A) (ha : PA X (e :: es) ta) (hg : Gl X "LimitExceeded" := by rfl)
    (he : starEach (e :: es) X.env = (false, eval e X.env) :: starEach es X.env := by rfl) (hpl : (backTo pos (starEach es X.env)).any (·.1) = false := by rfl) :
    PE X (.Call (.Name "LimitExceeded" p) (e :: es) [] pos) (tV_LimitExceeded C ta) := by
  refine ⟨fun pins s σ H Q I h => ?_⟩
  refine wpAny_Call_Name_kw (ld_glob I hg T.gC ?_)
  refine PySem.W.callWith_K (h₀ := X.base) I.ok.mod.kin T.kC (thn (ha.run pos pins s σ H _ I h) fun us s1 hh => ?_) he hpl
  obtain ⟨vs, H1, I1, r1, x0, ev, q1⟩ := hh
  subst ev
  refine ⟨I1.kIn, ?_⟩
  cases r1 with
  | cons r0 rn =>
  cases rn
  have hlim := I1.nolimit
  obtain ⟨hp, g, dr, tk, os⟩ := s1
  refine wpAny_call (made_LimitExceeded T I1.kIn hlim (by have := hr.dp; omega) fun h' tk' e d M => ?_)
  exact ⟨.ref e, _, own_value (tk' := tk') I1 M (rel_LimitExceeded r0), rfl, q1 e d (I1.hok.fresh M.new) (I1.hok.fresh M.dbig) M.dne⟩
def tMk_LimitExceeded (C : Addr) (ta : TA) : St → Hp → XK → Prop := fun σ H Q => ta σ H fun vs H1 => ∃ x0, vs = [x0] ∧ ∀ d, H1 d = none → Q (.ref C) (some d) (upd H1 d (.xd (fs_LimitExceeded x0)))
/-- LimitExceeded(..) to be raised -/
theorem pmk_LimitExceeded (T : ExcT X.K X.mg C fI "LimitExceeded" ["limit"] "LimitExceeded.__init__" J.s_LimitExceeded_init) (hr : Room k X.A) (ha : PA X (e :: es) ta) (hg : Gl X "LimitExceeded" := by rfl)
    (he : starEach (e :: es) X.env = (false, eval e X.env) :: starEach es X.env := by rfl) (hpl : (backTo pos (starEach es X.env)).any (·.1) = false := by rfl) :
    PMk X (.Call (.Name "LimitExceeded" p) (e :: es) [] pos) (tMk_LimitExceeded C ta) := by
  intro pins s σ H Q I h
  refine wpAny_Call_Name_kw (ld_glob I hg T.gC ?_)
  refine PySem.W.callWith_K (h₀ := X.base) I.ok.mod.kin T.kC (thn (ha.run pos pins s σ H _ I h) fun us s1 hh => ?_) he hpl
  obtain ⟨vs, H1, I1, r1, x0, ev, q1⟩ := hh
  subst ev
  refine ⟨I1.kIn, ?_⟩
  cases r1 with
  | cons r0 rn =>
  cases rn
  have hlim := I1.nolimit
  obtain ⟨hp, g, dr, tk, os⟩ := s1
  refine wpAny_call (made_LimitExceeded T I1.kIn hlim (by have := hr.dp; omega) fun h' tk' e d M => ?_)
  exact own_raise (tk' := tk') I1 M (rel_LimitExceeded r0) (raises_own T.exC T.tyC) q1
end
end L2

set_option Elab.async false
set_option linter.all false
set_option maxRecDepth 100000
/-! o.name(e, ..) with a letter for the frozen heap: for the word of a comprehension -/
namespace L2
open PySem PySem.Spec PyProof.Rows
theorem pe_bmK {X : Cx} {K : PySem.W.Frag} (hK : X.K = K) {o e : Expr} {es : List Expr} {to : TE} {t : TA} {name : Str} {apos cpos : Pos} {T id : String} {r : V → List V → Hp → VK → Prop}
    (pa : PlainAttrs T) (slot : Slot T name id) (hty : typeOf (.builtin id) = pure (.type "method_descriptor")) (hm : MtR X id r) (ho : PE X o to) (ha : PA X (e :: es) t)
    (h1 : attributeBase o name X.env (eval o X.env) = eval o X.env := by rfl)
    (h2 : (((backTo cpos (starEach (e :: es) X.env)).all (!·.1) && (backToKw cpos (keywordEach [] X.env)).all (·.1.isSome)) && decide ((e :: es).length + ([] : List Keyword).length + (if ([] : List Keyword).isEmpty then 0 else 1) < 30)) = true := by rfl)
    (h3 : (apos.endLine == cpos.line) = true := by rfl) (h4 : starEach (e :: es) X.env = (false, eval e X.env) :: starEach es X.env := by rfl) (h5 : (backTo cpos (starEach es X.env)).any (·.1) = false := by rfl) :
    PE X (.Call (.Attribute o name apos) (e :: es) [] cpos) (tBM K T r to t) := by
  subst hK
  exact pe_bm pa slot hty hm ho ha h1 h2 h3 h4 h5
end L2

set_option Elab.async false
set_option linter.all false
set_option maxRecDepth 100000
set_option maxHeartbeats 4000000
namespace J
open PySem L2
/-- the letters of outer books -/
def lets : List (List Nat) := [[97], [97, 98], [97, 98, 99], [97, 98, 99, 100], [112], [112, 113], [112, 113, 114], [112, 113, 114, 115], [97, 100], [97, 100, 120], [97, 100, 120, 122]]
theorem lets_signs : ∀ l ∈ lets, Signs l := by decide
theorem occ34 : ∀ l ∈ lets, ∀ c ∈ l, Builtin.Str.occurrences (SX.S l) (SX.S [c]) 0 (SX.S l).length 1 = [l.idxOf c] := by decide +kernel
/-- the word that stands for the sign c -/
def pc (ws : List (List Nat)) (lt : List Nat) (c : Nat) : List Nat := ws.getD (lt.idxOf c) []
def spell (ws : List (List Nat)) (lt : List Nat) (u : List Nat) : List Nat := (u.map (pc ws lt)).flatten
def Big (ms : List (List Nat)) : Prop := ∃ u ∈ ms, 12 < u.length
theorem pc_at {ws : List (List Nat)} {lt : List Nat} {c : Nat} (hl : lt.length ≤ ws.length) (hc : c ∈ lt) : ws[lt.idxOf c]? = some (pc ws lt c) ∧ pc ws lt c ∈ ws := by
  have h : lt.idxOf c < ws.length := Nat.lt_of_lt_of_le (List.idxOf_lt_length_of_mem hc) hl
  have e : pc ws lt c = ws[lt.idxOf c] := by
    unfold pc
    rw [List.getD_eq_getElem?_getD, List.getElem?_eq_getElem h]
    rfl
  rw [e]
  exact ⟨List.getElem?_eq_getElem h, List.getElem_mem h⟩
theorem flat_len {ls : List (List Nat)} {k : Nat} (h : ∀ l ∈ ls, l.length ≤ k) : ls.flatten.length ≤ k * ls.length := by
  induction ls with
  | nil => simp
  | cons a r ih =>
    have h1 := h a (by simp)
    have h2 := ih fun l hl => h l (List.mem_cons_of_mem _ hl)
    rw [List.flatten_cons, List.length_append, List.length_cons, Nat.mul_add]
    omega
theorem sum_flat (ls : List (List Nat)) : ((ls.map SX.S).map (·.length)).sum = ls.flatten.length := by
  induction ls with
  | nil => rfl
  | cons a r ih => rw [List.map_cons, List.map_cons, List.sum_cons, ih, SX.S_len, List.flatten_cons, List.length_append]
theorem spell_len {ws : List (List Nat)} {lt u : List Nat} (hl : lt.length ≤ ws.length) (hw : ∀ v ∈ ws, v.length ≤ 12) (hu : Word lt u) : (spell ws lt u).length ≤ 144 := by
  have h := flat_len (ls := u.map (pc ws lt)) (k := 12) fun l h => by
    obtain ⟨c, hc, rfl⟩ := List.mem_map.mp h
    exact hw _ (pc_at hl (hu.2.2 c hc)).2
  rw [List.length_map] at h
  have := hu.2.1
  unfold spell
  omega
theorem spell_word {ws : List (List Nat)} {sg lt u : List Nat} (hl : lt.length ≤ ws.length) (hw : ∀ v ∈ ws, Word sg v) (hu : Word lt u) (hn : (spell ws lt u).length ≤ 12) : Word sg (spell ws lt u) := by
  refine ⟨?_, hn, fun c hc => ?_⟩
  · obtain ⟨d, r, rfl⟩ : ∃ d r, u = d :: r := by
      cases u with
      | nil => have := hu.1; simp at this
      | cons d r => exact ⟨d, r, rfl⟩
    have := (hw _ (pc_at hl (hu.2.2 d (by simp))).2).1
    unfold spell
    rw [List.map_cons, List.flatten_cons, List.length_append]
    omega
  · obtain ⟨l, h1, h2⟩ := List.mem_flatten.mp hc
    obtain ⟨d, hd, rfl⟩ := List.mem_map.mp h1
    exact (hw _ (pc_at hl (hu.2.2 d hd)).2).2.2 c h2
def spSpelled : Sp := fun vs H Q _ => ∃ (a : Addr) (ws : List (List Nat)) (lt u : List Nat), vs = [.ref a, .str (SX.S lt), .str (SX.S u)] ∧ H a = some (.lst (txts ws)) ∧ lt ∈ lets ∧ lt.length ≤ ws.length ∧ (∀ v ∈ ws, v.length ≤ 12) ∧ Word lt u ∧
  ∀ H', Same H H' → Q (.str (SX.S (spell ws lt u))) H'
def spJoined (C CU CL : Addr) : Sp := fun vs H Q E => ∃ (p q : Addr) (sg lt : List Nat) (us us' : List V) (ws os : List (List Nat)), vs = [.ref p, .ref q] ∧ LoomAt C H p sg us (bka ws) ∧ LoomAt C H q lt us' (bka os) ∧
  ((lt.length ≠ ws.length ∧ ∀ H', Same H H' → E (.ref CU) none H') ∨
   (lt.length = ws.length ∧ lt ∈ lets ∧ (Big (os.map (spell ws lt)) → ∀ H' e, Same H H' → H' e = some (.xd (fs_LimitExceeded (.int 12))) → E (.ref CL) (some e) H') ∧
    (¬ Big (os.map (spell ws lt)) → ∀ H' r us, Same H H' → H r = none → LoomAt C H' r sg us (bka (os.map (spell ws lt))) → Q (.ref r) H')))
theorem bka_words {sg : List Nat} {ws : List (List Nat)} (h : OkW sg (bka ws)) : 1 ≤ ws.length ∧ ws.length ≤ 200 ∧ ∀ u ∈ ws, Word sg u := by
  have h1 := h.1
  have h2 := h.2.1
  rw [bka_len] at h1 h2
  exact ⟨h1, h2, fun u hu => (h.2.2 (0, u, 0) (List.mem_map.mpr ⟨u, hu, rfl⟩)).2.1⟩
section
variable {P : Program} {w : World} {K : PySem.W.Frag} {mg : Str → Option Value} {base : Heap}
theorem ok_l_spelled (T : Tx K mg) : FnOk P w K mg base CX0 1 T.f_l_spelled T.fd_l_spelled P_l_spelled spSpelled := by
  refine T.F_l_spelled.ok sc_l_spelled (fun vs H Q E h => ?_) (fun cdv A outer s H vs Q E hr h => ?_)
  · obtain ⟨a, ws, lt, u, rfl, _⟩ := h
    rfl
  · obtain ⟨a, ws, lt, u, rfl, ha, hlt, hl, hw, hu, k⟩ := h
    refine ⟨_, (pss_one (ps_ret (pe_join pe_str (pe_lc (own := [("_law_sign", 3)]) (g := (gName 3)) rfl sc_l_spelled.nd (pi_str (pv 2)) (blkOk_by (N := N_l_spelled) (sc := defScope s_l_spelled) (by decide +kernel)) (fun _ _ _ _ _ => (pg_name (i := 3) sc_l_spelled.nd rfl (Or.inl rfl))) (fun _ _ _ _ _ => pts_nil) (fun _ _ _ _ _ => (pe_ix (ix_listK (K := K) rfl) (pv 0) (pe_bmK (K := K) rfl PySem.F.plainAttrs_str PySem.F.slot_str_index PySem.F.type_str_index mt_sindex (pv 1) (pa_cons (pv 3) pa_nil)) (fun _ _ => rfl))))))), ?_⟩
    have hul := hu.2.1
    refine ⟨⟨_, rfl⟩, _, rfl, _, rfl, fun D hD => lc_it (walk_str (z := SX.S u)) (fun i H' => H' D = some (.lst ((((u.take i).map (pc ws lt)).map SX.S).map V.str)) ∧ Same H H') ⟨upd_same, Same.new _ hD⟩ (fun _ _ _ _ => trivial) ?_ ?_⟩
    · rintro i x H1 H2 hi ⟨hDl, sm⟩ ⟨rfl, c, hc, rfl⟩
      have hc2 : u[i]? = some c := by simpa using hc
      have hcl := hu.2.2 c (List.mem_of_getElem? hc2)
      obtain ⟨p1, p2⟩ := pc_at hl hcl
      have hta : (txts ws)[lt.idxOf c]? = some (.str (SX.S (pc ws lt c))) := by rw [txts, List.getElem?_map, p1]; rfl
      refine ⟨rfl, _, rfl, _, rfl, rfl, _, rfl, SX.S lt, SX.S [c], lt.idxOf c, [], rfl, rfl, occ34 lt hlt c hcl, a, _, _, _, rfl, rfl, SqL.of (sm _ _ ha), atI_nat hta, ?_⟩
      refine ⟨_, hDl, lt_size (by simp; omega), ?_, sm.updNew hD⟩
      rw [upd_same, ← take_snoc hc2]
      simp
    · rintro H1 ⟨hDl, sm⟩
      have et : u.take (SX.S u).cps.size = u := List.take_of_length_le (Nat.le_of_eq (SX.S_len u).symm)
      rw [et] at hDl
      refine ⟨_, _, (u.map (pc ws lt)).map SX.S, rfl, rfl, .inl (SqL.of hDl), ?_, ?_⟩
      · have := spell_len hl hw hu
        rw [sum_flat, emptyS, SX.S_len, List.length_nil, Nat.mul_zero, Nat.add_zero]
        exact Nat.le_trans this (by decide)
      · rw [emptyS, join_flat]
        exact k _ sm
end
end J


set_option Elab.async false
set_option linter.all false
set_option maxRecDepth 100000
set_option maxHeartbeats 4000000
namespace J
open PySem L2
theorem pe_fldK {X : Cx} {K : PySem.W.Frag} (hK : X.K = K) {e : Expr} {ta : TE} {f : Str} {pos : Pos} (he : PE X e ta) (hb : attributeBase e f X.env (eval e X.env) = eval e X.env) : PE X (.Attribute e f pos) (tFld K ta f) := by
  subst hK
  exact pe_fld he hb
def scJ : Scope := { kind := ScopeKind.function, names := [(Str.ofString ".0", NameKind.local), (Str.ofString "word", NameKind.local), (Str.ofString "outer", NameKind.cell), (Str.ofString "told", NameKind.cell)], isGenerator := false, isCoroutine := false }
def rJn (K : PySem.W.Frag) : V → List V → Hp → VK → Prop := fun x xs H Q => ∃ (a : Str) (p : Addr) (ys : List Str), x = .str a ∧ xs = [.ref p] ∧ (SqL K H p (ys.map V.str) ∨ SqT K H p (ys.map V.str)) ∧ (ys.map (·.length)).sum + ys.length * a.length ≤ 16777216 ∧ Q (.str (Txt.join a ys)) H
theorem pe_joinK {X : Cx} {K : PySem.W.Frag} (hK : X.K = K) {o e : Expr} {to te : TE} {apos pos : Pos} (ho : PE X o to) (he : PE X e te) (hs : starEach [e] X.env = [(false, eval e X.env)] := by rfl) (hbase : attributeBase o "join" X.env (eval o X.env) = eval o X.env := by rfl) (hline : (apos.endLine == pos.line) = true := by rfl) :
    PE X (.Call (.Attribute o "join" apos) [e] [] pos) (tM1 (rJn K) to te) := by
  subst hK
  exact pe_join ho he hs hbase hline
theorem iteF' {b : Bool} {a c : Prop} (h : ¬ b = true) (q : c) : if b = true then a else c := by rw [if_neg h]; exact q
theorem max_big {ms : List (List Nat)} {m : Int} (h1 : m ∈ (ms.map fun u => ((u.length : Nat) : Int))) (h2 : ∀ y, y ∈ (ms.map fun u => ((u.length : Nat) : Int)) → y ≤ m) : Big ms ↔ m > 12 := by
  constructor
  · rintro ⟨u, hu, h⟩
    have := h2 _ (List.mem_map.mpr ⟨u, hu, rfl⟩)
    omega
  · intro h
    obtain ⟨u, hu, rfl⟩ := List.mem_map.mp h1
    exact ⟨u, hu, by omega⟩
def lensI (ms : List (List Nat)) : List V := (ms.map fun u => ((u.length : Nat) : Int)).map V.int
section
variable {P : Program} {w : World} {K : PySem.W.Frag} {mg : Str → Option Value} {base : Heap}
theorem ok_joined (T : Tx K mg) : FnOk P w K mg base (L2.CX P w) 7 T.f_joined T.fd_joined P_joined (spJoined T.C_Loom T.C_Unlike T.C_LimitExceeded) := by
  have G_words : FnOk P w K mg base CX0 3 T.f_words T.fd_words P_words (spPWords T.C_Loom) := ok_words T
  have G_check_book : FnOk P w K mg base CX0 2 T.f_check_book T.fd_check_book P_check_book (spChkBook T.C_Loom) := ok_check_book T
  have G_book : FnOk P w K mg base CX0 6 T.f_book T.fd_book P_book (spBook T.C_Loom) := ok_book T
  refine T.F_joined.okX sc_joined (fun vs H Q E h => ?_) (fun cdv A outer s H vs Q E hr h => ?_)
  · obtain ⟨p, q, sg, lt, us, us', ws, os, rfl, _⟩ := h
    rfl
  · obtain ⟨p, q, sg, lt, us, us', ws, os, rfl, hp0, hq0, h⟩ := h
    refine ⟨_, (pss_cons (ps_set (i := 2) sc_joined.nd rfl (Or.inr rfl) (pe_call G_words (hr.mono (by decide)) rfl T.m_words T.F_words.kp T.b_words .nil pass0 (pa_cons (pv 0) pa_nil)))
        (pss_cons (ps_expr (pe_call G_check_book (hr.mono (by decide)) rfl T.m_check_book T.F_check_book.kp T.b_check_book .nil pass0 (pa_cons (pv 1) pa_nil)))
        (pss_cons (ps_if (pt_cmpR op_ne (pe_callB call_len_str rfl T.n_len (by decide +kernel) (pa_cons (pe_fld (pv 1) rfl) pa_nil)) (pe_callB (call_len_seqK (K := K) rfl) rfl T.n_len (by decide +kernel) (pa_cons (pv 2) pa_nil)) (nomark _)) (pss_one (ps_raise rfl (takes_of rfl rfl rfl rfl) (pmk_own0 PySem.F.excBase_Exception T.in_Unlike T.g_Unlike T.kc_Unlike (raises_own T.E_Unlike.hs T.ty_Unlike) rfl))) pss_nil)
        (pss_cons (ps_setLc (i := 3) (own := [("word", 4)]) (g := (gName 4)) rfl sc_joined.nd rfl rfl (sw_true rfl rfl rfl (by decide +kernel)) (pi_list (pe_call G_words (hr.mono (by decide)) rfl T.m_words T.F_words.kp T.b_words .nil pass0 (pa_cons (pv 1) pa_nil))) (blkOk_by (N := N_joined) (sc := defScope s_joined) (by decide +kernel)) (fun _ _ _ _ _ => (pg_name (i := 4) sc_joined.nd rfl (Or.inl rfl))) (fun _ _ _ _ _ => pts_nil) (fun _ _ _ _ _ => (pe_joinK (K := K) rfl pe_str (pe_lc (own := [("sign", 5)]) (g := (gName 5)) rfl sc_joined.nd (pi_str (pv 4)) (blkOk_by (N := N_joined) (sc := scJ) (by decide +kernel)) (fun _ _ _ _ _ => (pg_name (i := 5) sc_joined.nd rfl (Or.inl rfl))) (fun _ _ _ _ _ => pts_nil) (fun _ _ _ _ _ => (pe_ix (ix_listK (K := K) rfl) (pv 2) (pe_bmK (K := K) rfl PySem.F.plainAttrs_str PySem.F.slot_str_index PySem.F.type_str_index mt_sindex (pe_fldK (K := K) rfl (pv 1) rfl) (pa_cons (pv 5) pa_nil)) (fun _ _ => rfl)))))))
        (pss_cons (ps_if (pt_cmpR op_gt (pe_callB (cr_max rfl) rfl T.n_max (by decide +kernel) (pa_cons (pe_lc (own := [("word", 4)]) (g := (gName 4)) rfl sc_joined.nd (pi_list (pv 3)) (blkOk_by (N := N_joined) (sc := defScope s_joined) (by decide +kernel)) (fun _ _ _ _ _ => (pg_name (i := 4) sc_joined.nd rfl (Or.inl rfl))) (fun _ _ _ _ _ => pts_nil) (fun _ _ _ _ _ => (pe_callB call_len_str rfl T.n_len (by decide +kernel) (pa_cons (pv 4) pa_nil)))) pa_nil)) (pe_glob (v := V.int 12) rfl T.g_LONGEST_WORD ⟨_, rfl⟩) (nomark _)) (pss_one (ps_raise rfl (takes_of rfl rfl rfl rfl) (pmk_LimitExceeded (k := 3) T.X_LimitExceeded (hr.mono (by decide)) (pa_cons (pe_glob (v := V.int 12) rfl T.g_LONGEST_WORD ⟨_, rfl⟩) pa_nil)))) pss_nil)
        (pss_one (ps_ret (pe_call G_book (hr.mono (by decide)) rfl T.m_book T.F_book.kp T.b_book .nil pass0 (pa_cons (pe_fld (pv 0) rfl) (pa_cons (pv 3) pa_nil)))))))))), ?_⟩
    obtain ⟨_, _, _, _, _, hokp, hsg⟩ := id hp0
    obtain ⟨_, _, _, _, _, hokq, hltS⟩ := id hq0
    obtain ⟨w1, w2, w3⟩ := bka_words hokp
    obtain ⟨o1, o2, o3⟩ := bka_words hokq
    refine ⟨_, rfl, p, sg, us, ws, rfl, hp0, fun H1 r s1 hr0 hr1 => ?_⟩
    refine ⟨_, rfl, q, lt, us', bka os, rfl, hq0.same s1, kd_book os, fun H2 s2 => ?_⟩
    have s02 := s1.trans s2
    obtain ⟨dxq, Tq, hq, hTq, harcq, _, _⟩ := hq0.same s02
    have hr2 := s2 _ _ hr1
    refine ⟨_, rfl, q, _, dxq, _, _, rfl, hq, T.cl_Loom, T.na_Loom_signs, lf_signs _ _, _, rfl, le_size (by rw [SX.S_len]; have := hltS.len; omega), _, rfl, r, _, rfl, .inl (SqL.of hr2), rfl, _, rfl, ?_⟩
    rw [SX.S_len, txts, List.length_map]
    rcases h with ⟨hne, k⟩ | ⟨hle, hlt, kb, kn⟩
    · refine ite2 (fun c => k H2 s02) (fun c => absurd ?_ c)
      simp only [Bool.not_eq_true', decide_eq_false_iff_not]
      intro z
      injection z with z
      omega
    refine iteF' (by rw [hle]; simp) ?_
    have hpw : ∀ v ∈ ws, v.length ≤ 12 := fun v hv => (w3 v hv).2.1
    refine ⟨_, rfl, q, lt, us', os, rfl, hq0.same s02, fun H3 r2 s3 hr20 hr21 => ⟨r2, rfl, ⟨_, SqL.of hr21⟩, fun D hD => lc_list (K := K) (a := r2) (xs := txts os) (fun i H' => H' D = some (.lst (txts ((os.take i).map (spell ws lt)))) ∧ Same H3 H') ⟨upd_same, Same.new _ hD⟩ (fun i H' _ ⟨_, sm⟩ => SqL.of (sm _ _ hr21)) ?_ ?_⟩⟩
    · rintro i y H4 hy ⟨hDl, sm⟩
      obtain ⟨u, hu, rfl⟩ := txt_at hy
      have hio := (List.getElem?_eq_some_iff.mp hu).1
      have hwu := o3 u (List.mem_of_getElem? hu)
      have hul := hwu.2.1
      have hq4 := sm _ _ (s3 _ _ hq)
      have hr4 := sm _ _ (s3 _ _ hr2)
      refine ⟨rfl, ⟨_, rfl⟩, _, rfl, _, rfl, fun D2 hD2 => lc_it (walk_str (z := SX.S u)) (fun i H' => H' D2 = some (.lst ((((u.take i).map (pc ws lt)).map SX.S).map V.str)) ∧ Same H4 H') ⟨upd_same, Same.new _ hD2⟩ (fun _ _ _ _ => trivial) ?_ ?_⟩
      · rintro j x H5 H6 hj ⟨hD5, sm5⟩ ⟨rfl, c, hc, rfl⟩
        have hc2 : u[j]? = some c := by simpa using hc
        have hcl := hwu.2.2 c (List.mem_of_getElem? hc2)
        obtain ⟨p1, p2⟩ := pc_at (ws := ws) (Nat.le_of_eq hle) hcl
        have hta : (txts ws)[lt.idxOf c]? = some (.str (SX.S (pc ws lt c))) := by rw [txts, List.getElem?_map, p1]; rfl
        refine ⟨rfl, _, rfl, _, rfl, q, _, dxq, _, _, rfl, sm5 _ _ hq4, T.cl_Loom, T.na_Loom_signs, lf_signs _ _, rfl, _, rfl, SX.S lt, SX.S [c], lt.idxOf c, [], rfl, rfl, occ34 lt hlt c hcl, r, _, _, _, rfl, rfl, SqL.of (sm5 _ _ hr4), atI_nat hta, ?_⟩
        refine ⟨_, hD5, lt_size (by simp; omega), ?_, sm5.updNew hD2⟩
        rw [upd_same, ← take_snoc hc2]
        simp
      · rintro H5 ⟨hD5, sm5⟩
        have et : u.take (SX.S u).cps.size = u := List.take_of_length_le (Nat.le_of_eq (SX.S_len u).symm)
        rw [et] at hD5
        refine ⟨_, _, (u.map (pc ws lt)).map SX.S, rfl, rfl, .inl (SqL.of hD5), ?_, ?_⟩
        · have := spell_len (Nat.le_of_eq hle) hpw hwu
          rw [sum_flat, emptyS, SX.S_len, List.length_nil, Nat.mul_zero, Nat.add_zero]
          exact Nat.le_trans this (by decide)
        · rw [emptyS, join_flat]
          refine ⟨_, sm5 _ _ hDl, lt_size (by rw [txts, List.length_map, List.length_map, List.length_take]; omega), ?_, (sm.trans sm5).updNew hD⟩
          rw [upd_same, ← take_snoc hu]
          simp [txts, spell]
    · rintro H4 ⟨hDl, sm⟩
      have wl : (txts os).length = os.length := by rw [txts, List.length_map]
      rw [wl, List.take_length] at hDl
      have s04 := (s02.trans s3).trans sm
      have hD0 := (s02.trans s3).free hD
      generalize hms : os.map (spell ws lt) = ms at *
      have hml : ms.length = os.length := by rw [← hms, List.length_map]
      have hmw : ∀ u ∈ ms, u.length ≤ 144 := fun u hu => by
        rw [← hms] at hu
        obtain ⟨v, hv, rfl⟩ := List.mem_map.mp hu
        exact spell_len (Nat.le_of_eq hle) hpw (o3 v hv)
      refine ⟨_, rfl, D, rfl, ⟨_, SqL.of hDl⟩, fun D3 hD3 => lc_list (K := K) (a := D) (xs := txts ms) (fun i H' => H' D3 = some (.lst (lensI (ms.take i))) ∧ Same H4 H') ⟨upd_same, Same.new _ hD3⟩ (fun i H' _ ⟨_, sm⟩ => SqL.of (sm _ _ hDl)) ?_ ?_⟩
      · rintro i y H5 hy ⟨hD5, sm5⟩
        obtain ⟨u, hu, rfl⟩ := txt_at hy
        have hio := (List.getElem?_eq_some_iff.mp hu).1
        have := hmw u (List.mem_of_getElem? hu)
        refine ⟨rfl, _, rfl, _, rfl, le_size (by rw [SX.S_len]; omega), _, hD5, lt_size (by simp [lensI]; omega), ?_, sm5.updNew hD3⟩
        rw [upd_same, ← take_snoc hu, SX.S_len]
        simp [lensI]
      · rintro H5 ⟨hD5, sm5⟩
        have wl2 : (txts ms).length = ms.length := by rw [txts, List.length_map]
        rw [wl2, List.take_length] at hD5
        refine ⟨D3, ms.map (fun u : List Nat => ((u.length : Nat) : Int)), rfl, SqL.of (show H5 D3 = some (.lst ((ms.map (fun u : List Nat => ((u.length : Nat) : Int))).map V.int)) from hD5), by rw [List.length_map]; omega, fun m hm1 hm2 => ?_⟩
        have hbig := max_big hm1 hm2
        refine ⟨_, _, rfl, rfl, _, rfl, ?_⟩
        have s05 := s04.trans sm5
        refine ite2 (fun c => ?_) (fun c => ?_)
        · have c1 := of_decide_eq_true c
          exact ⟨_, rfl, fun e he => kb (hbig.mpr c1) _ e (s05.trans (Same.new _ he)) upd_same⟩
        · have c1 : ¬ Big ms := fun z => c (decide_eq_true (hbig.mp z))
          obtain ⟨dxp, Tp, hp, _, _, _, _⟩ := hp0.same s05
          have hmk : ∀ u ∈ ms, Word sg u := fun u hu => by
            have hn : u.length ≤ 12 := Nat.le_of_not_lt fun z => c1 ⟨u, hu, z⟩
            rw [← hms] at hu
            obtain ⟨v, hv, rfl⟩ := List.mem_map.mp hu
            exact spell_word (Nat.le_of_eq hle) w3 (o3 v hv) hn
          refine ⟨_, rfl, p, _, dxp, _, _, rfl, hp, T.cl_Loom, T.na_Loom_signs, lf_signs _ _, _, rfl, D, sg, ms, rfl, .inl (sm5 _ _ hDl), hsg, by omega, by omega, hmk, fun H6 r3 us6 s6 hr30 hL => ?_⟩
          exact kn c1 H6 r3 us6 (s05.trans s6) (s05.free hr30) hL
end
end J


set_option Elab.async false
set_option linter.all false
set_option maxRecDepth 100000
set_option maxHeartbeats 4000000
namespace J
open PySem L2
open LamX
theorem exm_own {K : PySem.W.Frag} {D : Addr} (b : PySem.W.subIn K (.ref D) (.type "BaseException") = some true) (c : PySem.W.isClsIn K D = true) (t : PySem.W.typeIn K (.ref D) = some (.type "type")) (q : PySem.W.subIn K (.ref D) (.ref D) = some true) :
    PySem.W.exmOne K (.ref D) (.ref D) = some true := by
  have c' : (PySem.W.clsIn K D).isSome = true := c
  unfold PySem.W.exmOne
  simp [b, c', t, q, PySem.W.kitCls]
theorem exm_no {K : PySem.W.Frag} {D D' : Addr} (b : PySem.W.subIn K (.ref D) (.type "BaseException") = some true) (c : PySem.W.isClsIn K D = true) (t : PySem.W.typeIn K (.ref D) = some (.type "type")) (q : PySem.W.subIn K (.ref D') (.ref D) = some false) :
    PySem.W.exmOne K (.ref D') (.ref D) = some false := by
  have c' : (PySem.W.clsIn K D).isSome = true := c
  unfold PySem.W.exmOne
  simp [b, c', t, q, PySem.W.kitCls]
theorem takes_len {X : Cx} {W : WX} (tk : Takes X W) : Takes X (fun cls d σ H => σ.length = X.N.length → W cls d σ H) := by
  rintro er ta ⟨g, B, t0, pins, τ, G, cls, d, e, J0, n, u, sky, na, o, y, q⟩
  exact tk er ta ⟨g, B, t0, pins, τ, G, cls, d, e, J0, n, u, sky, na, o, y, q J0.len⟩
/-- what is made of a call: told, unlike, or the limit -/
def TErr (CU CL : Addr) : (XK → Hp → VK → Prop) → Hp → VK → Prop := fun tl H Q => ∃ Ech : XK,
  (∀ cls d H', Ech cls d H' → (cls = .ref CU ∧ ∀ t, H' t = none → Q (.ref t) (upd H' t (.tup [.str "unlike"]))) ∨
    (∃ e, cls = .ref CL ∧ d = some e ∧ H' e = some (.xd (fs_LimitExceeded (.int 12))) ∧ ∀ t, H' t = none → Q (.ref t) (upd H' t (.tup [.str "limit", .int 12])))) ∧
  ∀ Qr : VK, (∀ v H1, (∀ t, H1 t = none → Q (.ref t) (upd H1 t (.tup [.str "told", v]))) → Qr v H1) → tl Ech H Qr
theorem err_gives {X : Cx} (T : Tx X.K X.mg) {cdg : Value} {q : Str} : GivesTo X N_l_error "_law_error" (defScope s_l_error) T.f_l_error cdg (defBody s_l_error) "_law_call" q (TErr T.C_Unlike T.C_LimitExceeded) := by
  intro f c' s H Q tl act hc h
  obtain ⟨Ech, hE, htl⟩ := h
  have xI : XfC X.K T.C_InvalidLoom := ⟨T.E_InvalidLoom.hg, T.E_InvalidLoom.hk, T.E_InvalidLoom.hs, T.E_InvalidLoom.hd⟩
  have xL : XfC X.K T.C_LimitExceeded := ⟨T.E_LimitExceeded.hg, T.E_LimitExceeded.hk, T.E_LimitExceeded.hs, T.E_LimitExceeded.hd⟩
  refine ⟨_, pss_cons (ps_set (i := 1) sc_l_error.nd rfl (Or.inl rfl) pe_non) (pss_cons (ps_try_cls
      (tb := fun W D σ H => ∃ Ech : XK, (∀ cls d (σ' : L2.St) H', σ'.length = 3 → Ech cls d H' → W cls d σ' H') ∧ tAsg (tTup (tCons (tC (.str "told")) (tCons (fun σZ HZ Q => σZ[0]? = some (some (.ref f)) ∧ HZ c' = some (CodeO c' q) ∧ tl Ech HZ Q) tNil))) (gName 1) D σ H)
      (Wout := fun _ _ _ _ => False) rfl rfl L2.takes0 (fun W pn xe tk _ => ?_)
      (.named (i := 2) ⟨rfl, by decide, Or.inl T.g_InvalidLoom⟩ sc_l_error.nd rfl rfl (fun g oe cls d pn hz hf => pss_one (ps_set (i := 1) sc_l_error.nd rfl (Or.inl rfl) (by exact (pe_tup (pa_cons pe_str (pa_cons (pe_xf xI T.nx_InvalidLoom_part hz hf (pv 2)) (pa_cons (pe_xf xI T.nx_InvalidLoom_at hz hf (pv 2)) pa_nil)))))))
      (.plain ⟨rfl, by decide, Or.inl T.g_NotABook⟩ (fun g oe cls d pn hz hf => pss_one (ps_set (i := 1) sc_l_error.nd rfl (Or.inl rfl) (by exact (pe_tup (pa_cons pe_str pa_nil)))))
      (.plain ⟨rfl, by decide, Or.inl T.g_Unlike⟩ (fun g oe cls d pn hz hf => pss_one (ps_set (i := 1) sc_l_error.nd rfl (Or.inl rfl) (by exact (pe_tup (pa_cons pe_str pa_nil)))))
      (.plain ⟨rfl, by decide, Or.inl T.g_NotOneWay⟩ (fun g oe cls d pn hz hf => pss_one (ps_set (i := 1) sc_l_error.nd rfl (Or.inl rfl) (by exact (pe_tup (pa_cons pe_str pa_nil)))))
      (.named (i := 2) ⟨rfl, by decide, Or.inl T.g_LimitExceeded⟩ sc_l_error.nd rfl rfl (fun g oe cls d pn hz hf => pss_one (ps_set (i := 1) sc_l_error.nd rfl (Or.inl rfl) (by exact (pe_tup (pa_cons pe_str (pa_cons (pe_xf xL T.nx_LimitExceeded_limit hz hf (pv 2)) pa_nil)))))) .nil))))))
      (pss_one (ps_ret (pv 1)))), ?_⟩
  · refine ⟨fun pins s' σ H' D I h' => ?_⟩
    obtain ⟨Ech, hW, h3⟩ := h'
    have hp := fun p1 p2 => act _ pn xe Ech p1 p2 (takes_len tk) (fun cls d σ' H' e hl => hW cls d σ' H' hl e)
    refine (pss_one (ps_set (i := 1) sc_l_error.nd rfl (Or.inl rfl) (pe_tup (pa_cons pe_str (pa_cons (hp _ _) pa_nil))))).run pins s' σ H' D I h3
  · refine ⟨Ech, fun cls d σ' H' hl he => ?_, rfl, hc, htl _ fun v H1 k => ?_⟩
    · obtain ⟨z0, z1, z2, rfl⟩ : ∃ z0 z1 z2, σ' = [z0, z1, z2] := by
        match σ', hl with
        | [z0, z1, z2], _ => exact ⟨z0, z1, z2, rfl⟩
      rcases hE cls d H' he with ⟨rfl, k⟩ | ⟨e, rfl, rfl, hx, k⟩
      · refine ⟨false, exm_no T.E_InvalidLoom.hs T.cl_InvalidLoom T.ty_InvalidLoom T.su_Unlike_InvalidLoom, fun e => Bool.noConfusion e, fun _ => ?_⟩
        refine ⟨false, exm_no T.E_NotABook.hs T.cl_NotABook T.ty_NotABook T.su_Unlike_NotABook, fun e => Bool.noConfusion e, fun _ => ?_⟩
        refine ⟨true, exm_own T.E_Unlike.hs T.cl_Unlike T.ty_Unlike T.su_Unlike_Unlike, fun _ g hg => ?_, fun e => Bool.noConfusion e⟩
        refine ⟨le_size (by simp), fun t ht => ?_⟩
        exact ⟨_, rfl, k t ht⟩
      · refine ⟨false, exm_no T.E_InvalidLoom.hs T.cl_InvalidLoom T.ty_InvalidLoom T.su_LimitExceeded_InvalidLoom, fun e => Bool.noConfusion e, fun _ => ?_⟩
        refine ⟨false, exm_no T.E_NotABook.hs T.cl_NotABook T.ty_NotABook T.su_LimitExceeded_NotABook, fun e => Bool.noConfusion e, fun _ => ?_⟩
        refine ⟨false, exm_no T.E_Unlike.hs T.cl_Unlike T.ty_Unlike T.su_LimitExceeded_Unlike, fun e => Bool.noConfusion e, fun _ => ?_⟩
        refine ⟨false, exm_no T.E_NotOneWay.hs T.cl_NotOneWay T.ty_NotOneWay T.su_LimitExceeded_NotOneWay, fun e => Bool.noConfusion e, fun _ => ?_⟩
        refine ⟨true, exm_own T.E_LimitExceeded.hs T.cl_LimitExceeded T.ty_LimitExceeded T.su_LimitExceeded_LimitExceeded, fun _ g hg => ?_, fun e => Bool.noConfusion e⟩
        refine ⟨_, rfl, rfl, rfl, e, _, _, rfl, hx, rfl, ?_⟩
        refine ⟨le_size (by simp), fun t ht => ?_⟩
        exact ⟨_, rfl, k t ht⟩
    · exact ⟨le_size (by simp), fun t ht => ⟨_, rfl, k t ht⟩⟩
end J


set_option Elab.async false
set_option linter.all false
set_option maxRecDepth 100000
set_option maxHeartbeats 4000000
namespace J
open PySem L2
open LamX
theorem _root_.L2.Fun.okT {P : Program} {w : World} {K : PySem.W.Frag} {mg : Str → Option Value} {base : Heap} {x qual : Str} {st : Stmt} {f : Addr} {fd : FuncData} {N ps : List Str} {k : Nat} {sp : Sp} {c : Addr} (F : Fun K x qual st f fd) (hc : fd.code = .ref c) (S : FnScope N ps (defScope st)) (len : ∀ vs H Q E, sp vs H Q E → vs.length = ps.length)
    (hbody : ∀ (A : Around) (outer : List Env) (s : Shared) (H : Hp) (vs : List V) (Q : VK) (E : XK), Room k (A.deeper (PyProof.Rows.envOfC qual (defScope st) s.heap.objs.size f (.ref c))) → sp vs H Q E →
      ∃ t, PSs (cxOf CX0 P w K mg base N qual (defScope st) f (.ref c) A outer s H E).nox (defBody st) t ∧ t { nx := fun _ H' => Q .non H', rt := Q } (start N vs) H) : FnOk P w K mg base CX0 (k + 1) f fd ps sp := by
  obtain ⟨oc, od, kV, doc, pm, an, cdv, ct, osl, rfl, lk, hcd⟩ := F.ex
  obtain rfl : cdv = .ref c := hc
  refine fn_of lk hcd S len fun A outer s H vs Q E hr hsp => ?_
  obtain ⟨t, h, q⟩ := hbody A outer s H vs Q E hr hsp
  exact ⟨t, h.nox, q⟩
/-- the script where tables may change -/
def ScrN (K : PySem.W.Frag) (ns : List Int) (a : Addr) (H : Hp) (p : Addr) : Prop :=
  (∃ o, H a = some o ∧ a ≠ p ∧ (∀ ps, o ≠ .tbl ps) ∧ ∀ H' : Hp, H' a = some o → SqL K H' a (ns.map V.int)) ∨ ∀ H' : Hp, SqL K H' a (ns.map V.int)
theorem ScrN.mk {K : PySem.W.Frag} {ns : List Int} {a p : Addr} {H : Hp} (h : SqL K H a (ns.map V.int)) (hp : H p = none) : ScrN K ns a H p := by
  rcases h with h | h
  · rcases h with h | ⟨o, h⟩
    · exact .inl ⟨_, h, fun z => hp_ne h hp z.symm, fun ps z => (nomatch z), fun H' h' => .inl (.inl h')⟩
    · exact .inl ⟨_, h, fun z => hp_ne h hp z.symm, fun ps z => (nomatch z), fun H' h' => .inl (.inr ⟨o, h'⟩)⟩
  · exact .inr fun H' => .inr h
theorem ScrN.scr {K : PySem.W.Frag} {ns : List Int} {a p : Addr} {H : Hp} (h : ScrN K ns a H p) : Scr K ns a H p := fun H' x => by
  rcases h with ⟨o, h1, h2, h3, h4⟩ | h
  · exact h4 H' (x _ _ h2 h1)
  · exact h H'
theorem ScrN.ex {K : PySem.W.Frag} {ns : List Int} {a p : Addr} {H H' : Hp} (h : ScrN K ns a H p) (x : Ex p H H') : ScrN K ns a H' p := by
  rcases h with ⟨o, h1, h2, h3, h4⟩ | h
  · exact .inl ⟨o, x _ _ h2 h1, h2, h3, h4⟩
  · exact .inr h
theorem ScrN.same {K : PySem.W.Frag} {ns : List Int} {a p : Addr} {H H' : Hp} (h : ScrN K ns a H p) (x : Same H H') : ScrN K ns a H' p := h.ex (Same.ex x)
theorem ScrN.extN {K : PySem.W.Frag} {ns : List Int} {a p : Addr} {H H' : Hp} (h : ScrN K ns a H p) (x : ExtN H H') : ScrN K ns a H' p := by
  rcases h with ⟨o, h1, h2, h3, h4⟩ | h
  · exact .inl ⟨o, x _ _ h1 h3, h2, h3, h4⟩
  · exact .inr h
theorem PoolAt.extN {H H' : Hp} {p : Addr} (h : PoolAt H p) (x : ExtN H H') : PoolAt H' p := by
  obtain ⟨a, b, c, d, h1, h2⟩ := h
  exact ⟨a, b, c, d, x _ _ h1 (fun ps z => (nomatch z)), h2⟩
theorem LoomAt.extN {C : Addr} {H H' : Hp} {p : Addr} {sg : List Nat} {us : List V} {as : List Arc} (h : LoomAt C H p sg us as) (x : ExtN H H') : LoomAt C H' p sg us as := by
  obtain ⟨dx, T, h1, h2, h3, h4, h5⟩ := h
  refine ⟨dx, T, x _ _ h1 (fun ps z => (nomatch z)), x _ _ h2 (fun ps z => (nomatch z)), ⟨h3.1, fun i a ha => ?_⟩, h4, h5⟩
  obtain ⟨t, e1, e2⟩ := h3.2 i a ha
  exact ⟨t, e1, x _ _ e2 (fun ps z => (nomatch z))⟩
theorem Tabs.ex {T : List (Addr × Str)} {H H' : Hp} {p : Addr} (h : Tabs T H) (x : Ex p H H') (g : PoolAt H p) : Tabs T H' := fun q hq => by
  obtain ⟨a, b, c, d, hp, _⟩ := g
  obtain ⟨ps, h1, h2, h3⟩ := h q hq
  refine ⟨ps, x _ _ (fun z => by rw [z, hp] at h1; cases h1) h1, h2, fun pos cv hc => ?_⟩
  obtain ⟨c', e1, e2⟩ := h3 pos cv hc
  refine ⟨c', e1, x _ _ (fun z => ?_) e2⟩
  rw [z, hp] at e2
  have e3 := Option.some.inj e2
  unfold CodeO at e3
  cases e3
theorem Tabs.same {T : List (Addr × Str)} {H H' : Hp} (h : Tabs T H) (s : Same H H') : Tabs T H' := h.ext s
/-- all that the law keeps -/
structure Lw (K : PySem.W.Frag) (ns : List Int) (a P : Addr) (ql : Str) (H : Hp) (p : Addr) : Prop where
  pool : PoolAt H p
  scr : ScrN K ns a H p
  tab : Tabs [(P, ql)] H
theorem Lw.st {K : PySem.W.Frag} {ns : List Int} {a P : Addr} {ql : Str} {H : Hp} {p : Addr} (h : Lw K ns a P ql H p) : St K ns a H p := ⟨h.pool, h.scr.scr⟩
theorem Lw.ex {K : PySem.W.Frag} {ns : List Int} {a P : Addr} {ql : Str} {H H' : Hp} {p : Addr} (h : Lw K ns a P ql H p) (x : Ex p H H') (g : PoolAt H' p) : Lw K ns a P ql H' p := ⟨g, h.scr.ex x, Tabs.ex h.tab x h.pool⟩
theorem Lw.same {K : PySem.W.Frag} {ns : List Int} {a P : Addr} {ql : Str} {H H' : Hp} {p : Addr} (h : Lw K ns a P ql H p) (s : Same H H') : Lw K ns a P ql H' p := ⟨h.pool.same s, h.scr.same s, Tabs.same h.tab s⟩
theorem letters_menu {v : V} (h : v ∈ ([.str "abcd", .str "pqrs", .str "adxz"] : List V)) : ∃ f, v = .str (SX.S f) ∧ f.length = 4 ∧ ∀ n, 1 ≤ n → n ≤ 4 → f.take n ∈ lets ∧ (f.take n).length = n := by
  simp only [List.mem_cons, List.not_mem_nil, or_false] at h
  have q : ∀ f ∈ ([[97, 98, 99, 100], [112, 113, 114, 115], [97, 100, 120, 122]] : List (List Nat)), ∀ n, 1 ≤ n → n ≤ 4 → f.take n ∈ lets ∧ (f.take n).length = n := by
    intro f hf n h1 h2
    have hn : n = 1 ∨ n = 2 ∨ n = 3 ∨ n = 4 := by omega
    simp only [List.mem_cons, List.not_mem_nil, or_false] at hf
    rcases hf with rfl | rfl | rfl <;> rcases hn with rfl | rfl | rfl | rfl <;> decide
  rcases h with rfl | rfl | rfl
  · exact ⟨[97, 98, 99, 100], rfl, rfl, q _ (by simp)⟩
  · exact ⟨[112, 113, 114, 115], rfl, rfl, q _ (by simp)⟩
  · exact ⟨[97, 100, 120, 122], rfl, rfl, q _ (by simp)⟩
theorem cutS_to (x : List Nat) (k : Nat) : cutS (SX.S x) none (some (k : Int)) = SX.S (x.take k) := by
  unfold cutS
  rw [HT.sIx_nat, HT.sIx_none, SX.S_len]
  show SX.S ((x.drop 0).take (min k x.length - 0)) = _
  rw [List.drop_zero, Nat.sub_zero, ← List.take_take, List.take_length]
theorem LoomAt.exp {C : Addr} {H H' : Hp} {p p' : Addr} {sg : List Nat} {us : List V} {as : List Arc} (h : LoomAt C H p sg us as) (x : Ex p' H H') (g : PoolAt H p') : LoomAt C H' p sg us as := by
  obtain ⟨b0, b1, b2, b3, hp, _⟩ := g
  obtain ⟨dx, T, h1, h2, h3, h4, h5⟩ := h
  exact ⟨dx, T, x _ _ (fun z => by rw [z, hp] at h1; cases h1) h1, x _ _ (fun z => by rw [z, hp] at h2; cases h2) h2, h3.ex x hp, h4, h5⟩
/-- what stands in a turn -/
structure Fx (C p q q2 D b1 b2 : Addr) (sg lt : List Nat) (ws os ds : List (List Nat)) (H : Hp) : Prop where
  hq : H q = some (.lst (txts ws))
  hq2 : H q2 = some (.lst (txts os))
  hD : H D = some (.lst (txts ds))
  nq : q ≠ p
  nq2 : q2 ≠ p
  nD : D ≠ p
  l1 : ∃ us, LoomAt C H b1 sg us (bka ws)
  l2 : ∃ us, LoomAt C H b2 lt us (bka os)
theorem Fx.same {C p q q2 D b1 b2 : Addr} {sg lt : List Nat} {ws os ds : List (List Nat)} {H H' : Hp} (h : Fx C p q q2 D b1 b2 sg lt ws os ds H) (s : Same H H') : Fx C p q q2 D b1 b2 sg lt ws os ds H' :=
  ⟨s _ _ h.hq, s _ _ h.hq2, s _ _ h.hD, h.nq, h.nq2, h.nD, h.l1.imp fun _ l => l.same s, h.l2.imp fun _ l => l.same s⟩
theorem Fx.extN {C p q q2 D b1 b2 : Addr} {sg lt : List Nat} {ws os ds : List (List Nat)} {H H' : Hp} (h : Fx C p q q2 D b1 b2 sg lt ws os ds H) (s : ExtN H H') : Fx C p q q2 D b1 b2 sg lt ws os ds H' :=
  ⟨s _ _ h.hq (fun ps z => (nomatch z)), s _ _ h.hq2 (fun ps z => (nomatch z)), s _ _ h.hD (fun ps z => (nomatch z)), h.nq, h.nq2, h.nD, h.l1.imp fun _ l => LoomAt.extN l s, h.l2.imp fun _ l => LoomAt.extN l s⟩
theorem Fx.ex {C p q q2 D b1 b2 : Addr} {sg lt : List Nat} {ws os ds : List (List Nat)} {H H' : Hp} (h : Fx C p q q2 D b1 b2 sg lt ws os ds H) (x : Ex p H H') (g : PoolAt H p) : Fx C p q q2 D b1 b2 sg lt ws os ds H' :=
  ⟨x _ _ h.nq h.hq, x _ _ h.nq2 h.hq2, x _ _ h.nD h.hD, h.nq, h.nq2, h.nD, h.l1.imp fun _ l => l.exp x g, h.l2.imp fun _ l => l.exp x g⟩
theorem Lw.extN {K : PySem.W.Frag} {ns : List Int} {a P : Addr} {ql : Str} {H H' : Hp} {p : Addr} (h : Lw K ns a P ql H p) (x : ExtN H H') (t : Tabs [(P, ql)] H') : Lw K ns a P ql H' p := ⟨PoolAt.extN h.pool x, h.scr.extN x, t⟩
/-- what _law_told holds -/
def Told (C t : Addr) (sg : List Nat) (ds : List (List Nat)) (H : Hp) : Prop := (Big ds ∧ H t = some (.tup [.str "limit", .int 12])) ∨ (¬ Big ds ∧ ∃ r us, H t = some (.tup [.str "told", .ref r]) ∧ LoomAt C H r sg us (bka ds))
theorem ne_tup {K : PySem.W.Frag} {H : Hp} {a b : Addr} {xs : List V} {ds : List PyData} {Q : VK} (ha : H a = some (.tup xs)) (hb : H b = some (.tup xs)) (hd : DpAll K H xs ds) (hs : SeqAt.shaped (.tuple ds) = true) (q : Q (.bl false) H) : rNeD K (.ref a) (.ref b) H Q := by
  refine ⟨_, _, .tup (SqT.of ha) hd, .tup (SqT.of hb) hd, hs, hs, ?_⟩
  rw [SeqAt.eqv_refl _ (SeqAt.canLay_of_shaped hs)]
  exact q
/-- each letter a word -/
def sing (lt : List Nat) : List (List Nat) := lt.map fun c => [c]
theorem sing_word (lt : List Nat) : ∀ u ∈ sing lt, Word lt u := fun u hu => by
  obtain ⟨c, hc, rfl⟩ := List.mem_map.mp hu
  exact ⟨by simp, by simp, fun d hd => by rw [List.mem_singleton.mp hd]; exact hc⟩
theorem idx_lets : ∀ l ∈ lets, ∀ i, i < l.length → l.idxOf (l.getD i 0) = i := by decide
theorem sing_spell {ws : List (List Nat)} {lt : List Nat} (h : lt ∈ lets) (hl : lt.length = ws.length) : (sing lt).map (spell ws lt) = ws := by
  apply List.ext_getElem?
  intro i
  unfold sing
  rw [List.map_map, List.getElem?_map]
  by_cases hi : i < lt.length
  · have e := idx_lets lt h i hi
    have e2 : lt.getD i 0 = lt[i] := by
      rw [List.getD_eq_getElem?_getD, List.getElem?_eq_getElem hi]
      rfl
    rw [List.getElem?_eq_getElem hi, List.getElem?_eq_getElem (by omega : i < ws.length)]
    rw [e2] at e
    show some (spell ws lt [lt[i]]) = _
    unfold spell pc
    rw [List.map_cons, e, List.getD_eq_getElem?_getD, List.getElem?_eq_getElem (by omega : i < ws.length)]
    simp
  · rw [List.getElem?_eq_none (by omega), List.getElem?_eq_none (by omega)]
    rfl
def abcd : List Nat := [97, 98, 99, 100]
def qLam : Str := Str.ofString "law" ++ Str.ofString ".<locals>." ++ "<lambda>"
def spLaw (K : PySem.W.Frag) (Pt : Addr) : Sp := fun vs H Q _ => ∃ (a : Addr) (ns : List Int), vs = [.ref a] ∧ SqL K H a (ns.map V.int) ∧ ns.length ≤ 63 ∧ H Pt = some (.tbl #[]) ∧ ∀ H', Q (.bl true) H'
section
variable {P : Program} {w : World} {K : PySem.W.Frag} {mg : Str → Option Value} {base : Heap}
theorem ok_law (T : Tx K mg) (TB : TabB base mg T.cLaw T.pLaw) : FnOk P w K mg base CX0 10 T.f_law T.fd_law P_law (spLaw K T.pLaw) := by
  refine T.F_law.okT T.co_law sc_law (fun vs H Q E h => ?_) (fun A outer s H vs Q E hr h => ?_)
  · obtain ⟨a, ns, rfl, _⟩ := h
    rfl
  · obtain ⟨a, ns, rfl, hS, hlen, hTab, k⟩ := h
    have G_l_take : FnOk P w K mg base CX0 1 T.f_l_take T.fd_l_take P_l_take (spTake K ns) := ok_l_take T ns
    have G_l_signs : FnOk P w K mg base CX0 2 T.f_l_signs T.fd_l_signs P_l_signs (spSignsOf K ns) := ok_l_signs T ns
    have G_l_words : FnOk P w K mg base CX0 3 T.f_l_words T.fd_l_words P_l_words (spWords K ns) := ok_l_words T ns
    have G_book : FnOk P w K mg base CX0 6 T.f_book T.fd_book P_book (spBook T.C_Loom) := ok_book T
    have G_joined : FnOk P w K mg base (L2.CX P w) 7 T.f_joined T.fd_joined P_joined (spJoined T.C_Loom T.C_Unlike T.C_LimitExceeded) := ok_joined T
    have G_l_spelled : FnOk P w K mg base CX0 1 T.f_l_spelled T.fd_l_spelled P_l_spelled spSpelled := ok_l_spelled T
    have G_count : FnOk P w K mg base CX0 3 T.f_count T.fd_count P_count (spCount T.C_Loom) := ok_count T
    have G_l_count : FnOk P w K mg base CX0 1 T.f_l_count T.fd_l_count P_l_count spLCount := ok_l_count T
    have G_Loom_eq : FnOk P w K mg base CX0 1 T.f_Loom_eq T.fd_Loom_eq P_Loom_eq (spEqB (Eql T.C_Loom)) := ok_Loom_eq T
    have KB_joined_a_book_outer : KBn K T.fd_joined P_joined 0 ["a_book", "outer"] (fun _ ws => ws) (fun _ zs => zs) :=
      T.F_joined.kbinds (fun x => x) (fun _ _ _ _ _ _ ws hl => match ws, hl with | [_, _], _ => rfl) (fun h => h)
    obtain ⟨ocE, odE, kVE, docE, pmE, anE, cdvE, ctE, oslE, hfd, lkE, hcE⟩ := T.F_l_error.ex
    rw [hfd] at lkE
    have bE : Binds K (PySem.W.fnOf "_law_error" "_law_error" (defArgs s_l_error) (defBody s_l_error) (defScope s_l_error) .none kVE docE pmE anE cdvE ctE) P_l_error [] := hfd ▸ T.b_l_error
    have hu : ∀ p ∈ [(T.pLaw, qLam)], p.1 = T.pLaw → p.2 = qLam := fun p hp _ => by rw [List.mem_singleton.mp hp]
    refine ⟨_, (pss_cons (ps_set (i := 1) sc_law.nd rfl (Or.inr rfl) (pe_lst (pa_cons pe_int (pa_cons pe_int (pa_cons pe_int (pa_cons pe_int pa_nil))))))
        (pss_cons (ps_for PassesOwn.never rfl (pi_range1 rfl T.n_range (pa_cons pe_int pa_nil)) (pg_name (i := 2) sc_law.nd rfl (Or.inl rfl)) (pss_cons (ps_set (i := 3) sc_law.nd rfl (Or.inl rfl) (pe_call G_l_signs (hr.mono (by decide)) rfl T.m_l_signs T.F_l_signs.kp T.b_l_signs .nil pass0 (pa_cons (pv 0) (pa_cons (pv 1) pa_nil))))
        (pss_cons (ps_set (i := 4) sc_law.nd rfl (Or.inr rfl) (pe_call G_l_words (hr.mono (by decide)) rfl T.m_l_words T.F_l_words.kp T.b_l_words .nil pass0 (pa_cons (pv 0) (pa_cons (pv 1) (pa_cons (pv 3) (pa_cons pe_int (pa_cons pe_int pa_nil)))))))
        (pss_cons (ps_set (i := 5) sc_law.nd rfl (Or.inr rfl) (pe_slice sl_str (pe_ix (ix_listK (K := K) rfl) (pe_lst (pa_cons pe_str (pa_cons pe_str (pa_cons pe_str pa_nil)))) (pe_call G_l_take (hr.mono (by decide)) rfl T.m_l_take T.F_l_take.kp T.b_l_take .nil pass0 (pa_cons (pv 0) (pa_cons (pv 1) (pa_cons pe_int pa_nil)))) (fun _ _ => rfl)) po_none (po_some (pe_callB (call_len_seqK (K := K) rfl) rfl T.n_len (by decide +kernel) (pa_cons (pv 4) pa_nil)))))
        (pss_cons (ps_set (i := 6) sc_law.nd rfl (Or.inr rfl) (pe_call G_l_words (hr.mono (by decide)) rfl T.m_l_words T.F_l_words.kp T.b_l_words .nil pass0 (pa_cons (pv 0) (pa_cons (pv 1) (pa_cons (pv 5) (pa_cons pe_int (pa_cons (pe_ix (ix_listK (K := K) rfl) (pe_lst (pa_cons pe_int (pa_cons pe_int pa_nil))) (pe_call G_l_take (hr.mono (by decide)) rfl T.m_l_take T.F_l_take.kp T.b_l_take .nil pass0 (pa_cons (pv 0) (pa_cons (pv 1) (pa_cons pe_int pa_nil)))) (fun _ _ => rfl)) pa_nil)))))))
        (pss_cons (ps_asg (pe_tup (pa_cons (pe_call G_book (hr.mono (by decide)) rfl T.m_book T.F_book.kp T.b_book .nil pass0 (pa_cons (pv 3) (pa_cons (pv 4) pa_nil))) (pa_cons (pe_call G_book (hr.mono (by decide)) rfl T.m_book T.F_book.kp T.b_book .nil pass0 (pa_cons (pv 5) (pa_cons (pv 6) pa_nil))) pa_nil))) (pg_tup rfl (pgs_cons (pg_name (i := 7) sc_law.nd rfl (Or.inr rfl)) (pgs_cons (pg_name (i := 8) sc_law.nd rfl (Or.inr rfl)) pgs_nil))))
        (pss_cons (ps_set (i := 9) sc_law.nd rfl (Or.inr rfl) (pe_lc (own := [("_law_word_here", 14)]) (g := (gName 14)) rfl sc_law.nd (pi_list (pv 6)) (blkOk_by (N := N_law) (sc := defScope s_law) (by decide +kernel)) (fun _ _ _ _ _ => (pg_name (i := 14) sc_law.nd rfl (Or.inl rfl))) (fun _ _ _ _ _ => pts_nil) (fun _ _ _ _ _ => (pe_call G_l_spelled (hr.mono (by decide)) rfl T.m_l_spelled T.F_l_spelled.kp T.b_l_spelled .nil pass0 (pa_cons (pv 4) (pa_cons (pv 5) (pa_cons (pv 14) pa_nil)))))))
        (C8.pss_cut (ps_set (i := 10) sc_law.nd rfl (Or.inl rfl) (pe_lamcall (k := 7) (T := [(T.pLaw, qLam)]) (TT := TErr T.C_Unlike T.C_LimitExceeded) (a := "_law_call") rfl T.m_l_error T.F_l_error.kp lkE hcE bE sc_l_error rfl (Or.inl rfl) (err_gives (X := (cxOf CX0 P w K mg base N_law "law" (defScope s_law) T.f_law (.ref T.cLaw) A outer s H E).nox) T) TB rfl (List.mem_singleton.mpr rfl) hu (hr.mono (by decide)) (lamS_by (sc := defScope s_law) (by decide +kernel)) rfl (fun _ _ _ _ _ => rfl) (fun A outer s H E f c' hr2 => (pe_callS G_joined (hr2.mono (by decide)) rfl T.m_joined T.F_joined.kp T.b_joined (fun σ => passAt (takes_of rfl rfl rfl rfl) σ) (pa_cons (pv 7) (pa_cons (pv 8) pa_nil))))))
        (C8.pss_cut (ps_if (pt_cmpR op_gt (pe_callB (cr_max rfl) rfl T.n_max (by decide +kernel) (pa_cons (pe_lc (own := [("_law_word_here", 14)]) (g := (gName 14)) rfl sc_law.nd (pi_list (pv 9)) (blkOk_by (N := N_law) (sc := defScope s_law) (by decide +kernel)) (fun _ _ _ _ _ => (pg_name (i := 14) sc_law.nd rfl (Or.inl rfl))) (fun _ _ _ _ _ => pts_nil) (fun _ _ _ _ _ => (pe_callB call_len_str rfl T.n_len (by decide +kernel) (pa_cons (pv 14) pa_nil)))) pa_nil)) pe_int (nomark _)) (pss_one (ps_if (pt_cmpR (op_neD hr.units) (pv 10) (pe_tup (pa_cons pe_str (pa_cons pe_int pa_nil))) (nomark _)) (pss_one (ps_ret pe_bl)) pss_nil)) (pss_cons (ps_if (PW.pt (pw_or (pt_cmpR op_ne (pe_ix (ix_tupK (K := K) rfl) (pv 10) pe_int (fun _ _ => rfl)) pe_str (nomark _)) (pw_or1 (pt_cmpR (op_neB (C := T.C_Loom) G_Loom_eq T.eq_Loom T.fn_Loom_eq T.ne_Loom T.im_Loom T.b_Loom_eq pass0 (hr.mono (by decide))) (pe_ix (ix_tupK (K := K) rfl) (pv 10) pe_int (fun _ _ => rfl)) (pe_call G_book (hr.mono (by decide)) rfl T.m_book T.F_book.kp T.b_book .nil pass0 (pa_cons (pv 3) (pa_cons (pv 9) pa_nil))) (nomark _))))) (pss_one (ps_ret pe_bl)) pss_nil)
        (pss_cons (ps_setLc (i := 11) (own := [("_law_k", 15)]) (g := (gName 15)) rfl sc_law.nd rfl rfl (sw_true rfl rfl rfl (by decide +kernel)) (pi_range1 rfl T.n_range (pa_cons pe_int pa_nil)) (blkOk_by (N := N_law) (sc := defScope s_law) (by decide +kernel)) (fun _ _ _ _ _ => (pg_name (i := 15) sc_law.nd rfl (Or.inl rfl))) (fun _ _ _ _ _ => pts_nil) (fun _ _ _ _ _ => (pe_call G_l_take (hr.mono (by decide)) rfl T.m_l_take T.F_l_take.kp T.b_l_take .nil pass0 (pa_cons (pv 0) (pa_cons (pv 1) (pa_cons (pe_callB (call_len_seqK (K := K) rfl) rfl T.n_len (by decide +kernel) (pa_cons (pv 6) pa_nil)) pa_nil))))))
        (pss_cons (ps_set (i := 12) sc_law.nd rfl (Or.inl rfl) (pe_join pe_str (pe_lc (own := [("_law_at", 16)]) (g := (gName 16)) rfl sc_law.nd (pi_list (pv 11)) (blkOk_by (N := N_law) (sc := defScope s_law) (by decide +kernel)) (fun _ _ _ _ _ => (pg_name (i := 16) sc_law.nd rfl (Or.inl rfl))) (fun _ _ _ _ _ => pts_nil) (fun _ _ _ _ _ => (pe_ix (ix_listK (K := K) rfl) (pv 9) (pv 16) (fun _ _ => rfl))))))
        (pss_one (ps_if (pt_cmpR op_ne (pe_call G_count (hr.mono (by decide)) rfl T.m_count T.F_count.kp T.b_count .nil pass0 (pa_cons (pe_ix (ix_tupK (K := K) rfl) (pv 10) pe_int (fun _ _ => rfl)) (pa_cons pe_int (pa_cons (pv 12) pa_nil)))) (pe_call G_l_count (hr.mono (by decide)) rfl T.m_l_count T.F_l_count.kp T.b_l_count .nil pass0 (pa_cons (pv 9) (pa_cons (pv 12) pa_nil))) (nomark _)) (pss_one (ps_ret pe_bl)) pss_nil))))))
        (pss_cons (ps_if (pt_cmpR (op_neB (C := T.C_Loom) G_Loom_eq T.eq_Loom T.fn_Loom_eq T.ne_Loom T.im_Loom T.b_Loom_eq pass0 (hr.mono (by decide))) (pe_callN0 G_joined (hr.mono (by decide)) rfl T.m_joined T.F_joined.kp KB_joined_a_book_outer passL (pk_cons (pv 7) (pk_cons (pe_call G_book (hr.mono (by decide)) rfl T.m_book T.F_book.kp T.b_book .nil pass0 (pa_cons (pv 5) (pa_cons (pe_lc (own := [("_law_sign", 17)]) (g := (gName 17)) rfl sc_law.nd (pi_str (pv 5)) (blkOk_by (N := N_law) (sc := defScope s_law) (by decide +kernel)) (fun _ _ _ _ _ => (pg_name (i := 17) sc_law.nd rfl (Or.inl rfl))) (fun _ _ _ _ _ => pts_nil) (fun _ _ _ _ _ => (pv 17))) pa_nil))) pk_nil))) (pv 7) (nomark _)) (pss_one (ps_ret pe_bl)) pss_nil)
        (pss_cons (ps_set (i := 13) sc_law.nd rfl (Or.inr rfl) (pe_ix (ix_listK (K := K) rfl) (pe_lc (own := [("_law_k", 15)]) (g := (gName 15)) rfl sc_law.nd (pi_range1 rfl T.n_range (pa_cons pe_int pa_nil)) (blkOk_by (N := N_law) (sc := defScope s_law) (by decide +kernel)) (fun _ _ _ _ _ => (pg_name (i := 15) sc_law.nd rfl (Or.inl rfl))) (fun _ _ _ _ _ => pts_nil) (fun _ _ _ _ _ => (pe_slice sl_str pe_str po_none (po_some (pe_op op_add pe_int (pe_op op_modN (pe_callTy call_int1 rfl T.n_int (by decide +kernel) (pa_cons (pe_op op_add (pe_callB (call_len_seqK (K := K) rfl) rfl T.n_len (by decide +kernel) (pa_cons (pv 4) pa_nil)) (pv 15)) pa_nil)) pe_int)))))) (pe_call G_l_take (hr.mono (by decide)) rfl T.m_l_take T.F_l_take.kp T.b_l_take .nil pass0 (pa_cons (pv 0) (pa_cons (pv 1) (pa_cons pe_int pa_nil)))) (fun _ _ => rfl)))
        (C8.pss_cut (ps_if (pt_cmpR op_ne (pe_callB call_len_str rfl T.n_len (by decide +kernel) (pa_cons (pv 13) pa_nil)) (pe_callB (call_len_seqK (K := K) rfl) rfl T.n_len (by decide +kernel) (pa_cons (pv 4) pa_nil)) (nomark _)) (pss_one (ps_if (pt_cmpR (op_neD hr.units) (pe_lamcall (k := 7) (T := [(T.pLaw, qLam)]) (TT := TErr T.C_Unlike T.C_LimitExceeded) (a := "_law_call") rfl T.m_l_error T.F_l_error.kp lkE hcE bE sc_l_error rfl (Or.inl rfl) (err_gives (X := (cxOf CX0 P w K mg base N_law "law" (defScope s_law) T.f_law (.ref T.cLaw) A outer s H E).nox) T) TB rfl (List.mem_singleton.mpr rfl) hu (hr.mono (by decide)) (lamS_by (sc := defScope s_law) (by decide +kernel)) rfl (fun _ _ _ _ _ => rfl) (fun A outer s H E f c' hr2 => (pe_callS G_joined (hr2.mono (by decide)) rfl T.m_joined T.F_joined.kp T.b_joined (fun σ => passAt (takes_of rfl rfl rfl rfl) σ) (pa_cons (pv 7) (pa_cons (pe_call G_book (hr2.mono (by decide)) rfl T.m_book T.F_book.kp T.b_book .nil pass0 (pa_cons (pv 13) (pa_cons (pe_lst (pa_cons (pe_op op_mul_str pe_str pe_int) pa_nil)) pa_nil))) pa_nil))))) (pe_tup (pa_cons pe_str pa_nil)) (nomark _)) (pss_one (ps_ret pe_bl)) pss_nil)) pss_nil)
        (pss_one (ps_if (PW.pt (pw_or (pt_cmpR (op_neB (C := T.C_Loom) G_Loom_eq T.eq_Loom T.fn_Loom_eq T.ne_Loom T.im_Loom T.b_Loom_eq pass0 (hr.mono (by decide))) (pv 7) (pe_call G_book (hr.mono (by decide)) rfl T.m_book T.F_book.kp T.b_book .nil pass0 (pa_cons (pv 3) (pa_cons (pv 4) pa_nil))) (nomark _)) (pw_or1 (pt_cmpR (op_neB (C := T.C_Loom) G_Loom_eq T.eq_Loom T.fn_Loom_eq T.ne_Loom T.im_Loom T.b_Loom_eq pass0 (hr.mono (by decide))) (pv 8) (pe_call G_book (hr.mono (by decide)) rfl T.m_book T.F_book.kp T.b_book .nil pass0 (pa_cons (pv 5) (pa_cons (pv 6) pa_nil))) (nomark _))))) (pss_one (ps_ret pe_bl)) pss_nil))))))))))))))
        (pss_one (ps_ret pe_bl)))), ?_⟩
    refine ⟨le_size (by simp), fun p hp => ?_⟩
    have n0 : Lw K ns a T.pLaw qLam (upd H p (.lst [.int 0, .int 0, .int 0, .int 0])) p := ⟨⟨0, 0, 0, 0, upd_same, Int.le_refl _⟩, (ScrN.mk hS hp).ex (Ex.new _ hp), fun q hq => by rw [List.mem_singleton.mp hq]; exact (TabS.nil hTab).ext (Same.new _ hp)⟩
    generalize upd H p (.lst [.int 0, .int 0, .int 0, .int 0]) = H1 at *
    refine ⟨5, rfl, by decide, by decide, for_range (lo := 0) (n := 5) (fun i σ H' => ∃ v2 v3 v4 v5 v6 v7 v8 v9 v10 v11 v12 v13 : Option V, σ = [some (.ref a), some (.ref p), v2, v3, v4, v5, v6, v7, v8, v9, v10, v11, v12, v13, none, none, none, none] ∧ Lw K ns a T.pLaw qLam H' p) ?_ ?_ ?_⟩
    · exact ⟨none, none, none, none, none, none, none, none, none, none, none, none, rfl, n0⟩
    · rintro i σ H2 hi ⟨v2, v3, v4, v5, v6, v7, v8, v9, v10, v11, v12, v13, rfl, n2⟩
      clear n0
      refine ⟨_, rfl, _, rfl, a, p, rfl, n2.st, fun H3 sg x3 st3 hsg => ?_⟩
      have n3 := n2.ex x3 st3.1
      refine ⟨_, rfl, _, rfl, _, rfl, a, p, sg, 4, 4, rfl, st3, hsg, by decide, by decide, by decide, by decide, fun H4 q ws x4 st4 hq0 nqp hq hws hw1 hw4 => ?_⟩
      have n4 := n3.ex x4 st4.1
      clear n2 n3 st3 x3 x4 hq0
      have hw4' : ws.length ≤ 4 := by omega
      -- the letters
      refine ⟨le_size (by simp), fun l hl => ?_⟩
      have nlp := st4.ne hl
      have s5 : Same H4 (upd H4 l (.lst [.str "abcd", .str "pqrs", .str "adxz"])) := Same.new _ hl
      have gl : upd H4 l (.lst [.str "abcd", .str "pqrs", .str "adxz"]) l = some (.lst [.str "abcd", .str "pqrs", .str "adxz"]) := upd_same
      have n5 := n4.same s5
      have hq5 := s5 _ _ hq
      generalize upd H4 l (.lst [.str "abcd", .str "pqrs", .str "adxz"]) = H5 at *
      refine ⟨_, rfl, _, rfl, a, p, 3, rfl, n5.st, by decide, by decide, fun H6 r6 x6 st6 r60 r61 => ?_⟩
      have n6 := n5.ex x6 st6.1
      have hq6 := x6 _ _ nqp hq5
      obtain ⟨v, hv, hat⟩ := atI_mem (xs := ([.str "abcd", .str "pqrs", .str "adxz"] : List V)) r60 (by simpa using r61)
      obtain ⟨f, rfl, hf4, hf⟩ := letters_menu hv
      obtain ⟨hlt, hll⟩ := hf ws.length hw1 hw4'
      have wl : (txts ws).length = ws.length := by rw [txts, List.length_map]
      refine ⟨l, _, _, _, rfl, rfl, SqL.of (x6 _ _ nlp gl), hat, _, rfl, q, _, rfl, .inl (SqL.of hq6), _, rfl, ?_⟩
      rw [wl]
      refine ⟨_, rfl, le_size (by rw [SX.S_len]; omega), ?_⟩
      rw [cutS_to]
      generalize f.take ws.length = lt at *
      have hltS := lets_signs _ hlt
      clear hf hf4 hv hat gl s5 x6 hq5 st4 st6
      -- the outer words
      refine ⟨_, rfl, _, rfl, _, rfl, le_size (by simp), fun l2 hl2 => ?_⟩
      have nlp2 := n6.st.ne hl2
      have s7 : Same H6 (upd H6 l2 (.lst [.int 3, .int 5])) := Same.new _ hl2
      have gl2 : upd H6 l2 (.lst [.int 3, .int 5]) l2 = some (.lst [.int 3, .int 5]) := upd_same
      have n7 := n6.same s7
      have hq7 := s7 _ _ hq6
      generalize upd H6 l2 (.lst [.int 3, .int 5]) = H7 at *
      refine ⟨_, rfl, _, rfl, a, p, 2, rfl, n7.st, by decide, by decide, fun H8 r8 x8 st8 r80 r81 => ?_⟩
      have n8 := n7.ex x8 st8.1
      have hq8 := x8 _ _ nqp hq7
      obtain ⟨v, hv, hat⟩ := atI_mem (xs := ([.int 3, .int 5] : List V)) r80 (by simpa using r81)
      obtain ⟨m, rfl, hm0, hm1⟩ : ∃ m : Int, v = .int m ∧ 0 < m ∧ m ≤ 12 := by
        simp only [List.mem_cons, List.not_mem_nil, or_false] at hv
        rcases hv with rfl | rfl
        · exact ⟨3, rfl, by decide, by decide⟩
        · exact ⟨5, rfl, by decide, by decide⟩
      refine ⟨l2, _, _, _, rfl, rfl, SqL.of (x8 _ _ nlp2 gl2), hat, a, p, lt, 5, m, rfl, st8, hltS, by decide, by decide, hm0, hm1, fun H9 q2 os x9 st9 hq20 nq2p hq2 hos ho1 ho5 => ?_⟩
      have n9 := n8.ex x9 st9.1
      have hq9 := x9 _ _ nqp hq8
      clear n4 n5 n6 n7 n8 hq6 hq7 hq8 hv hat gl2 s7 x8 x9 st8 st9 hq20 hl2 hl
      have hwsW : ∀ u ∈ ws, Word sg u := fun u hu => (hws u hu).1
      have hw12 : ∀ v ∈ ws, v.length ≤ 12 := fun v hv => (hwsW v hv).2.1
      have hosW : ∀ u ∈ os, Word lt u := fun u hu => (hos u hu).1
      -- the books
      refine ⟨_, rfl, _, rfl, q, sg, ws, rfl, .inl hq9, hsg, by omega, by omega, hwsW, fun H10 b1 us1 s10 hb10 hL1 => ?_⟩
      refine ⟨_, rfl, _, rfl, q2, lt, os, rfl, .inl (s10 _ _ hq2), hltS, by omega, by omega, hosW, fun H11 b2 us2 s11 hb20 hL2 => ?_⟩
      refine ⟨le_size (by simp), fun t ht => ?_⟩
      have s12 : Same H11 (upd H11 t (.tup [.ref b1, .ref b2])) := Same.new _ ht
      have gt : upd H11 t (.tup [.ref b1, .ref b2]) t = some (.tup [.ref b1, .ref b2]) := upd_same
      have n12 := ((n9.same s10).same s11).same s12
      have hq12 := s12 _ _ (s11 _ _ (s10 _ _ hq9))
      have hq212 := s12 _ _ (s11 _ _ (s10 _ _ hq2))
      have hL112 := (hL1.same s11).same s12
      have hL212 := hL2.same s12
      generalize upd H11 t (.tup [.ref b1, .ref b2]) = H12 at *
      refine ⟨t, _, rfl, SqT.of gt, rfl, _, _, rfl, _, _, rfl, rfl, ?_⟩
      clear n9 hq9 hq2 hL1 hL2 s10 s11 s12 gt ht hb10 hb20
      -- what is due
      have wlo : (txts os).length = os.length := by rw [txts, List.length_map]
      refine ⟨_, rfl, q2, rfl, ⟨_, SqL.of hq212⟩, fun D hD => lc_list (K := K) (a := q2) (xs := txts os) (fun i H' => H' D = some (.lst (txts ((os.take i).map (spell ws lt)))) ∧ Same H12 H') ⟨upd_same, Same.new _ hD⟩ (fun i H' _ ⟨_, sm⟩ => SqL.of (sm _ _ hq212)) ?_ ?_⟩
      · rintro i y H13 hy ⟨hDl, sm⟩
        obtain ⟨u, hu, rfl⟩ := txt_at hy
        have hio := (List.getElem?_eq_some_iff.mp hu).1
        refine ⟨rfl, _, rfl, _, rfl, _, rfl, q, ws, lt, u, rfl, sm _ _ hq12, hlt, Nat.le_of_eq hll, hw12, hosW u (List.mem_of_getElem? hu), fun H14 s14 => ?_⟩
        refine ⟨_, s14 _ _ hDl, lt_size (by simp [txts]; omega), ?_, (sm.trans s14).updNew hD⟩
        rw [upd_same, ← take_snoc hu]
        simp [txts]
      · rintro H13 ⟨hDl, s13⟩
        rw [wlo, List.take_length] at hDl
        have nDp := n12.st.ne hD
        have n13 := n12.same s13
        generalize hds : os.map (spell ws lt) = ds at *
        have F13 : Fx T.C_Loom p q q2 D b1 b2 sg lt ws os ds H13 := ⟨s13 _ _ hq12, s13 _ _ hq212, hDl, nqp, nq2p, nDp, ⟨_, hL112.same s13⟩, ⟨_, hL212.same s13⟩⟩
        clear hDl s13 hq12 hq212 hL112 hL212 n12 hD
        refine ⟨fun σ' H' => ∃ tt : Addr, σ' = [some (.ref a), some (.ref p), some (.int (0 + (i : Int))), some (.str (SX.S sg)), some (.ref q), some (.str (SX.S lt)), some (.ref q2), some (.ref b1), some (.ref b2), some (.ref D), some (.ref tt), v11, v12, v13, none, none, none, none] ∧ Lw K ns a T.pLaw qLam H' p ∧ Fx T.C_Loom p q q2 D b1 b2 sg lt ws os ds H' ∧ Told T.C_Loom tt sg ds H', ?_, ?_⟩
        · obtain ⟨us1', L1'⟩ := F13.l1
          obtain ⟨us2', L2'⟩ := F13.l2
          refine ⟨n13.tab, fun H14 e14 t14 => ⟨fun cls d H' => cls = .ref T.C_LimitExceeded ∧ Big ds ∧ Same H14 H' ∧ ∃ e, d = some e ∧ H' e = some (.xd (fs_LimitExceeded (.int 12))), ?_, fun Qr hQr => ?_⟩⟩
          · rintro cls d H' ⟨rfl, hb, s15, e, rfl, he⟩
            refine .inr ⟨e, rfl, rfl, he, fun t ht => ⟨t, rfl, ?_, ?_, .inl ⟨hb, upd_same⟩⟩⟩
            · exact ((n13.extN e14 t14).same s15).same (Same.new _ ht)
            · exact ((F13.extN e14).same s15).same (Same.new _ ht)
          · refine ⟨_, rfl, _, rfl, b1, b2, sg, lt, us1', us2', ws, os, rfl, LoomAt.extN L1' e14, LoomAt.extN L2' e14, .inr ⟨hll, hlt, ?_, ?_⟩⟩
            · rw [hds]
              exact fun hb H15 e s15 he => ⟨rfl, hb, s15, e, rfl, he⟩
            · rw [hds]
              refine fun hn H15 r us s15 hr0 hL => hQr _ _ fun t ht => ⟨t, rfl, ?_, ?_, .inr ⟨hn, r, us, upd_same, hL.same (Same.new _ ht)⟩⟩
              · exact ((n13.extN e14 t14).same s15).same (Same.new _ ht)
              · exact ((F13.extN e14).same s15).same (Same.new _ ht)
        · rintro σ' H14 ⟨tt, rfl, n14, F14, hT14⟩
          clear n13 F13
          have hdl : ds.length = os.length := by rw [← hds, List.length_map]
          have hd144 : ∀ u ∈ ds, u.length ≤ 144 := fun u hu => by
            rw [← hds] at hu
            obtain ⟨v, hv, rfl⟩ := List.mem_map.mp hu
            exact spell_len (Nat.le_of_eq hll) hw12 (hosW v hv)
          refine ⟨fun σ' H' => ∃ v11 v12 : Option V, σ' = [some (.ref a), some (.ref p), some (.int (0 + (i : Int))), some (.str (SX.S sg)), some (.ref q), some (.str (SX.S lt)), some (.ref q2), some (.ref b1), some (.ref b2), some (.ref D), some (.ref tt), v11, v12, v13, none, none, none, none] ∧ Lw K ns a T.pLaw qLam H' p ∧ Fx T.C_Loom p q q2 D b1 b2 sg lt ws os ds H', ?_, ?_⟩
          · refine ⟨_, rfl, D, rfl, ⟨_, SqL.of F14.hD⟩, fun D3 hD3 => lc_list (K := K) (a := D) (xs := txts ds) (fun i H' => H' D3 = some (.lst (lensI (ds.take i))) ∧ Same H14 H') ⟨upd_same, Same.new _ hD3⟩ (fun i H' _ ⟨_, sm⟩ => SqL.of (sm _ _ F14.hD)) ?_ ?_⟩
            · rintro i y H15 hy ⟨hD5, sm5⟩
              obtain ⟨u, hu, rfl⟩ := txt_at hy
              have hio := (List.getElem?_eq_some_iff.mp hu).1
              have := hd144 u (List.mem_of_getElem? hu)
              refine ⟨rfl, _, rfl, _, rfl, le_size (by rw [SX.S_len]; omega), _, hD5, lt_size (by simp [lensI]; omega), ?_, sm5.updNew hD3⟩
              rw [upd_same, ← take_snoc hu, SX.S_len]
              simp [lensI]
            · rintro H15 ⟨hD5, sm5⟩
              have wl2 : (txts ds).length = ds.length := by rw [txts, List.length_map]
              rw [wl2, List.take_length] at hD5
              refine ⟨D3, ds.map (fun u : List Nat => ((u.length : Nat) : Int)), rfl, SqL.of (show H15 D3 = some (.lst ((ds.map (fun u : List Nat => ((u.length : Nat) : Int))).map V.int)) from hD5), by rw [List.length_map]; omega, fun m hm1 hm2 => ?_⟩
              have hbig := max_big hm1 hm2
              have n15 := n14.same sm5
              have F15 := F14.same sm5
              refine ⟨_, _, rfl, rfl, _, rfl, ?_⟩
              refine ite2 (fun c => ?_) (fun c => ?_)
              · have c1 := hbig.mpr (of_decide_eq_true c)
                rcases hT14 with ⟨_, ht⟩ | ⟨hn, _⟩
                · refine ⟨_, rfl, le_size (by simp), fun t2 ht2 => ?_⟩
                  have s16 : Same H15 (upd H15 t2 (.tup [.str "limit", .int 12])) := Same.new _ ht2
                  refine ne_tup (ds := [.str "limit", .int 12]) (s16 _ _ (sm5 _ _ ht)) upd_same (.cons (.str _) (.cons (.int _) .nil)) (by decide +kernel) ⟨false, rfl, iteF ?_⟩
                  exact ⟨_, _, rfl, n15.same s16, F15.same s16⟩
                · exact absurd c1 hn
              · have c1 : ¬ Big ds := fun z => c (decide_eq_true (hbig.mp z))
                rcases hT14 with ⟨hn, _⟩ | ⟨_, r, us, ht, hL⟩
                · exact absurd hn c1
                have ht15 := sm5 _ _ ht
                have hL15 := hL.same sm5
                have hdW : ∀ u ∈ ds, Word sg u := fun u hu => by
                  have hn : u.length ≤ 12 := Nat.le_of_not_lt fun z => c1 ⟨u, hu, z⟩
                  rw [← hds] at hu
                  obtain ⟨v, hv, rfl⟩ := List.mem_map.mp hu
                  exact spell_word (Nat.le_of_eq hll) hwsW (hosW v hv) hn
                clear hD5 hL ht sm5 n14 F14 hm1 hm2 c hbig
                refine ⟨_, rfl, tt, _, _, _, rfl, rfl, SqT.of ht15, rfl, rfl, false, congrArg V.bl (by simp), iteF ?_⟩
                refine ⟨_, rfl, tt, _, _, _, rfl, rfl, SqT.of ht15, rfl, _, rfl, _, rfl, D, sg, ds, rfl, .inl F15.hD, hsg, by omega, by omega, hdW, fun H16 r2 us3 s16 hr20 hL2 => ?_⟩
                have hL16 := hL15.same s16
                obtain ⟨_, _, hil, _⟩ := id hL16
                obtain ⟨_, _, hib, _⟩ := id hL2
                refine ⟨r, r2, _, _, _, _, true, rfl, rfl, hil, hib, ⟨sg, _, _, sg, _, _, hL16, hL2, by simp⟩, fun H17 e17 => ⟨false, rfl, iteF ?_⟩⟩
                have s17 : Same H15 H17 := s16.trans e17
                have n17 := n15.same s17
                have F17 := F15.same s17
                have ht17 := s17 _ _ ht15
                have hL17 := hL15.same s17
                clear hil hib hL16 hL2 s16 e17 s17 hL15 ht15 n15 F15 hr20 hD3
                refine ⟨3, rfl, by decide, by decide, fun D4 hD4 => lc_range (lo := 0) (n := 3) (fun i H' => ∃ rs : List Nat, rs.length = i ∧ (∀ r ∈ rs, r < os.length) ∧ H' D4 = some (.lst (rs.map fun n : Nat => V.int (n : Int))) ∧ Ex p H17 H' ∧ PoolAt H' p) ?_ ?_ ?_⟩
                · exact ⟨[], rfl, fun _ h => (nomatch h), upd_same, Ex.new _ hD4, (n17.pool.same (Same.new _ hD4))⟩
                · rintro i H18 hi ⟨rs, rfl, hrs, hDl, x18, g18⟩
                  have n18 := n17.ex x18 g18
                  have F18 := F17.ex x18 n17.pool
                  have nD4 := n17.st.ne hD4
                  refine ⟨rfl, _, rfl, _, rfl, _, rfl, q2, _, rfl, .inl (SqL.of F18.hq2), a, p, _, rfl, n18.st, by rw [wlo]; omega, by rw [wlo]; omega, fun H19 r9 x19 st19 r90 r91 => ?_⟩
                  rw [wlo] at r91
                  obtain ⟨m, rfl⟩ := Int.eq_ofNat_of_zero_le r90
                  refine ⟨_, x19 _ _ nD4 hDl, lt_size (by simp; omega), rs ++ [m], by simp, ?_, ?_, (x18.trans x19).updNew hD4, ?_⟩
                  · intro d hd
                    rcases List.mem_append.mp hd with h | h
                    · exact hrs d h
                    · rw [List.mem_singleton.mp h]; omega
                  · rw [upd_same]; simp
                  · obtain ⟨b0, b1, b2, b3, e1, e2⟩ := st19.1
                    exact ⟨b0, b1, b2, b3, by rw [upd_ne nD4.symm]; exact e1, e2⟩
                · rintro H18 ⟨rs, hrl, hrs, hDl, x18, g18⟩
                  have n18 := n17.ex x18 g18
                  have F18 := F17.ex x18 n17.pool
                  obtain ⟨pb0, pb1, pb2, pb3, hpp, _⟩ := n17.pool
                  have ht18 := x18 _ _ (fun z => by rw [z, hpp] at ht17; cases ht17) ht17
                  have hL18 := hL17.exp x18 n17.pool
                  have hat : ∀ k, k < os.length → ds[k]? = some (ds.getD k []) := fun k hk => by
                    rw [List.getD_eq_getElem?_getD, List.getElem?_eq_getElem (by omega)]
                    rfl
                  refine ⟨⟨_, rfl⟩, _, rfl, D4, rfl, ⟨_, SqL.of hDl⟩, fun D5 hD5 => lc_list (K := K) (a := D4) (xs := rs.map fun n : Nat => V.int (n : Int)) (fun i H' => H' D5 = some (.lst (((rs.take i).map fun k => SX.S (ds.getD k [])).map V.str)) ∧ Same H18 H') ⟨upd_same, Same.new _ hD5⟩ (fun i H' _ ⟨_, sm⟩ => SqL.of (sm _ _ hDl)) ?_ ?_⟩
                  · rintro i y H19 hy ⟨hD6, sm⟩
                    rw [List.getElem?_map] at hy
                    obtain ⟨k, hk, rfl⟩ := Option.map_eq_some_iff.mp hy
                    have hko := hrs k (List.mem_of_getElem? hk)
                    have hta : (txts ds)[k]? = some (.str (SX.S (ds.getD k []))) := by rw [txts, List.getElem?_map, hat k hko]; rfl
                    have hir := (List.getElem?_eq_some_iff.mp hk).1
                    refine ⟨rfl, _, rfl, _, rfl, D, _, _, _, rfl, rfl, SqL.of (sm _ _ F18.hD), atI_nat hta, _, hD6, lt_size (by simp; omega), ?_, sm.updNew hD5⟩
                    rw [upd_same, ← take_snoc hk]
                    simp
                  · rintro H19 ⟨hD6, sm⟩
                    rw [List.length_map, List.take_length] at hD6
                    have n19 := n18.same sm
                    have F19 := F18.same sm
                    have hpl : ∀ l ∈ rs.map (fun k => ds.getD k []), Word sg l := fun l hl => by
                      obtain ⟨k, hk, rfl⟩ := List.mem_map.mp hl
                      exact hdW _ (List.mem_of_getElem? (hat k (hrs k hk)))
                    have hxl := flat_len (ls := rs.map fun k => ds.getD k []) (k := 12) fun l hl => (hpl l hl).2.1
                    rw [List.length_map, hrl] at hxl
                    have hxin : ∀ c ∈ (rs.map fun k => ds.getD k []).flatten, c ∈ sg := fun c hc => by
                      obtain ⟨l, h1, h2⟩ := List.mem_flatten.mp hc
                      exact (hpl l h1).2.2 c h2
                    refine ⟨_, _, rs.map fun k => SX.S (ds.getD k []), rfl, rfl, .inl (SqL.of hD6), ?_, ?_⟩
                    · have e : rs.map (fun k => SX.S (ds.getD k [])) = (rs.map fun k => ds.getD k []).map SX.S := by rw [List.map_map]; rfl
                      rw [e, sum_flat, emptyS, SX.S_len, List.length_nil, Nat.mul_zero, Nat.add_zero]
                      exact Nat.le_trans hxl (by decide)
                    · have e : rs.map (fun k => SX.S (ds.getD k [])) = (rs.map fun k => ds.getD k []).map SX.S := by rw [List.map_map]; rfl
                      rw [e, emptyS, join_flat]
                      generalize (rs.map fun k => ds.getD k []).flatten = x at *
                      refine ⟨_, rfl, tt, _, _, _, rfl, rfl, SqT.of (sm _ _ ht18), rfl, _, rfl, r, sg, _, bka ds, 0, x, rfl, hL18.same sm, by decide, by omega, hxin, fun H20 s20 => ?_⟩
                      refine ⟨_, rfl, _, rfl, D, ds, x, rfl, s20 _ _ F19.hD, by omega, fun u hu => ⟨(hdW u hu).1, by have := (hdW u hu).2.1; omega⟩, by omega, fun H21 b s21 hb => ?_⟩
                      refine ⟨rfl, false, congrArg V.bl ?_, iteF ?_⟩
                      · rw [cnt_back hb fun u hu => (hdW u hu).1]
                        simp
                      · exact ⟨_, _, rfl, (n19.same s20).same s21, (F19.same s20).same s21⟩
          · rintro σ' H15 ⟨w11, w12, rfl, n15, F15⟩
            obtain ⟨us1', L1'⟩ := F15.l1
            have hsing : (sing lt).map (spell ws lt) = ws := sing_spell hlt hll
            have hnb : ¬ Big ((sing lt).map (spell ws lt)) := by
              rw [hsing]
              rintro ⟨u, hu, h⟩
              have := hw12 u hu
              omega
            have hl4 := hltS.len
            refine ⟨_, rfl, _, rfl, _, rfl, _, rfl, fun D6 hD6 => lc_it (walk_str (z := SX.S lt)) (fun i H' => H' D6 = some (.lst (txts (sing (lt.take i)))) ∧ Same H15 H') ⟨upd_same, Same.new _ hD6⟩ (fun _ _ _ _ => trivial) ?_ ?_⟩
            · rintro j x H16 H17 hj ⟨hDl, sm⟩ ⟨rfl, c, hc, rfl⟩
              have hc2 : lt[j]? = some c := by simpa using hc
              refine ⟨rfl, _, rfl, _, hDl, lt_size (by simp [txts, sing]; omega), ?_, sm.updNew hD6⟩
              rw [upd_same, ← take_snoc hc2]
              simp [txts, sing]
            · rintro H16 ⟨hDl, sm⟩
              have et : lt.take (SX.S lt).cps.size = lt := List.take_of_length_le (Nat.le_of_eq (SX.S_len lt).symm)
              rw [et] at hDl
              have hsl : (sing lt).length = lt.length := by simp [sing]
              refine ⟨D6, lt, sing lt, rfl, .inl hDl, hltS, by omega, by omega, sing_word lt, fun H17 b3 us3 s17 hb30 hL3 => ?_⟩
              have s1517 := sm.trans s17
              refine ⟨rfl, rfl, b1, b3, sg, lt, us1', us3, ws, sing lt, rfl, L1'.same s1517, hL3, .inr ⟨hll, hlt, fun hb => absurd hb hnb, fun _ H18 r us s18 hr0 hL => ?_⟩⟩
              rw [hsing] at hL
              have hL1 := (L1'.same s1517).same s18
              obtain ⟨_, _, hil, _⟩ := id hL
              obtain ⟨_, _, hib, _⟩ := id hL1
              refine ⟨_, rfl, r, b1, _, _, _, _, true, rfl, rfl, hil, hib, ⟨sg, _, _, sg, _, _, hL, hL1, by simp⟩, fun H19 e19 => ⟨false, rfl, iteF ?_⟩⟩
              have s19 : Same H15 H19 := (s1517.trans s18).trans e19
              have n19 := n15.same s19
              have F19 := F15.same s19
              clear hil hib hL hL1 hL3 hb30 hr0 e19 s18 s17 s1517 sm hDl n15 F15 s19 L1'
              -- one more set of letters
              refine ⟨4, rfl, by decide, by decide, fun D7 hD7 => lc_range (lo := 0) (n := 4) (fun i H' => ∃ ms : List Nat, ms.length = i ∧ (∀ m ∈ ms, 1 ≤ m ∧ m ≤ 4) ∧ H' D7 = some (.lst (ms.map fun m : Nat => V.str (SX.S (abcd.take m)))) ∧ Same H19 H') ?_ ?_ ?_⟩
              · exact ⟨[], rfl, fun _ h => (nomatch h), upd_same, Same.new _ hD7⟩
              · rintro i H20 hi ⟨ms, rfl, hms, hDl, sm⟩
                have F20 := F19.same sm
                refine ⟨rfl, _, rfl, q, _, rfl, .inl (SqL.of F20.hq), _, rfl, _, _, rfl, rfl, .inl ⟨_, rfl, _, _, rfl, rfl, (by decide : (4 : Int) ≠ 0), _, _, rfl, rfl, _, rfl, _, rfl, le_size (by decide), ?_⟩⟩
                obtain ⟨m, hm, hm1, hm4⟩ : ∃ m : Nat, 1 + (((txts ws).length : Int) + (0 + (ms.length : Int))).fmod 4 = (m : Int) ∧ 1 ≤ m ∧ m ≤ 4 := by
                  have h0 := fm_nonneg (((txts ws).length : Int) + (0 + (ms.length : Int))) (b := 4) (by decide)
                  have h1 := fm_lt (((txts ws).length : Int) + (0 + (ms.length : Int))) (b := 4) (by decide)
                  obtain ⟨z, hz⟩ := Int.eq_ofNat_of_zero_le h0
                  rw [hz] at h1 ⊢
                  exact ⟨1 + z, by omega, by omega, by omega⟩
                have ea : Str.ofString "abcd" = SX.S abcd := rfl
                rw [hm, ea, cutS_to]
                refine ⟨_, hDl, lt_size (by simp; omega), ms ++ [m], by simp, ?_, ?_, sm.updNew hD7⟩
                · intro d hd
                  rcases List.mem_append.mp hd with h | h
                  · exact hms d h
                  · rw [List.mem_singleton.mp h]; exact ⟨hm1, hm4⟩
                · rw [upd_same]; simp
              · rintro H20 ⟨ms, hml, hms, hDl, sm⟩
                have nD7 := n19.st.ne hD7
                have n20 := n19.same sm
                have F20 := F19.same sm
                refine ⟨_, rfl, _, rfl, a, p, 4, rfl, n20.st, by decide, by decide, fun H21 r9 x21 st21 r90 r91 => ?_⟩
                have n21 := n20.ex x21 st21.1
                have F21 := F20.ex x21 n20.pool
                obtain ⟨v, hv, hat⟩ := atI_mem (xs := ms.map fun m : Nat => V.str (SX.S (abcd.take m))) r90 (by rw [List.length_map, hml]; exact r91)
                obtain ⟨m, hm, rfl⟩ := List.mem_map.mp hv
                obtain ⟨hm1, hm4⟩ := hms m hm
                have hmt : Signs (abcd.take m) ∧ (abcd.take m).length = m ∧ 97 ∈ abcd.take m := by
                  have hc : m = 1 ∨ m = 2 ∨ m = 3 ∨ m = 4 := by omega
                  rcases hc with rfl | rfl | rfl | rfl <;> decide
                refine ⟨D7, _, _, _, rfl, rfl, SqL.of (x21 _ _ nD7 hDl), hat, ?_⟩
                clear hat hv hDl sm n19 F19 n20 F20 x21 st21 hD7 nD7
                generalize abcd.take m = mt at *
                obtain ⟨hmS, hml2, hmc⟩ := hmt
                have hm4' := hmS.len
                refine ⟨fun σ' H' => σ' = [some (.ref a), some (.ref p), some (.int (0 + (i : Int))), some (.str (SX.S sg)), some (.ref q), some (.str (SX.S lt)), some (.ref q2), some (.ref b1), some (.ref b2), some (.ref D), some (.ref tt), w11, w12, some (.str (SX.S mt)), none, none, none, none] ∧ Lw K ns a T.pLaw qLam H' p ∧ Fx T.C_Loom p q q2 D b1 b2 sg lt ws os ds H', ?_, ?_⟩
                · refine ⟨_, rfl, _, rfl, le_size (by rw [SX.S_len]; omega), _, rfl, q, _, rfl, .inl (SqL.of F21.hq), rfl, _, rfl, ?_⟩
                  rw [SX.S_len, wl]
                  refine ite2 (fun c => ?_) (fun c => ⟨rfl, n21, F21⟩)
                  have hne : mt.length ≠ ws.length := fun z => by rw [z] at c; simp at c
                  obtain ⟨us1, L1⟩ := F21.l1
                  refine ⟨n21.tab, fun H22 e22 t22 => ⟨fun cls d H' => cls = .ref T.C_Unlike ∧ Same H22 H', ?_, fun Qr hQr => ?_⟩⟩
                  · rintro cls d H' ⟨rfl, s23⟩
                    refine .inl ⟨rfl, fun t ht => ?_⟩
                    have s24 : Same H22 (upd H' t (.tup [.str "unlike"])) := s23.trans (Same.new _ ht)
                    have g24 : upd H' t (.tup [.str "unlike"]) t = some (.tup [.str "unlike"]) := upd_same
                    generalize upd H' t (.tup [.str "unlike"]) = H24 at *
                    refine ⟨le_size (by simp), fun t2 ht2 => ?_⟩
                    have s25 : Same H24 (upd H24 t2 (.tup [.str "unlike"])) := Same.new _ ht2
                    refine ne_tup (ds := [.str "unlike"]) (s25 _ _ g24) upd_same (.cons (.str _) .nil) (by decide +kernel) ⟨false, rfl, iteF ?_⟩
                    exact ⟨rfl, ((n21.extN e22 t22).same s24).same s25, ((F21.extN e22).same s24).same s25⟩
                  · refine ⟨_, rfl, _, rfl, _, _, rfl, rfl, by decide, by decide, by decide, le_size (by simp), fun l3 hl3 => ?_⟩
                    have em : V.str (Txt.mul (Str.ofString "a") 12) = V.str (SX.S (List.replicate 12 97)) := rfl
                    have s23 : Same H22 (upd H22 l3 (.lst [V.str (Txt.mul (Str.ofString "a") 12)])) := Same.new _ hl3
                    have g23 : upd H22 l3 (.lst [V.str (Txt.mul (Str.ofString "a") 12)]) l3 = some (.lst (txts [List.replicate 12 97])) := by rw [upd_same, em]; rfl
                    generalize upd H22 l3 (.lst [V.str (Txt.mul (Str.ofString "a") 12)]) = H23 at *
                    refine ⟨l3, mt, [List.replicate 12 97], rfl, .inl g23, hmS, by simp, by simp, fun u hu => ?_, fun H25 b6 us6 s25 hb60 hL6 => ?_⟩
                    · rw [List.mem_singleton.mp hu]
                      exact ⟨by simp, by simp, fun d hd => by rw [List.eq_of_mem_replicate hd]; exact hmc⟩
                    · refine ⟨b1, b6, sg, mt, us1, us6, ws, [List.replicate 12 97], rfl, ((LoomAt.extN L1 e22).same s23).same s25, hL6, .inl ⟨hne, fun H26 s26 => ⟨rfl, (s23.trans s25).trans s26⟩⟩⟩
                · rintro σ' H22 ⟨rfl, n22, F22⟩
                  obtain ⟨us1, L1⟩ := F22.l1
                  refine ⟨_, rfl, _, rfl, _, rfl, q, sg, ws, rfl, .inl F22.hq, hsg, by omega, by omega, hwsW, fun H23 b4 us4 s23 hb40 hL4 => ?_⟩
                  have L1' := L1.same s23
                  obtain ⟨_, _, hil, _⟩ := id L1'
                  obtain ⟨_, _, hib, _⟩ := id hL4
                  refine ⟨b1, b4, _, _, _, _, true, rfl, rfl, hil, hib, ⟨sg, _, _, sg, _, _, L1', hL4, by simp⟩, fun H24 e24 => ?_⟩
                  have s24 : Same H22 H24 := s23.trans e24
                  have n24 := n22.same s24
                  have F24 := F22.same s24
                  clear hil hib L1' hL4 L1 s23 e24 s24 n22 F22 hb40
                  obtain ⟨us2, L2⟩ := F24.l2
                  refine ⟨false, rfl, iteF ?_⟩
                  refine ⟨_, rfl, _, rfl, _, rfl, q2, lt, os, rfl, .inl F24.hq2, hltS, by omega, by omega, hosW, fun H25 b5 us5 s25 hb50 hL5 => ?_⟩
                  have L2' := L2.same s25
                  obtain ⟨_, _, hil, _⟩ := id L2'
                  obtain ⟨_, _, hib, _⟩ := id hL5
                  refine ⟨b2, b5, _, _, _, _, true, rfl, rfl, hil, hib, ⟨lt, _, _, lt, _, _, L2', hL5, by simp⟩, fun H26 e26 => ⟨false, rfl, iteF ?_⟩⟩
                  exact ⟨_, _, _, _, _, _, _, _, _, _, _, _, rfl, (n24.same s25).same e26⟩
    · rintro σ H2 ⟨v2, v3, v4, v5, v6, v7, v8, v9, v10, v11, v12, v13, rfl, n2⟩
      exact k _
end
end J


set_option Elab.async false
set_option linter.all false
set_option maxRecDepth 100000
set_option maxHeartbeats 4000000
namespace J
open PySem L2
theorem all_mk {l : PySem.W.OpenLaw} {w : World} {K : PySem.W.Frag} {h : Heap} {mg : Str → Option Value} {fa f_InvalidLoom_init f_LimitExceeded_init f_is_number f_is_sequence f_is_signs f_is_string_over f_is_word f_check_signs f_check_state f_check_text f_is_arc f_Loom_init f_Loom_eq f_book f_is_book f_check_book f_words f_count f_joined f_l_take f_l_signs f_l_word f_l_words f_l_count f_l_error f_l_spelled f_law cLaw pLaw C_InvalidLoom C_LimitExceeded C_Loom C_Unlike C_NotABook C_NotOneWay : Addr} (X : K.In h) (G : h.Ns mainGlobals mg) (own : LamX.OwnTab K fa h) (hfa : mg "law" = some (.ref fa))
    {od_InvalidLoom_init an_InvalidLoom_init : Option Addr} {sl_InvalidLoom_init : Array (Option Value)} {oc_InvalidLoom_init kV_InvalidLoom_init dc_InvalidLoom_init pm_InvalidLoom_init cd_InvalidLoom_init ct_InvalidLoom_init : Value}
    {od_LimitExceeded_init an_LimitExceeded_init : Option Addr} {sl_LimitExceeded_init : Array (Option Value)} {oc_LimitExceeded_init kV_LimitExceeded_init dc_LimitExceeded_init pm_LimitExceeded_init cd_LimitExceeded_init ct_LimitExceeded_init : Value}
    {od_is_number an_is_number : Option Addr} {sl_is_number : Array (Option Value)} {oc_is_number kV_is_number dc_is_number pm_is_number cd_is_number ct_is_number : Value}
    {od_is_sequence an_is_sequence : Option Addr} {sl_is_sequence : Array (Option Value)} {oc_is_sequence kV_is_sequence dc_is_sequence pm_is_sequence cd_is_sequence ct_is_sequence : Value}
    {od_is_signs an_is_signs : Option Addr} {sl_is_signs : Array (Option Value)} {oc_is_signs kV_is_signs dc_is_signs pm_is_signs cd_is_signs ct_is_signs : Value}
    {od_is_string_over an_is_string_over : Option Addr} {sl_is_string_over : Array (Option Value)} {oc_is_string_over kV_is_string_over dc_is_string_over pm_is_string_over cd_is_string_over ct_is_string_over : Value}
    {od_is_word an_is_word : Option Addr} {sl_is_word : Array (Option Value)} {oc_is_word kV_is_word dc_is_word pm_is_word cd_is_word ct_is_word : Value}
    {od_check_signs an_check_signs : Option Addr} {sl_check_signs : Array (Option Value)} {oc_check_signs kV_check_signs dc_check_signs pm_check_signs cd_check_signs ct_check_signs : Value}
    {od_check_state an_check_state : Option Addr} {sl_check_state : Array (Option Value)} {oc_check_state kV_check_state dc_check_state pm_check_state cd_check_state ct_check_state : Value}
    {od_check_text an_check_text : Option Addr} {sl_check_text : Array (Option Value)} {oc_check_text kV_check_text dc_check_text pm_check_text cd_check_text ct_check_text : Value}
    {od_is_arc an_is_arc : Option Addr} {sl_is_arc : Array (Option Value)} {oc_is_arc kV_is_arc dc_is_arc pm_is_arc cd_is_arc ct_is_arc : Value}
    {od_Loom_init an_Loom_init : Option Addr} {sl_Loom_init : Array (Option Value)} {oc_Loom_init kV_Loom_init dc_Loom_init pm_Loom_init cd_Loom_init ct_Loom_init : Value}
    {od_Loom_eq an_Loom_eq : Option Addr} {sl_Loom_eq : Array (Option Value)} {oc_Loom_eq kV_Loom_eq dc_Loom_eq pm_Loom_eq cd_Loom_eq ct_Loom_eq : Value}
    {od_book an_book : Option Addr} {sl_book : Array (Option Value)} {oc_book kV_book dc_book pm_book cd_book ct_book : Value}
    {od_is_book an_is_book : Option Addr} {sl_is_book : Array (Option Value)} {oc_is_book kV_is_book dc_is_book pm_is_book cd_is_book ct_is_book : Value}
    {od_check_book an_check_book : Option Addr} {sl_check_book : Array (Option Value)} {oc_check_book kV_check_book dc_check_book pm_check_book cd_check_book ct_check_book : Value}
    {od_words an_words : Option Addr} {sl_words : Array (Option Value)} {oc_words kV_words dc_words pm_words cd_words ct_words : Value}
    {od_count an_count : Option Addr} {sl_count : Array (Option Value)} {oc_count kV_count dc_count pm_count cd_count ct_count : Value}
    {od_joined an_joined : Option Addr} {sl_joined : Array (Option Value)} {oc_joined kV_joined dc_joined pm_joined cd_joined ct_joined : Value}
    {od_l_take an_l_take : Option Addr} {sl_l_take : Array (Option Value)} {oc_l_take kV_l_take dc_l_take pm_l_take cd_l_take ct_l_take : Value}
    {od_l_signs an_l_signs : Option Addr} {sl_l_signs : Array (Option Value)} {oc_l_signs kV_l_signs dc_l_signs pm_l_signs cd_l_signs ct_l_signs : Value}
    {od_l_word an_l_word : Option Addr} {sl_l_word : Array (Option Value)} {oc_l_word kV_l_word dc_l_word pm_l_word cd_l_word ct_l_word : Value}
    {od_l_words an_l_words : Option Addr} {sl_l_words : Array (Option Value)} {oc_l_words kV_l_words dc_l_words pm_l_words cd_l_words ct_l_words : Value}
    {od_l_count an_l_count : Option Addr} {sl_l_count : Array (Option Value)} {oc_l_count kV_l_count dc_l_count pm_l_count cd_l_count ct_l_count : Value}
    {od_l_error an_l_error : Option Addr} {sl_l_error : Array (Option Value)} {oc_l_error kV_l_error dc_l_error pm_l_error cd_l_error ct_l_error : Value}
    {od_l_spelled an_l_spelled : Option Addr} {sl_l_spelled : Array (Option Value)} {oc_l_spelled kV_l_spelled dc_l_spelled pm_l_spelled cd_l_spelled ct_l_spelled : Value}
    {od_law an_law : Option Addr} {sl_law : Array (Option Value)} {oc_law kV_law dc_law pm_law ct_law : Value}
    {eL : Value} {dL : Option Addr} {vL : Array Value} {slL : Array (Option Value)}
    {nm_InvalidLoom q_InvalidLoom : Str} {ns_InvalidLoom : Addr} {bs_InvalidLoom : List Value} {sn_InvalidLoom : List Str} {sub_InvalidLoom : List Value} {ab_InvalidLoom : Bool} {col_InvalidLoom : Option Bool} {dd_InvalidLoom : Option Addr} {m0_InvalidLoom m1_InvalidLoom m2_InvalidLoom m3_InvalidLoom m5_InvalidLoom : Option Value}
    {nm_LimitExceeded q_LimitExceeded : Str} {ns_LimitExceeded : Addr} {bs_LimitExceeded : List Value} {sn_LimitExceeded : List Str} {sub_LimitExceeded : List Value} {ab_LimitExceeded : Bool} {col_LimitExceeded : Option Bool} {dd_LimitExceeded : Option Addr} {m0_LimitExceeded m1_LimitExceeded m2_LimitExceeded m3_LimitExceeded m5_LimitExceeded : Option Value}
    {t_MOST_SIGNS : Tok}
    {t_LONGEST_WORD : Tok}
    {t_LONGEST_TEXT : Tok}
    {t_LAST_STATE : Tok}
    {t_MOST_ARCS : Tok}
    (a_CNotOneWay : PySem.W.nsIn K mainGlobals "NotOneWay" = some (some (.ref C_NotOneWay)))
    (a_CNotABook : PySem.W.nsIn K mainGlobals "NotABook" = some (some (.ref C_NotABook)))
    (a_CUnlike : PySem.W.nsIn K mainGlobals "Unlike" = some (some (.ref C_Unlike)))
    (a_CLoom : PySem.W.nsIn K mainGlobals "Loom" = some (some (.ref C_Loom)))
    (a_CLimitExceeded : PySem.W.nsIn K mainGlobals "LimitExceeded" = some (some (.ref C_LimitExceeded)))
    (a_CInvalidLoom : PySem.W.nsIn K mainGlobals "InvalidLoom" = some (some (.ref C_InvalidLoom)))
    (a_InvalidLoom_init : PySem.W.findIn K (.ref C_InvalidLoom) "__init__" = some (some (.ref f_InvalidLoom_init)))
    (i_InvalidLoom_init : PySem.W.isFn K (.ref f_InvalidLoom_init) = true)
    (l_InvalidLoom_init : K.lookup f_InvalidLoom_init = some ⟨oc_InvalidLoom_init, od_InvalidLoom_init, .func (PySem.W.fnOf "__init__" "InvalidLoom.__init__" (defArgs s_InvalidLoom_init) (defBody s_InvalidLoom_init) (defScope s_InvalidLoom_init) .none kV_InvalidLoom_init dc_InvalidLoom_init pm_InvalidLoom_init an_InvalidLoom_init cd_InvalidLoom_init ct_InvalidLoom_init), sl_InvalidLoom_init⟩)
    (c_InvalidLoom_init : PySem.W.codeIn K cd_InvalidLoom_init "InvalidLoom.__init__" = true)
    (k_InvalidLoom_init : PySem.W.keepIn K (.ref f_InvalidLoom_init) = true)
    (a_LimitExceeded_init : PySem.W.findIn K (.ref C_LimitExceeded) "__init__" = some (some (.ref f_LimitExceeded_init)))
    (i_LimitExceeded_init : PySem.W.isFn K (.ref f_LimitExceeded_init) = true)
    (l_LimitExceeded_init : K.lookup f_LimitExceeded_init = some ⟨oc_LimitExceeded_init, od_LimitExceeded_init, .func (PySem.W.fnOf "__init__" "LimitExceeded.__init__" (defArgs s_LimitExceeded_init) (defBody s_LimitExceeded_init) (defScope s_LimitExceeded_init) .none kV_LimitExceeded_init dc_LimitExceeded_init pm_LimitExceeded_init an_LimitExceeded_init cd_LimitExceeded_init ct_LimitExceeded_init), sl_LimitExceeded_init⟩)
    (c_LimitExceeded_init : PySem.W.codeIn K cd_LimitExceeded_init "LimitExceeded.__init__" = true)
    (k_LimitExceeded_init : PySem.W.keepIn K (.ref f_LimitExceeded_init) = true)
    (a_is_number : PySem.W.nsIn K mainGlobals "is_number" = some (some (.ref f_is_number)))
    (l_is_number : K.lookup f_is_number = some ⟨oc_is_number, od_is_number, .func (PySem.W.fnOf "is_number" "is_number" (defArgs s_is_number) (defBody s_is_number) (defScope s_is_number) .none kV_is_number dc_is_number pm_is_number an_is_number cd_is_number ct_is_number), sl_is_number⟩)
    (c_is_number : PySem.W.codeIn K cd_is_number "is_number" = true)
    (k_is_number : PySem.W.keepIn K (.ref f_is_number) = true)
    (a_is_sequence : PySem.W.nsIn K mainGlobals "is_sequence" = some (some (.ref f_is_sequence)))
    (l_is_sequence : K.lookup f_is_sequence = some ⟨oc_is_sequence, od_is_sequence, .func (PySem.W.fnOf "is_sequence" "is_sequence" (defArgs s_is_sequence) (defBody s_is_sequence) (defScope s_is_sequence) .none kV_is_sequence dc_is_sequence pm_is_sequence an_is_sequence cd_is_sequence ct_is_sequence), sl_is_sequence⟩)
    (c_is_sequence : PySem.W.codeIn K cd_is_sequence "is_sequence" = true)
    (k_is_sequence : PySem.W.keepIn K (.ref f_is_sequence) = true)
    (a_is_signs : PySem.W.nsIn K mainGlobals "is_signs" = some (some (.ref f_is_signs)))
    (l_is_signs : K.lookup f_is_signs = some ⟨oc_is_signs, od_is_signs, .func (PySem.W.fnOf "is_signs" "is_signs" (defArgs s_is_signs) (defBody s_is_signs) (defScope s_is_signs) .none kV_is_signs dc_is_signs pm_is_signs an_is_signs cd_is_signs ct_is_signs), sl_is_signs⟩)
    (c_is_signs : PySem.W.codeIn K cd_is_signs "is_signs" = true)
    (k_is_signs : PySem.W.keepIn K (.ref f_is_signs) = true)
    (a_is_string_over : PySem.W.nsIn K mainGlobals "is_string_over" = some (some (.ref f_is_string_over)))
    (l_is_string_over : K.lookup f_is_string_over = some ⟨oc_is_string_over, od_is_string_over, .func (PySem.W.fnOf "is_string_over" "is_string_over" (defArgs s_is_string_over) (defBody s_is_string_over) (defScope s_is_string_over) .none kV_is_string_over dc_is_string_over pm_is_string_over an_is_string_over cd_is_string_over ct_is_string_over), sl_is_string_over⟩)
    (c_is_string_over : PySem.W.codeIn K cd_is_string_over "is_string_over" = true)
    (k_is_string_over : PySem.W.keepIn K (.ref f_is_string_over) = true)
    (a_is_word : PySem.W.nsIn K mainGlobals "is_word" = some (some (.ref f_is_word)))
    (l_is_word : K.lookup f_is_word = some ⟨oc_is_word, od_is_word, .func (PySem.W.fnOf "is_word" "is_word" (defArgs s_is_word) (defBody s_is_word) (defScope s_is_word) .none kV_is_word dc_is_word pm_is_word an_is_word cd_is_word ct_is_word), sl_is_word⟩)
    (c_is_word : PySem.W.codeIn K cd_is_word "is_word" = true)
    (k_is_word : PySem.W.keepIn K (.ref f_is_word) = true)
    (a_check_signs : PySem.W.nsIn K mainGlobals "check_signs" = some (some (.ref f_check_signs)))
    (l_check_signs : K.lookup f_check_signs = some ⟨oc_check_signs, od_check_signs, .func (PySem.W.fnOf "check_signs" "check_signs" (defArgs s_check_signs) (defBody s_check_signs) (defScope s_check_signs) .none kV_check_signs dc_check_signs pm_check_signs an_check_signs cd_check_signs ct_check_signs), sl_check_signs⟩)
    (c_check_signs : PySem.W.codeIn K cd_check_signs "check_signs" = true)
    (k_check_signs : PySem.W.keepIn K (.ref f_check_signs) = true)
    (a_check_state : PySem.W.nsIn K mainGlobals "check_state" = some (some (.ref f_check_state)))
    (l_check_state : K.lookup f_check_state = some ⟨oc_check_state, od_check_state, .func (PySem.W.fnOf "check_state" "check_state" (defArgs s_check_state) (defBody s_check_state) (defScope s_check_state) .none kV_check_state dc_check_state pm_check_state an_check_state cd_check_state ct_check_state), sl_check_state⟩)
    (c_check_state : PySem.W.codeIn K cd_check_state "check_state" = true)
    (k_check_state : PySem.W.keepIn K (.ref f_check_state) = true)
    (a_check_text : PySem.W.nsIn K mainGlobals "check_text" = some (some (.ref f_check_text)))
    (l_check_text : K.lookup f_check_text = some ⟨oc_check_text, od_check_text, .func (PySem.W.fnOf "check_text" "check_text" (defArgs s_check_text) (defBody s_check_text) (defScope s_check_text) .none kV_check_text dc_check_text pm_check_text an_check_text cd_check_text ct_check_text), sl_check_text⟩)
    (c_check_text : PySem.W.codeIn K cd_check_text "check_text" = true)
    (k_check_text : PySem.W.keepIn K (.ref f_check_text) = true)
    (a_is_arc : PySem.W.nsIn K mainGlobals "is_arc" = some (some (.ref f_is_arc)))
    (l_is_arc : K.lookup f_is_arc = some ⟨oc_is_arc, od_is_arc, .func (PySem.W.fnOf "is_arc" "is_arc" (defArgs s_is_arc) (defBody s_is_arc) (defScope s_is_arc) .none kV_is_arc dc_is_arc pm_is_arc an_is_arc cd_is_arc ct_is_arc), sl_is_arc⟩)
    (c_is_arc : PySem.W.codeIn K cd_is_arc "is_arc" = true)
    (k_is_arc : PySem.W.keepIn K (.ref f_is_arc) = true)
    (a_Loom_init : PySem.W.findIn K (.ref C_Loom) "__init__" = some (some (.ref f_Loom_init)))
    (i_Loom_init : PySem.W.isFn K (.ref f_Loom_init) = true)
    (l_Loom_init : K.lookup f_Loom_init = some ⟨oc_Loom_init, od_Loom_init, .func (PySem.W.fnOf "__init__" "Loom.__init__" (defArgs s_Loom_init) (defBody s_Loom_init) (defScope s_Loom_init) .none kV_Loom_init dc_Loom_init pm_Loom_init an_Loom_init cd_Loom_init ct_Loom_init), sl_Loom_init⟩)
    (c_Loom_init : PySem.W.codeIn K cd_Loom_init "Loom.__init__" = true)
    (k_Loom_init : PySem.W.keepIn K (.ref f_Loom_init) = true)
    (a_Loom_eq : PySem.W.findIn K (.ref C_Loom) "__eq__" = some (some (.ref f_Loom_eq)))
    (l_Loom_eq : K.lookup f_Loom_eq = some ⟨oc_Loom_eq, od_Loom_eq, .func (PySem.W.fnOf "__eq__" "Loom.__eq__" (defArgs s_Loom_eq) (defBody s_Loom_eq) (defScope s_Loom_eq) .none kV_Loom_eq dc_Loom_eq pm_Loom_eq an_Loom_eq cd_Loom_eq ct_Loom_eq), sl_Loom_eq⟩)
    (c_Loom_eq : PySem.W.codeIn K cd_Loom_eq "Loom.__eq__" = true)
    (k_Loom_eq : PySem.W.keepIn K (.ref f_Loom_eq) = true)
    (a_book : PySem.W.nsIn K mainGlobals "book" = some (some (.ref f_book)))
    (l_book : K.lookup f_book = some ⟨oc_book, od_book, .func (PySem.W.fnOf "book" "book" (defArgs s_book) (defBody s_book) (defScope s_book) .none kV_book dc_book pm_book an_book cd_book ct_book), sl_book⟩)
    (c_book : PySem.W.codeIn K cd_book "book" = true)
    (k_book : PySem.W.keepIn K (.ref f_book) = true)
    (a_is_book : PySem.W.nsIn K mainGlobals "is_book" = some (some (.ref f_is_book)))
    (l_is_book : K.lookup f_is_book = some ⟨oc_is_book, od_is_book, .func (PySem.W.fnOf "is_book" "is_book" (defArgs s_is_book) (defBody s_is_book) (defScope s_is_book) .none kV_is_book dc_is_book pm_is_book an_is_book cd_is_book ct_is_book), sl_is_book⟩)
    (c_is_book : PySem.W.codeIn K cd_is_book "is_book" = true)
    (k_is_book : PySem.W.keepIn K (.ref f_is_book) = true)
    (a_check_book : PySem.W.nsIn K mainGlobals "check_book" = some (some (.ref f_check_book)))
    (l_check_book : K.lookup f_check_book = some ⟨oc_check_book, od_check_book, .func (PySem.W.fnOf "check_book" "check_book" (defArgs s_check_book) (defBody s_check_book) (defScope s_check_book) .none kV_check_book dc_check_book pm_check_book an_check_book cd_check_book ct_check_book), sl_check_book⟩)
    (c_check_book : PySem.W.codeIn K cd_check_book "check_book" = true)
    (k_check_book : PySem.W.keepIn K (.ref f_check_book) = true)
    (a_words : PySem.W.nsIn K mainGlobals "words" = some (some (.ref f_words)))
    (l_words : K.lookup f_words = some ⟨oc_words, od_words, .func (PySem.W.fnOf "words" "words" (defArgs s_words) (defBody s_words) (defScope s_words) .none kV_words dc_words pm_words an_words cd_words ct_words), sl_words⟩)
    (c_words : PySem.W.codeIn K cd_words "words" = true)
    (k_words : PySem.W.keepIn K (.ref f_words) = true)
    (a_count : PySem.W.nsIn K mainGlobals "count" = some (some (.ref f_count)))
    (l_count : K.lookup f_count = some ⟨oc_count, od_count, .func (PySem.W.fnOf "count" "count" (defArgs s_count) (defBody s_count) (defScope s_count) .none kV_count dc_count pm_count an_count cd_count ct_count), sl_count⟩)
    (c_count : PySem.W.codeIn K cd_count "count" = true)
    (k_count : PySem.W.keepIn K (.ref f_count) = true)
    (a_joined : PySem.W.nsIn K mainGlobals "joined" = some (some (.ref f_joined)))
    (l_joined : K.lookup f_joined = some ⟨oc_joined, od_joined, .func (PySem.W.fnOf "joined" "joined" (defArgs s_joined) (defBody s_joined) (defScope s_joined) .none kV_joined dc_joined pm_joined an_joined cd_joined ct_joined), sl_joined⟩)
    (c_joined : PySem.W.codeIn K cd_joined "joined" = true)
    (k_joined : PySem.W.keepIn K (.ref f_joined) = true)
    (a_l_take : PySem.W.nsIn K mainGlobals "_law_take" = some (some (.ref f_l_take)))
    (l_l_take : K.lookup f_l_take = some ⟨oc_l_take, od_l_take, .func (PySem.W.fnOf "_law_take" "_law_take" (defArgs s_l_take) (defBody s_l_take) (defScope s_l_take) .none kV_l_take dc_l_take pm_l_take an_l_take cd_l_take ct_l_take), sl_l_take⟩)
    (c_l_take : PySem.W.codeIn K cd_l_take "_law_take" = true)
    (k_l_take : PySem.W.keepIn K (.ref f_l_take) = true)
    (a_l_signs : PySem.W.nsIn K mainGlobals "_law_signs" = some (some (.ref f_l_signs)))
    (l_l_signs : K.lookup f_l_signs = some ⟨oc_l_signs, od_l_signs, .func (PySem.W.fnOf "_law_signs" "_law_signs" (defArgs s_l_signs) (defBody s_l_signs) (defScope s_l_signs) .none kV_l_signs dc_l_signs pm_l_signs an_l_signs cd_l_signs ct_l_signs), sl_l_signs⟩)
    (c_l_signs : PySem.W.codeIn K cd_l_signs "_law_signs" = true)
    (k_l_signs : PySem.W.keepIn K (.ref f_l_signs) = true)
    (a_l_word : PySem.W.nsIn K mainGlobals "_law_word" = some (some (.ref f_l_word)))
    (l_l_word : K.lookup f_l_word = some ⟨oc_l_word, od_l_word, .func (PySem.W.fnOf "_law_word" "_law_word" (defArgs s_l_word) (defBody s_l_word) (defScope s_l_word) .none kV_l_word dc_l_word pm_l_word an_l_word cd_l_word ct_l_word), sl_l_word⟩)
    (c_l_word : PySem.W.codeIn K cd_l_word "_law_word" = true)
    (k_l_word : PySem.W.keepIn K (.ref f_l_word) = true)
    (a_l_words : PySem.W.nsIn K mainGlobals "_law_words" = some (some (.ref f_l_words)))
    (l_l_words : K.lookup f_l_words = some ⟨oc_l_words, od_l_words, .func (PySem.W.fnOf "_law_words" "_law_words" (defArgs s_l_words) (defBody s_l_words) (defScope s_l_words) .none kV_l_words dc_l_words pm_l_words an_l_words cd_l_words ct_l_words), sl_l_words⟩)
    (c_l_words : PySem.W.codeIn K cd_l_words "_law_words" = true)
    (k_l_words : PySem.W.keepIn K (.ref f_l_words) = true)
    (a_l_count : PySem.W.nsIn K mainGlobals "_law_count" = some (some (.ref f_l_count)))
    (l_l_count : K.lookup f_l_count = some ⟨oc_l_count, od_l_count, .func (PySem.W.fnOf "_law_count" "_law_count" (defArgs s_l_count) (defBody s_l_count) (defScope s_l_count) .none kV_l_count dc_l_count pm_l_count an_l_count cd_l_count ct_l_count), sl_l_count⟩)
    (c_l_count : PySem.W.codeIn K cd_l_count "_law_count" = true)
    (k_l_count : PySem.W.keepIn K (.ref f_l_count) = true)
    (a_l_error : PySem.W.nsIn K mainGlobals "_law_error" = some (some (.ref f_l_error)))
    (l_l_error : K.lookup f_l_error = some ⟨oc_l_error, od_l_error, .func (PySem.W.fnOf "_law_error" "_law_error" (defArgs s_l_error) (defBody s_l_error) (defScope s_l_error) .none kV_l_error dc_l_error pm_l_error an_l_error cd_l_error ct_l_error), sl_l_error⟩)
    (c_l_error : PySem.W.codeIn K cd_l_error "_law_error" = true)
    (k_l_error : PySem.W.keepIn K (.ref f_l_error) = true)
    (a_l_spelled : PySem.W.nsIn K mainGlobals "_law_spelled" = some (some (.ref f_l_spelled)))
    (l_l_spelled : K.lookup f_l_spelled = some ⟨oc_l_spelled, od_l_spelled, .func (PySem.W.fnOf "_law_spelled" "_law_spelled" (defArgs s_l_spelled) (defBody s_l_spelled) (defScope s_l_spelled) .none kV_l_spelled dc_l_spelled pm_l_spelled an_l_spelled cd_l_spelled ct_l_spelled), sl_l_spelled⟩)
    (c_l_spelled : PySem.W.codeIn K cd_l_spelled "_law_spelled" = true)
    (k_l_spelled : PySem.W.keepIn K (.ref f_l_spelled) = true)
    (a_law : PySem.W.nsIn K mainGlobals "law" = some (some (.ref f_law)))
    (l_law : K.lookup f_law = some ⟨oc_law, od_law, .func (PySem.W.fnOf "law" "law" (defArgs s_law) (defBody s_law) (defScope s_law) .none kV_law dc_law pm_law an_law (.ref cLaw) ct_law), sl_law⟩)
    (c_law : PySem.W.codeIn K (.ref cLaw) "law" = true)
    (kcl : K.lookup cLaw = some ⟨eL, dL, .fields vL, slL⟩)
    (v11 : vL[11]? = some (.ref pLaw))
    (chd : PySem.W.codeHdIn K cLaw pLaw = true)
    (nT : K.lookup pLaw = none)
    (k_law : PySem.W.keepIn K (.ref f_law) = true)
    (pg_Loom : PySem.W.plainGet K C_Loom Str.empty = true)
    (hd_Loom : PySem.W.hasDictIn K C_Loom = true)
    (po_Loom : PySem.W.plainOver K C_Loom = true)
    (sa_Loom : PySem.W.findIn K (.ref C_Loom) "__setattr__" = some (some (.builtin "object.__setattr__")))
    (mk_Loom : PySem.W.makesIn K C_Loom = true)
    (kc_Loom : PySem.W.keepIn K (.ref C_Loom) = true)
    (na_Loom_signs : PySem.W.findIn K (.ref C_Loom) "signs" = some none)
    (na_Loom_arcs : PySem.W.findIn K (.ref C_Loom) "arcs" = some none)
    (kc_InvalidLoom : PySem.W.keepIn K (.ref C_InvalidLoom) = true)
    (e1_InvalidLoom : PySem.W.findIn K (.ref C_InvalidLoom) "__getattribute__" = some (some (.builtin "BaseException.__getattribute__")))
    (e2_InvalidLoom : PySem.W.findIn K (.ref C_InvalidLoom) "__getattr__" = some none)
    (e3_InvalidLoom : PySem.W.subIn K (.ref C_InvalidLoom) (.type "BaseException") = some true)
    (e4_InvalidLoom : PySem.W.hasDictIn K C_InvalidLoom = true)
    (e5_InvalidLoom : PySem.W.findIn K (.ref C_InvalidLoom) "__class__" = some (some (.builtin "object.__class__")))
    (e8_InvalidLoom : PySem.W.mroIn K C_InvalidLoom (.type "object") = some true)
    (ty_InvalidLoom : PySem.W.typeIn K (.ref C_InvalidLoom) = some (.type "type"))
    (xi_InvalidLoom : K.lookup C_InvalidLoom = some (excClassObj nm_InvalidLoom q_InvalidLoom C_InvalidLoom ns_InvalidLoom bs_InvalidLoom [.ref C_ReadError, .type "Exception", .type "BaseException", .type "object"] true sn_InvalidLoom sub_InvalidLoom ab_InvalidLoom col_InvalidLoom dd_InvalidLoom m0_InvalidLoom m1_InvalidLoom m2_InvalidLoom m3_InvalidLoom m5_InvalidLoom "Exception.__new__"))
    (tf_InvalidLoom : PySem.W.typeIn K (.ref f_InvalidLoom_init) = some (.type "function"))
    (sa_InvalidLoom : PySem.W.findIn K (.ref C_InvalidLoom) "__setattr__" = some (some (.builtin "object.__setattr__")))
    (no_InvalidLoom_part : PySem.W.findIn K (.ref C_InvalidLoom) "part" = some none)
    (no_InvalidLoom_at : PySem.W.findIn K (.ref C_InvalidLoom) "at" = some none)
    (kc_LimitExceeded : PySem.W.keepIn K (.ref C_LimitExceeded) = true)
    (e1_LimitExceeded : PySem.W.findIn K (.ref C_LimitExceeded) "__getattribute__" = some (some (.builtin "BaseException.__getattribute__")))
    (e2_LimitExceeded : PySem.W.findIn K (.ref C_LimitExceeded) "__getattr__" = some none)
    (e3_LimitExceeded : PySem.W.subIn K (.ref C_LimitExceeded) (.type "BaseException") = some true)
    (e4_LimitExceeded : PySem.W.hasDictIn K C_LimitExceeded = true)
    (e5_LimitExceeded : PySem.W.findIn K (.ref C_LimitExceeded) "__class__" = some (some (.builtin "object.__class__")))
    (e8_LimitExceeded : PySem.W.mroIn K C_LimitExceeded (.type "object") = some true)
    (ty_LimitExceeded : PySem.W.typeIn K (.ref C_LimitExceeded) = some (.type "type"))
    (xi_LimitExceeded : K.lookup C_LimitExceeded = some (excClassObj nm_LimitExceeded q_LimitExceeded C_LimitExceeded ns_LimitExceeded bs_LimitExceeded [.ref C_ReadError, .type "Exception", .type "BaseException", .type "object"] true sn_LimitExceeded sub_LimitExceeded ab_LimitExceeded col_LimitExceeded dd_LimitExceeded m0_LimitExceeded m1_LimitExceeded m2_LimitExceeded m3_LimitExceeded m5_LimitExceeded "Exception.__new__"))
    (tf_LimitExceeded : PySem.W.typeIn K (.ref f_LimitExceeded_init) = some (.type "function"))
    (sa_LimitExceeded : PySem.W.findIn K (.ref C_LimitExceeded) "__setattr__" = some (some (.builtin "object.__setattr__")))
    (no_LimitExceeded_limit : PySem.W.findIn K (.ref C_LimitExceeded) "limit" = some none)
    (kc_Unlike : PySem.W.keepIn K (.ref C_Unlike) = true)
    (e1_Unlike : PySem.W.findIn K (.ref C_Unlike) "__getattribute__" = some (some (.builtin "BaseException.__getattribute__")))
    (e2_Unlike : PySem.W.findIn K (.ref C_Unlike) "__getattr__" = some none)
    (e3_Unlike : PySem.W.subIn K (.ref C_Unlike) (.type "BaseException") = some true)
    (e4_Unlike : PySem.W.hasDictIn K C_Unlike = true)
    (e5_Unlike : PySem.W.findIn K (.ref C_Unlike) "__class__" = some (some (.builtin "object.__class__")))
    (e8_Unlike : PySem.W.mroIn K C_Unlike (.type "object") = some true)
    (ty_Unlike : PySem.W.typeIn K (.ref C_Unlike) = some (.type "type"))
    (in_Unlike : PySem.W.excIn K C_Unlike [.type "Exception", .type "BaseException", .type "object"] "Exception.__new__" = true)
    (kc_NotABook : PySem.W.keepIn K (.ref C_NotABook) = true)
    (e1_NotABook : PySem.W.findIn K (.ref C_NotABook) "__getattribute__" = some (some (.builtin "BaseException.__getattribute__")))
    (e2_NotABook : PySem.W.findIn K (.ref C_NotABook) "__getattr__" = some none)
    (e3_NotABook : PySem.W.subIn K (.ref C_NotABook) (.type "BaseException") = some true)
    (e4_NotABook : PySem.W.hasDictIn K C_NotABook = true)
    (e5_NotABook : PySem.W.findIn K (.ref C_NotABook) "__class__" = some (some (.builtin "object.__class__")))
    (e8_NotABook : PySem.W.mroIn K C_NotABook (.type "object") = some true)
    (ty_NotABook : PySem.W.typeIn K (.ref C_NotABook) = some (.type "type"))
    (in_NotABook : PySem.W.excIn K C_NotABook [.type "Exception", .type "BaseException", .type "object"] "Exception.__new__" = true)
    (kc_NotOneWay : PySem.W.keepIn K (.ref C_NotOneWay) = true)
    (e1_NotOneWay : PySem.W.findIn K (.ref C_NotOneWay) "__getattribute__" = some (some (.builtin "BaseException.__getattribute__")))
    (e2_NotOneWay : PySem.W.findIn K (.ref C_NotOneWay) "__getattr__" = some none)
    (e3_NotOneWay : PySem.W.subIn K (.ref C_NotOneWay) (.type "BaseException") = some true)
    (e4_NotOneWay : PySem.W.hasDictIn K C_NotOneWay = true)
    (e5_NotOneWay : PySem.W.findIn K (.ref C_NotOneWay) "__class__" = some (some (.builtin "object.__class__")))
    (e8_NotOneWay : PySem.W.mroIn K C_NotOneWay (.type "object") = some true)
    (ty_NotOneWay : PySem.W.typeIn K (.ref C_NotOneWay) = some (.type "type"))
    (in_NotOneWay : PySem.W.excIn K C_NotOneWay [.type "Exception", .type "BaseException", .type "object"] "Exception.__new__" = true)
    (e6 : PySem.W.specialIn K (.builtin "object.__class__") "__get__" = some (some (.builtin "getset_descriptor.__get__")))
    (e7 : PySem.W.takesIn K (.builtin "object.__class__") = some true)
    (ic_Loom : PySem.W.findIn K (.ref C_Loom) "__class__" = some (some (.builtin "object.__class__")))
    (ig : PySem.W.specialIn K (.builtin "object.__class__") "__get__" = some (some (.builtin "getset_descriptor.__get__")))
    (it : PySem.W.takesIn K (.builtin "object.__class__") = some true)
    (im_Loom : PySem.W.mroIn K C_Loom (.type "object") = some true)
    (eq_Loom : PySem.W.findIn K (.ref C_Loom) "__eq__" = some (some (.ref f_Loom_eq)))
    (fn_Loom_eq : PySem.W.isFn K (.ref f_Loom_eq) = true)
    (ne_Loom : PySem.W.findIn K (.ref C_Loom) "__ne__" = some (some (.builtin "object.__ne__")))
    (cc_Loom : PySem.W.isClsIn K C_Loom = true)
    (ty_Loom : PySem.W.typeIn K (.ref C_Loom) = some (.type "type"))
    (cl_InvalidLoom : PySem.W.isClsIn K C_InvalidLoom = true)
    (cl_LimitExceeded : PySem.W.isClsIn K C_LimitExceeded = true)
    (cl_Unlike : PySem.W.isClsIn K C_Unlike = true)
    (cl_NotABook : PySem.W.isClsIn K C_NotABook = true)
    (cl_NotOneWay : PySem.W.isClsIn K C_NotOneWay = true)
    (su_Unlike_InvalidLoom : PySem.W.subIn K (.ref C_Unlike) (.ref C_InvalidLoom) = some false)
    (su_Unlike_NotABook : PySem.W.subIn K (.ref C_Unlike) (.ref C_NotABook) = some false)
    (su_Unlike_Unlike : PySem.W.subIn K (.ref C_Unlike) (.ref C_Unlike) = some true)
    (su_LimitExceeded_InvalidLoom : PySem.W.subIn K (.ref C_LimitExceeded) (.ref C_InvalidLoom) = some false)
    (su_LimitExceeded_NotABook : PySem.W.subIn K (.ref C_LimitExceeded) (.ref C_NotABook) = some false)
    (su_LimitExceeded_Unlike : PySem.W.subIn K (.ref C_LimitExceeded) (.ref C_Unlike) = some false)
    (su_LimitExceeded_NotOneWay : PySem.W.subIn K (.ref C_LimitExceeded) (.ref C_NotOneWay) = some false)
    (su_LimitExceeded_LimitExceeded : PySem.W.subIn K (.ref C_LimitExceeded) (.ref C_LimitExceeded) = some true)
    (nx_InvalidLoom_part : PySem.W.findIn K (.ref C_InvalidLoom) "part" = some none)
    (nx_InvalidLoom_at : PySem.W.findIn K (.ref C_InvalidLoom) "at" = some none)
    (nx_LimitExceeded_limit : PySem.W.findIn K (.ref C_LimitExceeded) "limit" = some none)
    (z_all : PySem.W.nsIn K mainGlobals "all" = some none)
    (z_bool : PySem.W.nsIn K mainGlobals "bool" = some none)
    (z_enumerate : PySem.W.nsIn K mainGlobals "enumerate" = some none)
    (z_int : PySem.W.nsIn K mainGlobals "int" = some none)
    (z_isinstance : PySem.W.nsIn K mainGlobals "isinstance" = some none)
    (z_len : PySem.W.nsIn K mainGlobals "len" = some none)
    (z_list : PySem.W.nsIn K mainGlobals "list" = some none)
    (z_max : PySem.W.nsIn K mainGlobals "max" = some none)
    (z_range : PySem.W.nsIn K mainGlobals "range" = some none)
    (z_str : PySem.W.nsIn K mainGlobals "str" = some none)
    (z_sum : PySem.W.nsIn K mainGlobals "sum" = some none)
    (z_tuple : PySem.W.nsIn K mainGlobals "tuple" = some none)
    (z_zip : PySem.W.nsIn K mainGlobals "zip" = some none)
    (g_MOST_SIGNS : PySem.W.nsIn K mainGlobals "MOST_SIGNS" = some (some (.int 4 t_MOST_SIGNS)))
    (g_LONGEST_WORD : PySem.W.nsIn K mainGlobals "LONGEST_WORD" = some (some (.int 12 t_LONGEST_WORD)))
    (g_LONGEST_TEXT : PySem.W.nsIn K mainGlobals "LONGEST_TEXT" = some (some (.int 2000 t_LONGEST_TEXT)))
    (g_LAST_STATE : PySem.W.nsIn K mainGlobals "LAST_STATE" = some (some (.int 63 t_LAST_STATE)))
    (g_MOST_ARCS : PySem.W.nsIn K mainGlobals "MOST_ARCS" = some (some (.int 200 t_MOST_ARCS)))
    : LamX.LawAtS l w K CX0 10 63 "_law_script" mg fa h := by
  have e := hfa.symm.trans (PySem.W.mg_of X G a_law)
  cases e
  have F_InvalidLoom_init := fun_mk (st := s_InvalidLoom_init) l_InvalidLoom_init c_InvalidLoom_init k_InvalidLoom_init
  have b_InvalidLoom_init := F_InvalidLoom_init.binds (ps := P_InvalidLoom_init) fun _ _ _ _ _ _ us hl => match us, hl with | [_, _, _], _ => rfl
  have F_LimitExceeded_init := fun_mk (st := s_LimitExceeded_init) l_LimitExceeded_init c_LimitExceeded_init k_LimitExceeded_init
  have b_LimitExceeded_init := F_LimitExceeded_init.binds (ps := P_LimitExceeded_init) fun _ _ _ _ _ _ us hl => match us, hl with | [_, _], _ => rfl
  have F_is_number := fun_mk (st := s_is_number) l_is_number c_is_number k_is_number
  have b_is_number := F_is_number.binds (ps := P_is_number) fun _ _ _ _ _ _ us hl => match us, hl with | [_, _, _], _ => rfl
  have F_is_sequence := fun_mk (st := s_is_sequence) l_is_sequence c_is_sequence k_is_sequence
  have b_is_sequence := F_is_sequence.binds (ps := P_is_sequence) fun _ _ _ _ _ _ us hl => match us, hl with | [_, _, _], _ => rfl
  have F_is_signs := fun_mk (st := s_is_signs) l_is_signs c_is_signs k_is_signs
  have b_is_signs := F_is_signs.binds (ps := P_is_signs) fun _ _ _ _ _ _ us hl => match us, hl with | [_], _ => rfl
  have F_is_string_over := fun_mk (st := s_is_string_over) l_is_string_over c_is_string_over k_is_string_over
  have b_is_string_over := F_is_string_over.binds (ps := P_is_string_over) fun _ _ _ _ _ _ us hl => match us, hl with | [_, _, _, _], _ => rfl
  have F_is_word := fun_mk (st := s_is_word) l_is_word c_is_word k_is_word
  have b_is_word := F_is_word.binds (ps := P_is_word) fun _ _ _ _ _ _ us hl => match us, hl with | [_, _], _ => rfl
  have F_check_signs := fun_mk (st := s_check_signs) l_check_signs c_check_signs k_check_signs
  have b_check_signs := F_check_signs.binds (ps := P_check_signs) fun _ _ _ _ _ _ us hl => match us, hl with | [_], _ => rfl
  have F_check_state := fun_mk (st := s_check_state) l_check_state c_check_state k_check_state
  have b_check_state := F_check_state.binds (ps := P_check_state) fun _ _ _ _ _ _ us hl => match us, hl with | [_], _ => rfl
  have F_check_text := fun_mk (st := s_check_text) l_check_text c_check_text k_check_text
  have b_check_text := F_check_text.binds (ps := P_check_text) fun _ _ _ _ _ _ us hl => match us, hl with | [_, _], _ => rfl
  have F_is_arc := fun_mk (st := s_is_arc) l_is_arc c_is_arc k_is_arc
  have b_is_arc := F_is_arc.binds (ps := P_is_arc) fun _ _ _ _ _ _ us hl => match us, hl with | [_, _], _ => rfl
  have F_Loom_init := fun_mk (st := s_Loom_init) l_Loom_init c_Loom_init k_Loom_init
  have b_Loom_init := F_Loom_init.binds (ps := P_Loom_init) fun _ _ _ _ _ _ us hl => match us, hl with | [_, _, _], _ => rfl
  have F_Loom_eq := fun_mk (st := s_Loom_eq) l_Loom_eq c_Loom_eq k_Loom_eq
  have b_Loom_eq := F_Loom_eq.binds (ps := P_Loom_eq) fun _ _ _ _ _ _ us hl => match us, hl with | [_, _], _ => rfl
  have F_book := fun_mk (st := s_book) l_book c_book k_book
  have b_book := F_book.binds (ps := P_book) fun _ _ _ _ _ _ us hl => match us, hl with | [_, _], _ => rfl
  have F_is_book := fun_mk (st := s_is_book) l_is_book c_is_book k_is_book
  have b_is_book := F_is_book.binds (ps := P_is_book) fun _ _ _ _ _ _ us hl => match us, hl with | [_], _ => rfl
  have F_check_book := fun_mk (st := s_check_book) l_check_book c_check_book k_check_book
  have b_check_book := F_check_book.binds (ps := P_check_book) fun _ _ _ _ _ _ us hl => match us, hl with | [_], _ => rfl
  have F_words := fun_mk (st := s_words) l_words c_words k_words
  have b_words := F_words.binds (ps := P_words) fun _ _ _ _ _ _ us hl => match us, hl with | [_], _ => rfl
  have F_count := fun_mk (st := s_count) l_count c_count k_count
  have b_count := F_count.binds (ps := P_count) fun _ _ _ _ _ _ us hl => match us, hl with | [_, _, _], _ => rfl
  have F_joined := fun_mk (st := s_joined) l_joined c_joined k_joined
  have b_joined := F_joined.binds (ps := P_joined) fun _ _ _ _ _ _ us hl => match us, hl with | [_, _], _ => rfl
  have F_l_take := fun_mk (st := s_l_take) l_l_take c_l_take k_l_take
  have b_l_take := F_l_take.binds (ps := P_l_take) fun _ _ _ _ _ _ us hl => match us, hl with | [_, _, _], _ => rfl
  have F_l_signs := fun_mk (st := s_l_signs) l_l_signs c_l_signs k_l_signs
  have b_l_signs := F_l_signs.binds (ps := P_l_signs) fun _ _ _ _ _ _ us hl => match us, hl with | [_, _], _ => rfl
  have F_l_word := fun_mk (st := s_l_word) l_l_word c_l_word k_l_word
  have b_l_word := F_l_word.binds (ps := P_l_word) fun _ _ _ _ _ _ us hl => match us, hl with | [_, _, _, _], _ => rfl
  have F_l_words := fun_mk (st := s_l_words) l_l_words c_l_words k_l_words
  have b_l_words := F_l_words.binds (ps := P_l_words) fun _ _ _ _ _ _ us hl => match us, hl with | [_, _, _, _, _], _ => rfl
  have F_l_count := fun_mk (st := s_l_count) l_l_count c_l_count k_l_count
  have b_l_count := F_l_count.binds (ps := P_l_count) fun _ _ _ _ _ _ us hl => match us, hl with | [_, _], _ => rfl
  have F_l_error := fun_mk (st := s_l_error) l_l_error c_l_error k_l_error
  have b_l_error := F_l_error.binds (ps := P_l_error) fun _ _ _ _ _ _ us hl => match us, hl with | [_], _ => rfl
  have F_l_spelled := fun_mk (st := s_l_spelled) l_l_spelled c_l_spelled k_l_spelled
  have b_l_spelled := F_l_spelled.binds (ps := P_l_spelled) fun _ _ _ _ _ _ us hl => match us, hl with | [_, _, _], _ => rfl
  have F_law := fun_mk (st := s_law) l_law c_law k_law
  have b_law := F_law.binds (ps := P_law) fun _ _ _ _ _ _ us hl => match us, hl with | [_], _ => rfl
  refine ⟨_, [(cLaw, pLaw)], spLaw K pLaw, fun p hp => ?_, fun p hp => ?_, fun p hp => ?_, fun s v => .of_eq rfl, fun H a ns hl _ hT hS => ⟨a, ns, rfl, hS, hl, hT _ (List.mem_singleton.mpr rfl), fun _ => rfl⟩, fun base _ _ TB => ok_law {
    f_InvalidLoom_init := _
    fd_InvalidLoom_init := _
    F_InvalidLoom_init := F_InvalidLoom_init
    b_InvalidLoom_init := b_InvalidLoom_init
    f_LimitExceeded_init := _
    fd_LimitExceeded_init := _
    F_LimitExceeded_init := F_LimitExceeded_init
    b_LimitExceeded_init := b_LimitExceeded_init
    f_is_number := _
    fd_is_number := _
    F_is_number := F_is_number
    b_is_number := b_is_number
    m_is_number := PySem.W.mg_of X G a_is_number
    f_is_sequence := _
    fd_is_sequence := _
    F_is_sequence := F_is_sequence
    b_is_sequence := b_is_sequence
    m_is_sequence := PySem.W.mg_of X G a_is_sequence
    f_is_signs := _
    fd_is_signs := _
    F_is_signs := F_is_signs
    b_is_signs := b_is_signs
    m_is_signs := PySem.W.mg_of X G a_is_signs
    f_is_string_over := _
    fd_is_string_over := _
    F_is_string_over := F_is_string_over
    b_is_string_over := b_is_string_over
    m_is_string_over := PySem.W.mg_of X G a_is_string_over
    f_is_word := _
    fd_is_word := _
    F_is_word := F_is_word
    b_is_word := b_is_word
    m_is_word := PySem.W.mg_of X G a_is_word
    f_check_signs := _
    fd_check_signs := _
    F_check_signs := F_check_signs
    b_check_signs := b_check_signs
    m_check_signs := PySem.W.mg_of X G a_check_signs
    f_check_state := _
    fd_check_state := _
    F_check_state := F_check_state
    b_check_state := b_check_state
    m_check_state := PySem.W.mg_of X G a_check_state
    f_check_text := _
    fd_check_text := _
    F_check_text := F_check_text
    b_check_text := b_check_text
    m_check_text := PySem.W.mg_of X G a_check_text
    f_is_arc := _
    fd_is_arc := _
    F_is_arc := F_is_arc
    b_is_arc := b_is_arc
    m_is_arc := PySem.W.mg_of X G a_is_arc
    f_Loom_init := _
    fd_Loom_init := _
    F_Loom_init := F_Loom_init
    b_Loom_init := b_Loom_init
    f_Loom_eq := _
    fd_Loom_eq := _
    F_Loom_eq := F_Loom_eq
    b_Loom_eq := b_Loom_eq
    f_book := _
    fd_book := _
    F_book := F_book
    b_book := b_book
    m_book := PySem.W.mg_of X G a_book
    f_is_book := _
    fd_is_book := _
    F_is_book := F_is_book
    b_is_book := b_is_book
    m_is_book := PySem.W.mg_of X G a_is_book
    f_check_book := _
    fd_check_book := _
    F_check_book := F_check_book
    b_check_book := b_check_book
    m_check_book := PySem.W.mg_of X G a_check_book
    f_words := _
    fd_words := _
    F_words := F_words
    b_words := b_words
    m_words := PySem.W.mg_of X G a_words
    f_count := _
    fd_count := _
    F_count := F_count
    b_count := b_count
    m_count := PySem.W.mg_of X G a_count
    f_joined := _
    fd_joined := _
    F_joined := F_joined
    b_joined := b_joined
    m_joined := PySem.W.mg_of X G a_joined
    f_l_take := _
    fd_l_take := _
    F_l_take := F_l_take
    b_l_take := b_l_take
    m_l_take := PySem.W.mg_of X G a_l_take
    f_l_signs := _
    fd_l_signs := _
    F_l_signs := F_l_signs
    b_l_signs := b_l_signs
    m_l_signs := PySem.W.mg_of X G a_l_signs
    f_l_word := _
    fd_l_word := _
    F_l_word := F_l_word
    b_l_word := b_l_word
    m_l_word := PySem.W.mg_of X G a_l_word
    f_l_words := _
    fd_l_words := _
    F_l_words := F_l_words
    b_l_words := b_l_words
    m_l_words := PySem.W.mg_of X G a_l_words
    f_l_count := _
    fd_l_count := _
    F_l_count := F_l_count
    b_l_count := b_l_count
    m_l_count := PySem.W.mg_of X G a_l_count
    f_l_error := _
    fd_l_error := _
    F_l_error := F_l_error
    b_l_error := b_l_error
    m_l_error := PySem.W.mg_of X G a_l_error
    f_l_spelled := _
    fd_l_spelled := _
    F_l_spelled := F_l_spelled
    b_l_spelled := b_l_spelled
    m_l_spelled := PySem.W.mg_of X G a_l_spelled
    f_law := _
    fd_law := _
    F_law := F_law
    b_law := b_law
    m_law := PySem.W.mg_of X G a_law
    n_all := PySem.W.mg_none_of X G z_all
    n_bool := PySem.W.mg_none_of X G z_bool
    n_enumerate := PySem.W.mg_none_of X G z_enumerate
    n_int := PySem.W.mg_none_of X G z_int
    n_isinstance := PySem.W.mg_none_of X G z_isinstance
    n_len := PySem.W.mg_none_of X G z_len
    n_list := PySem.W.mg_none_of X G z_list
    n_max := PySem.W.mg_none_of X G z_max
    n_range := PySem.W.mg_none_of X G z_range
    n_str := PySem.W.mg_none_of X G z_str
    n_sum := PySem.W.mg_none_of X G z_sum
    n_tuple := PySem.W.mg_none_of X G z_tuple
    n_zip := PySem.W.mg_none_of X G z_zip
    t_MOST_SIGNS := t_MOST_SIGNS
    g_MOST_SIGNS := PySem.W.mg_of X G g_MOST_SIGNS
    t_LONGEST_WORD := t_LONGEST_WORD
    g_LONGEST_WORD := PySem.W.mg_of X G g_LONGEST_WORD
    t_LONGEST_TEXT := t_LONGEST_TEXT
    g_LONGEST_TEXT := PySem.W.mg_of X G g_LONGEST_TEXT
    t_LAST_STATE := t_LAST_STATE
    g_LAST_STATE := PySem.W.mg_of X G g_LAST_STATE
    t_MOST_ARCS := t_MOST_ARCS
    g_MOST_ARCS := PySem.W.mg_of X G g_MOST_ARCS
    C_Loom := C_Loom
    M_Loom := ⟨mk_Loom, a_Loom_init, i_Loom_init, kc_Loom⟩
    cl_Loom := ⟨pg_Loom, hd_Loom, po_Loom, sa_Loom⟩
    g_Loom := PySem.W.mg_of X G a_CLoom
    na_Loom_signs := na_Loom_signs
    na_Loom_arcs := na_Loom_arcs
    C_InvalidLoom := C_InvalidLoom
    g_InvalidLoom := PySem.W.mg_of X G a_CInvalidLoom
    kc_InvalidLoom := kc_InvalidLoom
    E_InvalidLoom := ⟨e1_InvalidLoom, e2_InvalidLoom, e3_InvalidLoom, e4_InvalidLoom, e5_InvalidLoom, e6, e7, e8_InvalidLoom⟩
    ty_InvalidLoom := ty_InvalidLoom
    X_InvalidLoom := { gC := PySem.W.mg_of X G a_CInvalidLoom, cls := ⟨_, _, _, _, _, _, _, _, _, _, _, _, _, _, _, xi_InvalidLoom, by first | rfl | decide +kernel⟩, sa := sa_InvalidLoom, ga := e1_InvalidLoom, gg := e2_InvalidLoom, no := fun f hf => by simp only [List.mem_cons, List.not_mem_nil, or_false] at hf; rcases hf with rfl | rfl <;> assumption, iC := a_InvalidLoom_init, tC := tf_InvalidLoom, kC := kc_InvalidLoom, exC := e3_InvalidLoom, tyC := ty_InvalidLoom, hdC := e4_InvalidLoom, fn := ⟨_, _, _, _, _, _, _, _, _, l_InvalidLoom_init, c_InvalidLoom_init⟩ }
    C_LimitExceeded := C_LimitExceeded
    g_LimitExceeded := PySem.W.mg_of X G a_CLimitExceeded
    kc_LimitExceeded := kc_LimitExceeded
    E_LimitExceeded := ⟨e1_LimitExceeded, e2_LimitExceeded, e3_LimitExceeded, e4_LimitExceeded, e5_LimitExceeded, e6, e7, e8_LimitExceeded⟩
    ty_LimitExceeded := ty_LimitExceeded
    X_LimitExceeded := { gC := PySem.W.mg_of X G a_CLimitExceeded, cls := ⟨_, _, _, _, _, _, _, _, _, _, _, _, _, _, _, xi_LimitExceeded, by first | rfl | decide +kernel⟩, sa := sa_LimitExceeded, ga := e1_LimitExceeded, gg := e2_LimitExceeded, no := fun f hf => by rw [List.mem_singleton.mp hf]; assumption, iC := a_LimitExceeded_init, tC := tf_LimitExceeded, kC := kc_LimitExceeded, exC := e3_LimitExceeded, tyC := ty_LimitExceeded, hdC := e4_LimitExceeded, fn := ⟨_, _, _, _, _, _, _, _, _, l_LimitExceeded_init, c_LimitExceeded_init⟩ }
    C_Unlike := C_Unlike
    g_Unlike := PySem.W.mg_of X G a_CUnlike
    kc_Unlike := kc_Unlike
    E_Unlike := ⟨e1_Unlike, e2_Unlike, e3_Unlike, e4_Unlike, e5_Unlike, e6, e7, e8_Unlike⟩
    ty_Unlike := ty_Unlike
    in_Unlike := in_Unlike
    C_NotABook := C_NotABook
    g_NotABook := PySem.W.mg_of X G a_CNotABook
    kc_NotABook := kc_NotABook
    E_NotABook := ⟨e1_NotABook, e2_NotABook, e3_NotABook, e4_NotABook, e5_NotABook, e6, e7, e8_NotABook⟩
    ty_NotABook := ty_NotABook
    in_NotABook := in_NotABook
    C_NotOneWay := C_NotOneWay
    g_NotOneWay := PySem.W.mg_of X G a_CNotOneWay
    kc_NotOneWay := kc_NotOneWay
    E_NotOneWay := ⟨e1_NotOneWay, e2_NotOneWay, e3_NotOneWay, e4_NotOneWay, e5_NotOneWay, e6, e7, e8_NotOneWay⟩
    ty_NotOneWay := ty_NotOneWay
    in_NotOneWay := in_NotOneWay
    ic_Loom := ic_Loom
    ig := ig
    it := it
    im_Loom := im_Loom
    eq_Loom := eq_Loom
    fn_Loom_eq := fn_Loom_eq
    ne_Loom := ne_Loom
    cc_Loom := cc_Loom
    ty_Loom := ty_Loom
    cl_InvalidLoom := cl_InvalidLoom
    cl_LimitExceeded := cl_LimitExceeded
    cl_Unlike := cl_Unlike
    cl_NotABook := cl_NotABook
    cl_NotOneWay := cl_NotOneWay
    su_Unlike_InvalidLoom := su_Unlike_InvalidLoom
    su_Unlike_NotABook := su_Unlike_NotABook
    su_Unlike_Unlike := su_Unlike_Unlike
    su_LimitExceeded_InvalidLoom := su_LimitExceeded_InvalidLoom
    su_LimitExceeded_NotABook := su_LimitExceeded_NotABook
    su_LimitExceeded_Unlike := su_LimitExceeded_Unlike
    su_LimitExceeded_NotOneWay := su_LimitExceeded_NotOneWay
    su_LimitExceeded_LimitExceeded := su_LimitExceeded_LimitExceeded
    nx_InvalidLoom_part := nx_InvalidLoom_part
    nx_InvalidLoom_at := nx_InvalidLoom_at
    nx_LimitExceeded_limit := nx_LimitExceeded_limit
    cLaw := cLaw
    pLaw := pLaw
    co_law := rfl } (TB _ (List.mem_singleton.mpr rfl))⟩
  · rw [List.mem_singleton.mp hp]; exact own cLaw pLaw _ _ _ _ _ _ l_law rfl rfl kcl v11
  · rw [List.mem_singleton.mp hp]; exact nT
  · rw [List.mem_singleton.mp hp]; exact PySem.W.codeHd_of_K X chd
open PySem.Spec PyProof.Rows in
theorem walk {l : PySem.W.OpenLaw} {q : Program} {loose : List Str} {XP : (Str → Option Value) → Heap → Prop} {YP : World → Heap → Prop} {d : DefRec} {K : Params → PySem.W.Frag} (hn : l.most = some 63) (hdf : d.params.defaults = [])
    (hrec : ((recsOf q).any fun e => e.name == d.name) = true) (hY : ∀ (w : World) (h : Heap), YP w h → (K w.params).In h)
    (F : ∀ (w : World) (mg : Str → Option Value) (fa : Addr) (h : Heap), YP w h → (K w.params).In h → h.Ns mainGlobals mg → mg d.name = some (.ref fa) → LamX.OwnTab (K w.params) fa h → LamX.LawAtS l w (K w.params) CX0 10 63 "_law_script" mg fa h) :
    PySem.W.WalkO q loose XP YP l.row.toRowW d [] (fun f vs => PySem.call f vs) :=
  LamX.walk_ofOwn (n := 63) (k := 10) (x := "_law_script") (CX := fun _ => CX0) hn (by decide) hdf ⟨rfl, by decide, by decide⟩ hrec hY F fun _ _ _ _ _ z => z
end J

open PySem PySem.W PyProof.Rows in
set_option maxRecDepth 100000 in
set_option maxHeartbeats 0 in
theorem PySem.Challenge.cw_onewayread_k34_books_joined_holds : PySem.Challenge.rw_onewayread_k34_books_joined.Holds := by
  w_on; o_law; k_head; (case hw => w_witness2)
  k_fill
  refine J.walk (l := PySem.Challenge.rw_onewayread_k34_books_joined) rfl rfl ?hrec (fun w h Y => by first | exact PySem.W.km_in_of Y | exact PySem.W.kIn_of Y) ?F
  case hrec => first | rfl | decide +kernel
  case F =>
    intro w mg fa h Y KX G hmg own
    refine' J.all_mk KX G own hmg ?a_CNotOneWay ?a_CNotABook ?a_CUnlike ?a_CLoom ?a_CLimitExceeded ?a_CInvalidLoom ?a_InvalidLoom_init ?i_InvalidLoom_init ?l_InvalidLoom_init ?c_InvalidLoom_init ?k_InvalidLoom_init ?a_LimitExceeded_init ?i_LimitExceeded_init ?l_LimitExceeded_init ?c_LimitExceeded_init ?k_LimitExceeded_init ?a_is_number ?l_is_number ?c_is_number ?k_is_number ?a_is_sequence ?l_is_sequence ?c_is_sequence ?k_is_sequence ?a_is_signs ?l_is_signs ?c_is_signs ?k_is_signs ?a_is_string_over ?l_is_string_over ?c_is_string_over ?k_is_string_over ?a_is_word ?l_is_word ?c_is_word ?k_is_word ?a_check_signs ?l_check_signs ?c_check_signs ?k_check_signs ?a_check_state ?l_check_state ?c_check_state ?k_check_state ?a_check_text ?l_check_text ?c_check_text ?k_check_text ?a_is_arc ?l_is_arc ?c_is_arc ?k_is_arc ?a_Loom_init ?i_Loom_init ?l_Loom_init ?c_Loom_init ?k_Loom_init ?a_Loom_eq ?l_Loom_eq ?c_Loom_eq ?k_Loom_eq ?a_book ?l_book ?c_book ?k_book ?a_is_book ?l_is_book ?c_is_book ?k_is_book ?a_check_book ?l_check_book ?c_check_book ?k_check_book ?a_words ?l_words ?c_words ?k_words ?a_count ?l_count ?c_count ?k_count ?a_joined ?l_joined ?c_joined ?k_joined ?a_l_take ?l_l_take ?c_l_take ?k_l_take ?a_l_signs ?l_l_signs ?c_l_signs ?k_l_signs ?a_l_word ?l_l_word ?c_l_word ?k_l_word ?a_l_words ?l_l_words ?c_l_words ?k_l_words ?a_l_count ?l_l_count ?c_l_count ?k_l_count ?a_l_error ?l_l_error ?c_l_error ?k_l_error ?a_l_spelled ?l_l_spelled ?c_l_spelled ?k_l_spelled ?a_law ?l_law ?c_law ?kcl ?v11 ?chd ?nT ?k_law ?pg_Loom ?hd_Loom ?po_Loom ?sa_Loom ?mk_Loom ?kc_Loom ?na_Loom_signs ?na_Loom_arcs ?kc_InvalidLoom ?e1_InvalidLoom ?e2_InvalidLoom ?e3_InvalidLoom ?e4_InvalidLoom ?e5_InvalidLoom ?e8_InvalidLoom ?ty_InvalidLoom ?xi_InvalidLoom ?tf_InvalidLoom ?sa_InvalidLoom ?no_InvalidLoom_part ?no_InvalidLoom_at ?kc_LimitExceeded ?e1_LimitExceeded ?e2_LimitExceeded ?e3_LimitExceeded ?e4_LimitExceeded ?e5_LimitExceeded ?e8_LimitExceeded ?ty_LimitExceeded ?xi_LimitExceeded ?tf_LimitExceeded ?sa_LimitExceeded ?no_LimitExceeded_limit ?kc_Unlike ?e1_Unlike ?e2_Unlike ?e3_Unlike ?e4_Unlike ?e5_Unlike ?e8_Unlike ?ty_Unlike ?in_Unlike ?kc_NotABook ?e1_NotABook ?e2_NotABook ?e3_NotABook ?e4_NotABook ?e5_NotABook ?e8_NotABook ?ty_NotABook ?in_NotABook ?kc_NotOneWay ?e1_NotOneWay ?e2_NotOneWay ?e3_NotOneWay ?e4_NotOneWay ?e5_NotOneWay ?e8_NotOneWay ?ty_NotOneWay ?in_NotOneWay ?e6 ?e7 ?ic_Loom ?ig ?it ?im_Loom ?eq_Loom ?fn_Loom_eq ?ne_Loom ?cc_Loom ?ty_Loom ?cl_InvalidLoom ?cl_LimitExceeded ?cl_Unlike ?cl_NotABook ?cl_NotOneWay ?su_Unlike_InvalidLoom ?su_Unlike_NotABook ?su_Unlike_Unlike ?su_LimitExceeded_InvalidLoom ?su_LimitExceeded_NotABook ?su_LimitExceeded_Unlike ?su_LimitExceeded_NotOneWay ?su_LimitExceeded_LimitExceeded ?nx_InvalidLoom_part ?nx_InvalidLoom_at ?nx_LimitExceeded_limit ?z_all ?z_bool ?z_enumerate ?z_int ?z_isinstance ?z_len ?z_list ?z_max ?z_range ?z_str ?z_sum ?z_tuple ?z_zip ?g_MOST_SIGNS ?g_LONGEST_WORD ?g_LONGEST_TEXT ?g_LAST_STATE ?g_MOST_ARCS
    (case a_CNotOneWay => k_is)
    (case a_CNotABook => k_is)
    (case a_CUnlike => k_is)
    (case a_CLoom => k_is)
    (case a_CLimitExceeded => k_is)
    (case a_CInvalidLoom => k_is)
    (case a_InvalidLoom_init => k_is)
    (case i_InvalidLoom_init => k_is)
    (case l_InvalidLoom_init => k_is)
    (case c_InvalidLoom_init => k_is)
    (case k_InvalidLoom_init => k_is)
    (case a_LimitExceeded_init => k_is)
    (case i_LimitExceeded_init => k_is)
    (case l_LimitExceeded_init => k_is)
    (case c_LimitExceeded_init => k_is)
    (case k_LimitExceeded_init => k_is)
    (case a_is_number => k_is)
    (case l_is_number => k_is)
    (case c_is_number => k_is)
    (case k_is_number => k_is)
    (case a_is_sequence => k_is)
    (case l_is_sequence => k_is)
    (case c_is_sequence => k_is)
    (case k_is_sequence => k_is)
    (case a_is_signs => k_is)
    (case l_is_signs => k_is)
    (case c_is_signs => k_is)
    (case k_is_signs => k_is)
    (case a_is_string_over => k_is)
    (case l_is_string_over => k_is)
    (case c_is_string_over => k_is)
    (case k_is_string_over => k_is)
    (case a_is_word => k_is)
    (case l_is_word => k_is)
    (case c_is_word => k_is)
    (case k_is_word => k_is)
    (case a_check_signs => k_is)
    (case l_check_signs => k_is)
    (case c_check_signs => k_is)
    (case k_check_signs => k_is)
    (case a_check_state => k_is)
    (case l_check_state => k_is)
    (case c_check_state => k_is)
    (case k_check_state => k_is)
    (case a_check_text => k_is)
    (case l_check_text => k_is)
    (case c_check_text => k_is)
    (case k_check_text => k_is)
    (case a_is_arc => k_is)
    (case l_is_arc => k_is)
    (case c_is_arc => k_is)
    (case k_is_arc => k_is)
    (case a_Loom_init => k_is)
    (case i_Loom_init => k_is)
    (case l_Loom_init => k_is)
    (case c_Loom_init => k_is)
    (case k_Loom_init => k_is)
    (case a_Loom_eq => k_is)
    (case l_Loom_eq => k_is)
    (case c_Loom_eq => k_is)
    (case k_Loom_eq => k_is)
    (case a_book => k_is)
    (case l_book => k_is)
    (case c_book => k_is)
    (case k_book => k_is)
    (case a_is_book => k_is)
    (case l_is_book => k_is)
    (case c_is_book => k_is)
    (case k_is_book => k_is)
    (case a_check_book => k_is)
    (case l_check_book => k_is)
    (case c_check_book => k_is)
    (case k_check_book => k_is)
    (case a_words => k_is)
    (case l_words => k_is)
    (case c_words => k_is)
    (case k_words => k_is)
    (case a_count => k_is)
    (case l_count => k_is)
    (case c_count => k_is)
    (case k_count => k_is)
    (case a_joined => k_is)
    (case l_joined => k_is)
    (case c_joined => k_is)
    (case k_joined => k_is)
    (case a_l_take => k_is)
    (case l_l_take => k_is)
    (case c_l_take => k_is)
    (case k_l_take => k_is)
    (case a_l_signs => k_is)
    (case l_l_signs => k_is)
    (case c_l_signs => k_is)
    (case k_l_signs => k_is)
    (case a_l_word => k_is)
    (case l_l_word => k_is)
    (case c_l_word => k_is)
    (case k_l_word => k_is)
    (case a_l_words => k_is)
    (case l_l_words => k_is)
    (case c_l_words => k_is)
    (case k_l_words => k_is)
    (case a_l_count => k_is)
    (case l_l_count => k_is)
    (case c_l_count => k_is)
    (case k_l_count => k_is)
    (case a_l_error => k_is)
    (case l_l_error => k_is)
    (case c_l_error => k_is)
    (case k_l_error => k_is)
    (case a_l_spelled => k_is)
    (case l_l_spelled => k_is)
    (case c_l_spelled => k_is)
    (case k_l_spelled => k_is)
    (case a_law => k_is)
    (case l_law => k_is)
    (case c_law => k_is)
    (case kcl => k_is)
    (case v11 => rfl)
    (case chd => (first | kernel_rfl | rfl | decide +kernel))
    (case nT => (first | kernel_rfl | rfl | decide +kernel))
    (case k_law => k_is)
    (case pg_Loom => k_is)
    (case hd_Loom => k_is)
    (case po_Loom => k_is)
    (case sa_Loom => k_is)
    (case mk_Loom => k_is)
    (case kc_Loom => k_is)
    (case na_Loom_signs => k_is)
    (case na_Loom_arcs => k_is)
    (case kc_InvalidLoom => k_is)
    (case e1_InvalidLoom => k_is)
    (case e2_InvalidLoom => k_is)
    (case e3_InvalidLoom => k_is)
    (case e4_InvalidLoom => k_is)
    (case e5_InvalidLoom => k_is)
    (case e8_InvalidLoom => k_is)
    (case ty_InvalidLoom => k_is)
    (case xi_InvalidLoom => k_is)
    (case tf_InvalidLoom => k_is)
    (case sa_InvalidLoom => k_is)
    (case no_InvalidLoom_part => k_is)
    (case no_InvalidLoom_at => k_is)
    (case kc_LimitExceeded => k_is)
    (case e1_LimitExceeded => k_is)
    (case e2_LimitExceeded => k_is)
    (case e3_LimitExceeded => k_is)
    (case e4_LimitExceeded => k_is)
    (case e5_LimitExceeded => k_is)
    (case e8_LimitExceeded => k_is)
    (case ty_LimitExceeded => k_is)
    (case xi_LimitExceeded => k_is)
    (case tf_LimitExceeded => k_is)
    (case sa_LimitExceeded => k_is)
    (case no_LimitExceeded_limit => k_is)
    (case kc_Unlike => k_is)
    (case e1_Unlike => k_is)
    (case e2_Unlike => k_is)
    (case e3_Unlike => k_is)
    (case e4_Unlike => k_is)
    (case e5_Unlike => k_is)
    (case e8_Unlike => k_is)
    (case ty_Unlike => k_is)
    (case in_Unlike => k_exc)
    (case kc_NotABook => k_is)
    (case e1_NotABook => k_is)
    (case e2_NotABook => k_is)
    (case e3_NotABook => k_is)
    (case e4_NotABook => k_is)
    (case e5_NotABook => k_is)
    (case e8_NotABook => k_is)
    (case ty_NotABook => k_is)
    (case in_NotABook => k_exc)
    (case kc_NotOneWay => k_is)
    (case e1_NotOneWay => k_is)
    (case e2_NotOneWay => k_is)
    (case e3_NotOneWay => k_is)
    (case e4_NotOneWay => k_is)
    (case e5_NotOneWay => k_is)
    (case e8_NotOneWay => k_is)
    (case ty_NotOneWay => k_is)
    (case in_NotOneWay => k_exc)
    (case e6 => k_is)
    (case e7 => k_is)
    (case ic_Loom => k_is)
    (case ig => k_is)
    (case it => k_is)
    (case im_Loom => k_is)
    (case eq_Loom => k_is)
    (case fn_Loom_eq => k_is)
    (case ne_Loom => k_is)
    (case cc_Loom => k_is)
    (case ty_Loom => k_is)
    (case cl_InvalidLoom => k_is)
    (case cl_LimitExceeded => k_is)
    (case cl_Unlike => k_is)
    (case cl_NotABook => k_is)
    (case cl_NotOneWay => k_is)
    (case su_Unlike_InvalidLoom => k_is)
    (case su_Unlike_NotABook => k_is)
    (case su_Unlike_Unlike => k_is)
    (case su_LimitExceeded_InvalidLoom => k_is)
    (case su_LimitExceeded_NotABook => k_is)
    (case su_LimitExceeded_Unlike => k_is)
    (case su_LimitExceeded_NotOneWay => k_is)
    (case su_LimitExceeded_LimitExceeded => k_is)
    (case nx_InvalidLoom_part => k_is)
    (case nx_InvalidLoom_at => k_is)
    (case nx_LimitExceeded_limit => k_is)
    (case z_all => k_is)
    (case z_bool => k_is)
    (case z_enumerate => k_is)
    (case z_int => k_is)
    (case z_isinstance => k_is)
    (case z_len => k_is)
    (case z_list => k_is)
    (case z_max => k_is)
    (case z_range => k_is)
    (case z_str => k_is)
    (case z_sum => k_is)
    (case z_tuple => k_is)
    (case z_zip => k_is)
    (case g_MOST_SIGNS => k_is)
    (case g_LONGEST_WORD => k_is)
    (case g_LONGEST_TEXT => k_is)
    (case g_LAST_STATE => k_is)
    (case g_MOST_ARCS => k_is)

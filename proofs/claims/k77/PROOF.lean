import PyProof.Rows.All
import Wide.All
import OpenK.AllK
import Wide.FinOn
import HandS.ForMost
import HandS.TryMany
import HandS.Walk
import KE.GoesEnum
import HandS.Defaults
import KE.KxIndex
import HandS.OwnEq
import HandS.More
import HandS.ForExc
import HandS.ExcValue
import HandS.ExcIs
import HandS.ExcInit
import HandS.IsInst
import KE.KExcInit
import KE.GoesMore
import HandS.StrMore
import HandS.Conv
import HandS.Codes
import HandS.Style
import HandS.FStr
import HandS.DictComp
import HandS.ExcField
import PyProof.P3Eq
import PySem.Challenge.RW_onewayread_k77_wrong_pages_of_looms
set_option Elab.async false
set_option linter.all false
set_option maxRecDepth 100000
set_option maxHeartbeats 4000000
/-! several except clauses, some of which name the error -/
namespace L2
open PySem PySem.Spec PyProof.Rows
/-- an error at g that has landed in the frame of X -/
def Lnd (X : Cx) (pins : List (Addr × Obj)) (τ : St) (G : Hp) (g : Addr) (cls : Value) (d : Option Addr) (t : Shared) : Prop :=
  ∃ (B : Heap) (t0 : Shared), Inv X pins τ G t0 ∧ (∀ b o, t0.heap.get? b = some o → b ∉ frs X.stack → B.get? b = some o) ∧ t0.heap.UpToSlots t.heap ∧
    HandSPX.FlyingZ B (X.env :: X.outer) g (Zc cls d) t.heap ∧ G g = none ∧ t.os = t0.os ∧ AllBare t.gens ∧ g ≠ X.env.locals ∧ g ∉ X.fs
section
variable {X : Cx} {pins : List (Addr × Obj)} {τ : St} {G : Hp} {g : Addr} {cls : Value} {d : Option Addr} {t : Shared}
theorem Lnd.inv (l : Lnd X pins τ G g cls d t) : Inv X pins τ G t := by
  obtain ⟨B, t0, J, n, u, f, _, o, y, _⟩ := l
  exact J.landed n f.1 u o y
theorem Lnd.as_suite (l : Lnd X pins τ G g cls d t) : ∃ oe, Zc cls d oe ∧ (∃ vs, oe.data = .fields vs) ∧ t.heap.get? g = some oe ∧ Inv (X.suite g ((g, oe) :: (X.pn ++ pins))) [] τ G t := by
  have J := l.inv
  obtain ⟨B, t0, _, _, _, f, z, _, _, n1, n2⟩ := l
  obtain ⟨oe, vs, h1, h2, h3⟩ := f.there
  exact ⟨oe, h2, ⟨vs, h3⟩, h1, J.suite h1 h3 z n1 n2⟩
theorem Lnd.again {M : Model} {A : Around} {E : Value → Shared → Prop} {Q : Unit → Shared → Prop} (l : Lnd X pins τ G g cls d t) (q : ∀ t', Lnd X pins τ G g cls d t' → Q () t') : wpAny M A (setFlight (.ref g) none) Q E t := by
  obtain ⟨B, t0, J, n, u, f, z, o, y, n1, n2⟩ := l
  exact HandSPX.lands_againZ f fun h' f' u' => q _ ⟨B, t0, J, n, u.trans u', f', z, o, y, n1, n2⟩
/-- what the clauses wish, one behind the other; a slot where the clause names the error -/
def wCls (K : PySem.W.Frag) (Wout : WX) (D : Ends) : List (Value × Option Nat × (Addr → Value → Option Addr → TS)) → WX
  | [] => Wout
  | (c, none, ts) :: r => fun cls d τ G => ∃ b, PySem.W.exmOne K cls c = some b ∧ (b = true → ∀ g, G g = none → ts g cls d D τ G) ∧ (b = false → wCls K Wout D r cls d τ G)
  | (c, some i, ts) :: r => fun cls d τ G => ∃ b, PySem.W.exmOne K cls c = some b ∧
      (b = true → ∀ g, G g = none → ts g cls d { nx := fun τ' G' => D.nx (τ'.set i none) G', rt := D.rt, bk := fun τ' G' => D.bk (τ'.set i none) G', ct := fun τ' G' => D.ct (τ'.set i none) G' } (τ.set i (some (.ref g))) G) ∧
      (b = false → wCls K Wout D r cls d τ G)
inductive ClsOk (X : Cx) : List ExceptHandler → List (Value × Option Nat × (Addr → Value → Option Addr → TS)) → Prop
  | nil : ClsOk X [] []
  | plain {x : Str} {c : Value} {ts : Addr → Value → Option Addr → TS} {b : Stmt} {bs : List Stmt} {np hp : Pos} {hds : List ExceptHandler} {l : List (Value × Option Nat × (Addr → Value → Option Addr → TS))} (hc : Names X x c)
      (hsu : ∀ (g : Addr) (oe : Obj) (cls : Value) (d : Option Addr) (pn : List (Addr × Obj)), Zc cls d oe → (∃ vs, oe.data = .fields vs) → PSs (X.suite g ((g, oe) :: pn)) (b :: bs) (ts g cls d)) (r : ClsOk X hds l) :
      ClsOk X (.ExceptHandler (some (.Name x np)) none (b :: bs) hp :: hds) ((c, none, ts) :: l)
  | named {x n : Str} {i : Nat} {c : Value} {ts : Addr → Value → Option Addr → TS} {b : Stmt} {bs : List Stmt} {np hp : Pos} {hds : List ExceptHandler} {l : List (Value × Option Nat × (Addr → Value → Option Addr → TS))} (hc : Names X x c)
      (hN : X.N.Nodup) (hi : X.N[i]? = some n) (hk : X.env.kindOf n = some .local)
      (hsu : ∀ (g : Addr) (oe : Obj) (cls : Value) (d : Option Addr) (pn : List (Addr × Obj)), Zc cls d oe → (∃ vs, oe.data = .fields vs) → PSs (X.suite g ((g, oe) :: pn)) (b :: bs) (ts g cls d)) (r : ClsOk X hds l) :
      ClsOk X (.ExceptHandler (some (.Name x np)) (some n) (b :: bs) hp :: hds) ((c, some i, ts) :: l)
/-- the test of a clause -/
theorem Lnd.test {x : Str} {c : Value} {np hp : Pos} {b : Bool} {R : Result → Shared → Prop} (l : Lnd X pins τ G g cls d t) (hc : Names X x c) (e : PySem.W.exmOne X.K cls c = some b) (q : R (.ok (if b then .brk else .next)) t) :
    codeAny (model X.prog X.w) (X.A.mark (some (.ref g))) (.handlers (.ref g) [.ExceptHandler (some (.Name x np)) none [] hp] X.env) R t := by
  obtain ⟨oe, z, hv, he, S⟩ := l.as_suite
  have ty : PySem.W.Looks (model X.prog X.w) t.heap (typeOf (.ref g)) cls := fun A1 Q1 E1 s1 k1 q1 => wpAny_typeOf_ref (k1 _ _ he) (by rw [z.1]; exact q1)
  refine codeAny_handlers_test ?_
  have look := PySem.W.exm_one (M := model X.prog X.w) l.inv.kIn ty e
  obtain ⟨h1, h2, h3 | ⟨h3, h4, h5⟩⟩ := hc
  · exact ld_glob (X := X.suite g ((g, oe) :: (X.pn ++ pins))) S h1 h3 (look.here (by exact q)) h2
  · exact ld_blt (X := X.suite g ((g, oe) :: (X.pn ++ pins))) S h1 h3 h4 (look.here (by exact q)) h5 h2
/-- the clauses, gone through -/
theorem Lnd.through {Wout : WX} {D : Ends} (hst : X.stack = X.env :: X.outer) (hfr : X.env.frame = some X.env.locals) (tk : Takes X Wout) (ok : X.Ok) {hds : List ExceptHandler} {cl : List (Value × Option Nat × (Addr → Value → Option Addr → TS))} (hk : ClsOk X hds cl) :
    ∀ {t : Shared}, Lnd X pins τ G g cls d t → wCls X.K Wout D cl cls d τ G → wpAny (model X.prog X.w) X.A (handleBy (.ref g) X.env hds) (SP X pins D) X.xe t := by
  induction hk with
  | nil =>
    intro t l wish
    refine wpAny_handleBy_nil ?_
    obtain ⟨B, t0, J, n, u, f, z, o, y, _⟩ := l
    obtain ⟨_, _, _, oe, vs, trb, _, _, hob, _, hda, htr, _⟩ := id f
    have out : wpAny (model X.prog X.w) X.A (setFlight (.ref g) X.env.frame) (fun _ t4 => wpAny (model X.prog X.w) X.A (throw (.ref g) : Sem Flow) (SP X pins D) X.xe t4) X.xe t := by
      rw [hfr]
      exact HandSPX.setFlight_upZ f fun h4 held u4 => wpAny_throw (tk _ _ ⟨g, B, t0, pins, τ, G, cls, d, rfl, J, n, u.trans u4, .inr (.inr (by rw [hst]; exact held)), z, o, y, wish⟩)
    unfold PySem.passOn
    refine wpAny_bind (wpAny_field hob hda htr ?_)
    rw [if_neg (by simp : ¬ ((Value.ref trb == Value.none) = true))]
    first
      | exact wpAny_bind (wpAny_pure (wpAny_bind out))
      | exact wpAny_bind out
  | @plain x c ts b bs np hp hds2 l2 hc hsu r ih =>
    intro t l wish
    obtain ⟨k, e, yes, no⟩ := wish
    refine wpAny_handleBy_cons (l.test hc e ?_) (by intro q; cases q)
    cases k with
    | false => exact ih l (no rfl)
    | true =>
      refine codeAny_handlers_suite (l.again fun t' l' => ?_)
      obtain ⟨oe, z, hv, _, S⟩ := l'.as_suite
      have na : G g = none := by obtain ⟨_, _, _, _, _, _, q, _⟩ := l'; exact q
      refine wpAny_mono ((hsu g oe cls d (X.pn ++ pins) z hv).run [] _ _ G _ S (yes rfl g na)) (fun fl t6 hsp => ?_) (fun _ _ q => q.elim)
      match fl, hsp with
      | .next, ⟨_, _, S6, q6⟩ => exact ⟨_, _, S6.unsuite ok, q6⟩
      | .brk, ⟨_, _, S6, q6⟩ => exact ⟨_, _, S6.unsuite ok, q6⟩
      | .cont, ⟨_, _, S6, q6⟩ => exact ⟨_, _, S6.unsuite ok, q6⟩
      | .ret _, ⟨_, _, _, S6, r6, q6⟩ => exact ⟨_, _, _, S6.unsuite ok, r6, q6⟩
  | @named x n i c ts b bs np hp hds2 l2 hc hN hi hkd hsu r ih =>
    intro t l wish
    obtain ⟨k, e, yes, no⟩ := wish
    refine wpAny_handleBy_cons (l.test hc e ?_) (by intro q; cases q)
    cases k with
    | false => exact ih l (no rfl)
    | true =>
      refine codeAny_handlers_suite_as (l.again fun t' l' => ?_)
      obtain ⟨oe, z, hv, _, S⟩ := l'.as_suite
      have na : G g = none := by obtain ⟨_, _, _, _, _, _, q, _⟩ := l'; exact q
      refine store_ok (X := X.suite g ((g, oe) :: (X.pn ++ pins))) (v := .ref g) S hN hi (.inl hkd) rfl (fun t5 S5 => ?_) (.inr hkd)
      refine wpAny_mono ((hsu g oe cls d (X.pn ++ pins) z hv).run [] t5 _ G _ S5 (yes rfl g na)) (fun fl t6 hsp => ?_) (fun _ _ q => q.elim)
      match fl, hsp with
      | .next, ⟨_, _, S6, q6⟩ => exact gone_ok (S6.unsuite ok) hN hi hkd fun t7 J7 => ⟨_, _, J7, q6⟩
      | .brk, ⟨_, _, S6, q6⟩ => exact gone_ok (S6.unsuite ok) hN hi hkd fun t7 J7 => ⟨_, _, J7, q6⟩
      | .cont, ⟨_, _, S6, q6⟩ => exact gone_ok (S6.unsuite ok) hN hi hkd fun t7 J7 => ⟨_, _, J7, q6⟩
      | .ret _, ⟨_, _, _, S6, r6, q6⟩ => exact gone_ok (S6.unsuite ok) hN hi hkd fun t7 J7 => ⟨_, _, _, J7, r6, q6⟩
/-- try: body / except X: .. / except Y as e: .. -/
theorem ps_try_cls {body : List Stmt} {h₀ : ExceptHandler} {hds : List ExceptHandler} {pos : Pos} {tb : WX → TS} {Wout : WX} {cl : List (Value × Option Nat × (Addr → Value → Option Addr → TS))} (hst : X.stack = X.env :: X.outer) (hfr : X.env.frame = some X.env.locals) (tk : Takes X Wout)
    (hb : ∀ (W : WX) (pn : List (Addr × Obj)) (xe : Value → Shared → Prop), Takes (X.tr pn xe) W → PassesOwn (model X.prog X.w) X.A X.env xe → PSs (X.tr pn xe) body (tb W)) (hh : ClsOk X (h₀ :: hds) cl) :
    PS X (.Try body (h₀ :: hds) [] [] pos) (fun D σ H => tb (wCls X.K Wout D cl) D σ H) := by
  refine ⟨fun ps s0 σ0 H0 D I0 wish => ?_⟩
  have ok := I0.ok
  have frs1 : X.A.frames = some (X.env :: X.outer) := ok.frames.trans (congrArg some hst)
  let caught : Value → Shared → Prop := fun er ta => wpAny (model X.prog X.w) X.A (noteFrame er X.env) (fun _ tb' => wpAny (model X.prog X.w) X.A (setFlight er none) (fun _ tc => wpAny (model X.prog X.w) X.A (handleBy er X.env (h₀ :: hds)) (SP X ps D) X.xe tc) X.xe tb') X.xe ta
  have land : Takes (X.tr (X.pn ++ ps) caught) (wCls X.K Wout D cl) := by
    rintro er ta ⟨g, B, t0, _, τ, G, cls, d, rfl, J0, n, u, sky, na, o, y, q⟩
    have J := J0.ofTry ok
    refine Sky.land (B := B) (a := g) (Z := Zc cls d) (L := X.env.locals) (outer := X.outer) Zc.steady frs1 hfr (by rw [← hst]; exact sky) fun h3 f3 u3 => ?_
    obtain ⟨oe, vs, e1, e2, e3⟩ := f3.there
    have away : g ∉ frs (X.env :: X.outer) := fun hm => by
      obtain ⟨_, o2, q1, q2⟩ := f3.2.2.1.mem hm
      rw [e1] at q1
      cases q1
      exact q2 _ e3
    refine Lnd.through hst hfr tk ok hh ⟨B, t0, J, n, u.trans u3, f3, na, o, y, fun z => ?_, fun hm => ?_⟩ q
    · exact away (List.mem_filterMap.mpr ⟨X.env, List.mem_cons_self, by rw [hfr, z]⟩)
    · obtain ⟨en, m1, m2⟩ := List.mem_filterMap.mp hm
      exact away (List.mem_filterMap.mpr ⟨en, List.mem_cons_of_mem _ m1, m2⟩)
  refine wpAny_Try_except (wpAny_mono ((hb _ (X.pn ++ ps) caught land PassesOwn.looking).run [] s0 σ0 H0 D (I0.toTry _) wish) (fun fl t1 z => ?_) fun _ _ z => z)
  match fl, z with
  | .next, ⟨_, _, J1, q1⟩ => exact wpAny_execs_nil ⟨_, _, J1.ofTry ok, q1⟩
  | .brk, ⟨_, _, J1, q1⟩ => exact ⟨_, _, J1.ofTry ok, q1⟩
  | .cont, ⟨_, _, J1, q1⟩ => exact ⟨_, _, J1.ofTry ok, q1⟩
  | .ret _, ⟨_, _, _, J1, r1, q1⟩ => exact ⟨_, _, _, J1.ofTry ok, r1, q1⟩
end
end L2

set_option Elab.async false
set_option linter.all false
set_option maxRecDepth 100000
set_option maxHeartbeats 4000000
/-! enumerate of a tuple -/
namespace PySem
open Sem (wp)
open PySem.Spec PyProof.Rows
theorem meets_enumerate_newB1 {v : Value} {o : Obj} {H : Heap → Prop} (B : Begins v o H) :
    Meets (Builtin.«enumerate.__new__» ⟨[.type "enumerate", v], []⟩) (fun _ R s => H s.heap ∧
      R (.ok (.ret (.ref (s.heap.push o).objs.size))) { s with heap := (s.heap.push o).push { cls := .type "enumerate", data := .fields #[.none, .bool false, .ref s.heap.objs.size, rawInt 0, .none, .none] } }) :=
  .of_wp fun prog w A R s h => by
    obtain ⟨hp, g, d, tk, os⟩ := s; obtain ⟨h1, h⟩ := h
    have hsub := sub_enumerate
    have q1 : ∀ {A' : Around} {E : Value → Shared → Prop} {Q : Value → Shared → Prop}, Q (.ref hp.objs.size) ⟨hp.push o, g, d, tk, os⟩ → wpAny (model prog w) A' (pyIter v) Q E ⟨hp, g, d, tk, os⟩ :=
      fun q => B.iter prog w _ _ ⟨hp, g, d, tk, os⟩ _ h1 q
    wp_walk using q1
    refine wpAny_stack_any fun st => wpAny_pure ?_
    split
    · rename_i c _ _ _ _ _
      cases (c == Value.type "enumerate")
      · wp_walk using q1
        exact ⟨_, rfl, h⟩
      · wp_walk using q1
        exact ⟨_, rfl, h⟩
    · wp_walk using q1
      exact ⟨_, rfl, h⟩
section
variable {prog : Program} {w : World} {A : Around} {E : Value → Shared → Prop} {s : Shared}
theorem enum_begins1 {v : Value} {o : Obj} {H : Heap → Prop} {Q : Value → Shared → Prop} (B : Begins v o H) (h1 : H s.heap)
    (h : ∀ h', IsEnum h' (s.heap.objs.size + 1) s.heap.objs.size 0 .none → h'.get? s.heap.objs.size = some o → h'.objs.size = s.heap.objs.size + 2 →
      (∀ b o, s.heap.get? b = some o → h'.get? b = some o) → Q (.ref (s.heap.objs.size + 1)) { s with heap := h' }) :
    wpAny (model prog w) A (call (.type "enumerate") [v]) Q E s := by
  refine callType_new F.called_enumerate (by decide) (F.typeCall_enumerate_1 _) (F.newCall_enumerate_1 _) (fun obj => F.args_object_init_2 obj _) F.entry_enumerate_new
    (meets_enumerate_newB1 B) ⟨h1, ?_⟩
  have hz : (s.heap.push o).objs.size = s.heap.objs.size + 1 := Heap.size_push ..
  show _ ∧ _
  rw [hz]
  have he : IsEnum ((s.heap.push o).push { cls := .type "enumerate", data := .fields #[.none, .bool false, .ref s.heap.objs.size, rawInt 0, .none, .none] }) (s.heap.objs.size + 1) s.heap.objs.size 0 .none := by
    have := Heap.get?_push_size (s.heap.push o) (o := { cls := .type "enumerate", data := .fields #[.none, .bool false, .ref s.heap.objs.size, rawInt 0, .none, .none] }) rfl
    rw [hz] at this; exact this
  refine ⟨⟨_, he, rfl⟩, h _ he (Heap.get?_push_of_some _ (Heap.get?_push_size _ B.free)) (by rw [Heap.size_push, hz]) fun b o x => Heap.get?_push_of_some _ (Heap.get?_push_of_some _ x)⟩
end
end PySem
namespace L2
open PySem PySem.Spec PyProof.Rows
/-- the tuple at a, each item in a new pair -/
def IteT (K : PySem.W.Frag) (a : Addr) : It :=
  ⟨fun i H => ∃ (xs : List V) (x : V), SqT K H a xs ∧ xs[i]? = some x, fun i H v H' => ∃ T x, v = .ref T ∧ H T = none ∧ H' = upd H T (.tup [.int (i : Nat), x]) ∧ ∀ xs, SqT K H a xs → xs[i]? = some x, fun i H => ∃ xs : List V, SqT K H a xs ∧ xs.length = i⟩
theorem turn_enumT {P : Program} {w : World} {K : PySem.W.Frag} {elts : List Expr} {kk : Nat} {tpos : Pos} (a e it : Addr) (hn : e ≠ it) (hae : a ≠ e) (hai : a ≠ it) :
    Turn P w K (.Tuple elts kk tpos) (IteT K a) [e, it] e (fun i h => (∃ old, IsEnum h e it ((i : Nat) : Int) old) ∧ h.IsTupleIter it a i) where
  mem := by simp
  obj := fun i h st b hb => by
    obtain ⟨⟨old, he⟩, ⟨o, ho, hc, hd⟩⟩ := st
    have e' : b = e ∨ b = it := by simpa using hb
    rcases e' with z | z
    · rw [z]; exact ⟨_, he, fun v q => nomatch q⟩
    · rw [z]; exact ⟨o, ho, fun v q => by rw [hd] at q; cases q⟩
  keep := fun i h h' st k => by
    obtain ⟨⟨old, he⟩, ⟨o, ho, r⟩⟩ := st
    exact ⟨⟨old, k e (by simp) _ he⟩, ⟨o, k it (by simp) _ ho, r⟩⟩
  item := by
    intro X hP hw hK hc i pins s σ H E I hf st hg
    subst hP hw hK
    obtain ⟨⟨old, he⟩, hit⟩ := st
    obtain ⟨xs, x, hq, hx⟩ := hg
    obtain ⟨its, rv, p, hz⟩ := I.tuple hq
    obtain ⟨u, hu, ru⟩ := rv.get hx
    have hel : e < s.heap.objs.size := Heap.lt_size he
    have hil : it < s.heap.objs.size := by obtain ⟨_, q, _⟩ := hit; exact Heap.lt_size q
    have hlt : i < its.toArray.size := by
      have q := (List.getElem?_eq_some_iff.mp hu).1
      simpa using q
    refine wpAny_pyNext_enum_itemD (Draws.tuple (A := X.A.in1) (I.ok.hd hc) it a hai its.toArray) he ⟨hit, p⟩ hlt hn (by simp [hn]; exact fun z => hae z.symm) fun y h' tk hy ho hst hT hsz hk => ?_
    have hyu : y = u := by
      have q : its.toArray[i]? = some y := hy
      have q2 : its.toArray[i]? = some u := by simpa using hu
      rw [q] at q2
      exact Option.some.inj q2
    subst hyu
    refine ⟨_, rfl, wpAny_letOwnedTupleGo_enum (s := { s with heap := h', toks := tk + 1 }) ho fun h'' he' sb => ?_⟩
    have hT2 : h''.get? s.heap.objs.size = some { cls := .type "tuple", data := .seq #[.int i tk, y] } := (sb.2 _ (Nat.ne_of_gt hel)).trans hT
    have new : ObjOk X.prog X.w (upd H s.heap.objs.size (.tup [.int (i : Nat), x])) h'' s.heap.objs.size (.tup [.int (i : Nat), x]) :=
      ⟨by show 2 ≤ sizeLine; decide, [.int i tk, y], .cons ⟨_, rfl⟩ (.cons ru .nil), ⟨_, hT2, rfl, _, rfl⟩⟩
    have I1 : Inv X pins σ (upd H s.heap.objs.size (.tup [.int (i : Nat), x])) { s with heap := h'', toks := tk + 1 } :=
      I.turnedNew (ch := [e, it]) (fun b ob hb q => (sb.2 b (fun z => hb (by simp [z]))).trans (hk b ob (fun z => hb (by simp [z])) (fun z => hb (by simp [z])) q)) hf (Nat.le_refl _) new
    obtain ⟨oi, hoi, ri⟩ := hst.1
    refine ⟨.ref s.heap.objs.size, _, I1, rfl, ⟨_, x, rfl, I.hok.fresh (Nat.le_refl _), rfl, fun ys hy => by rw [I.tuple_inj hy hq]; exact hx⟩, ⟨⟨y, ?_⟩, ⟨oi, (sb.2 it (Ne.symm hn)).trans hoi, ri⟩⟩, fun b hb => ?_⟩
    · have e1 : ((i + 1 : Nat) : Int) = (i : Int) + 1 := by omega
      rw [e1]; exact he'
    · have hb' : b < s.heap.objs.size := by
        have e' : b = e ∨ b = it := by simpa using hb
        rcases e' with z | z
        · rw [z]; exact hel
        · rw [z]; exact hil
      rw [upd_ne (Nat.ne_of_lt hb')]
      exact (hf b hb).1
  done := by
    intro X hP hw hK hc i pins s σ H E I hf st hg
    subst hP hw hK
    obtain ⟨⟨old, he⟩, hit⟩ := st
    obtain ⟨xs, hq, hx⟩ := hg
    obtain ⟨its, rv, p, hz⟩ := I.tuple hq
    obtain ⟨f0, f1, f2, f3, f4, f5⟩ := hf it (by simp)
    have hl := rv.length
    have hn' : i = its.toArray.size := by simp; omega
    subst hn'
    exact wpAny_pyNext_enum_endD (Draws.tuple (A := X.A.in1) (I.ok.hd hc) it a hai its.toArray) he ⟨hit, p⟩ fun h' eb => ⟨rfl, I.turned (t' := s.toks) (fun b o hb q => eb b o hb q) f0 f1 f3 f4 f5⟩
  self := fun A i s Q E st h => let ⟨⟨_, he⟩, _⟩ := st; wpAny_pyIter_enum he h
def iEnumT (K : PySem.W.Frag) (ta : TA) : TI := fun σ H R => ta σ H fun vs H1 => ∃ a xs, vs = [.ref a] ∧ SqT K H1 a xs ∧ R (IteT K a) H1
theorem pi_enumT {X : Cx} {e : Expr} {ta : TA} {p pos tpos : Pos} {elts : List Expr} {kk : Nat} (hg : Gl X "enumerate") (hm : X.mg "enumerate" = none) (ha : PA X [e] ta) (hs : starEach [e] X.env = [(false, eval e X.env)] := by rfl) :
    PI X (.Tuple elts kk tpos) (.Call (.Name "enumerate" p) [e] [] pos) (iEnumT X.K ta) := by
  refine ⟨fun pins s σ H R I h => ?_⟩
  refine Call_ (ld_blt I hg hm boot_enumerate (PyProof.Rows.callWith_type1 (thn (ha.run pos pins s σ H _ I h) fun us s1 ⟨vs, H1, I1, r1, q1⟩ => ?_) hs rfl))
  obtain ⟨a, xs, ex, hq, q⟩ := q1
  subst ex
  cases r1 with
  | cons r rr =>
    cases rr
    cases r
    obtain ⟨its, rv, p', hz⟩ := I1.tuple hq
    have hal : a < s1.heap.objs.size := by obtain ⟨_, q, _⟩ := p'; exact Heap.lt_size q
    refine enum_begins1 (begins_tuple a its.toArray) (show s1.heap.IsTuple a its.toArray from p') fun h' he hit hsz hk => wpAny_pyIter_enum he ?_
    have I2 : Inv X pins σ H1 { s1 with heap := h' } := I1.kept (t' := s1.toks) hk
    refine ⟨s1.heap.objs.size + 1, [s1.heap.objs.size + 1, s1.heap.objs.size], _, _, H1, rfl, I2, turn_enumT a (s1.heap.objs.size + 1) s1.heap.objs.size (Nat.succ_ne_self _) (Nat.ne_of_lt (Nat.lt_succ_of_lt hal)) (Nat.ne_of_lt hal), ⟨⟨.none, he⟩, ⟨_, hit, rfl, rfl⟩⟩, fun b hb => ?_, q⟩
    have e' : b = s1.heap.objs.size + 1 ∨ b = s1.heap.objs.size := by simpa using hb
    have hle : s1.heap.objs.size ≤ b := by
      rcases e' with z | z
      · rw [z]; exact Nat.le_add_right _ _
      · rw [z]; exact Nat.le_refl _
    exact I1.fpOk hle (I1.hok.fresh hle)
theorem walk_enumT {K : PySem.W.Frag} {a : Addr} {xs : List V} : Walk (IteT K a) xs.length (fun H => SqT K H a xs) (YPair (fun i => some (.int (i : Nat))) (fun i => xs[i]?)) :=
by
  refine ⟨fun i _ hi q => ⟨xs, xs[i], q, by simp [hi]⟩, fun _ q => ⟨xs, q, rfl⟩, fun i H v H' _ q y => ?_⟩
  obtain ⟨T, x, h1, h2, h3, h4⟩ := y
  exact ⟨T, .int (i : Nat), x, h1, h2, h3, rfl, h4 xs q⟩
end L2

set_option Elab.async false
set_option linter.all false
set_option maxRecDepth 100000
set_option maxHeartbeats 4000000
/-! a call by keywords alone; a text times a number -/
namespace L2
open PySem PySem.Spec PyProof.Rows
theorem Fun.kbinds {K : PySem.W.Frag} {x qual : Str} {st : Stmt} {f : Addr} {fd : FuncData} {ps ks : List Str} (F : Fun K x qual st f fd) (g : {α : Type} → List α → List α)
    (h : ∀ (kV doc pm : Value) (an : Option Addr) (cdv ct : Value) (ws : List Value), ws.length = ks.length → bindArgs (PySem.W.fnOf x qual (defArgs st) (defBody st) (defScope st) .none kV doc pm an cdv ct) ⟨[], ks.zip ws⟩ = pure (ps.zip (g ws)))
    (hrel : ∀ {zs : List V} {ws : List Value}, Vals zs ws → Vals (g zs) (g ws)) : KBn K fd ps 0 ks (fun _ ws => g ws) (fun _ zs => g zs) := by
  obtain ⟨oc, od, kV, doc, pm, an, cdv, ct, osl, rfl, lk, hcd⟩ := F.ex
  refine ⟨fun s us ws _ h0 hl => ?_, fun _ r => hrel r⟩
  cases us with
  | nil => exact BindsTo.of_eq (h kV doc pm an cdv ct ws hl)
  | cons a r => cases h0
section
variable {X : Cx} {CX : CXT} {k : Nat} {f : Addr} {fd : FuncData} {ps ks : List Str} {sp : Sp} {E : XK} {x : Str} {p pos : Pos} {kws : List Keyword} {tk : TA} {g : List Value → List Value → List Value} {gV : List V → List V → List V}
theorem pe_callN0 (F : FnOk X.prog X.w X.K X.mg X.base CX k f fd ps sp) (hr : Room k X.A) (hg : Gl X x) (hm : X.mg x = some (.ref f)) (hk : PySem.W.keepIn X.K (.ref f) = true) (hb : KBn X.K fd ps 0 ks g gV) (hx : Passes CX X E)
    (hkw : PK X kws tk) (hall : (backToKw pos (keywordEach kws X.env)).all (·.1.isSome) = true := by rfl) (hks : (backToKw pos (keywordEach kws X.env)).filterMap (·.1) = ks := by rfl)
    (hdb : (x == ("__debug__" : Str)) = false := by decide)
    (hpl : ((backTo pos (starEach [] X.env)).any (·.1) || (backToKw pos (keywordEach kws X.env)).any (·.1.isNone)) = false := by rfl) :
    PE X (.Call (.Name x p) [] kws pos) (tCallN 0 ks.length sp gV E tNil tk) := by
  refine ⟨fun pins s σ H Q I h => ?_⟩
  refine wpAny_Call_Name_kw (ld_glob I hg hm ?_ hdb)
  refine PySem.W.callWith_KW0 (h₀ := X.base) I.ok.mod.kin hk hall ?_ hpl
  refine thn (hkw.run pos pins s σ H _ I h) fun ws s2 ⟨zs, H2, I2, rz, l1, l2, q2⟩ => ⟨I2.kIn, ?_⟩
  rw [hks]
  exact run_fnN (us := []) (vs := []) F hr hb hx I2 .nil rz rfl l2 q2
theorem op_mul_str : OpR X (binaryOp .Mult) (fun x y H Q => ∃ z n, x = .str z ∧ y = .int n ∧ z.length ≤ 16 ∧ -(2 ^ 63 : Int) ≤ n ∧ n ≤ 1048576 ∧ Q (.str (Txt.mul z n)) H) := by
  intro pins s σ H x y v u Q I rx ry h
  obtain ⟨z, n, rfl, rfl, h1, h2, h3, q⟩ := h
  obtain ⟨t, rfl⟩ := rx
  obtain ⟨t', rfl⟩ := ry
  exact SB.mul (mulOk_of 16 1048576 h1 h3 h2 (by decide) (by decide)) fun t' tk => ⟨.str _, H, I.tok _, ⟨_, rfl⟩, q⟩
end
end L2

set_option Elab.async false
set_option linter.all false
set_option maxRecDepth 100000
set_option maxHeartbeats 4000000
/-! x != y of two objects of a class with an own __eq__ and no __ne__ -/
namespace HNB
open PySem PySem.Spec PyProof.Rows PySem.SeqAt
section
variable {M : Model} {prog : Program} {w : World} {A : Around} {E : Value → Shared → Prop} {s : Shared} {K : PySem.W.Frag} {x C f : Addr} {ox : Obj} {od : Option Obj} {b tb : Value} {rb : Bool}
theorem ifBound_objNe {args : List Value} {Q : Option Value → Shared → Prop} (X : K.In s.heap) (I : PySem.W.InstAt s.heap x ox C od) (hs : PySem.W.findIn K (.ref C) "__ne__" = some (some (.builtin "object.__ne__")))
    (h : wpAny M A (call (.builtin "object.__ne__") (.ref x :: args)) (fun v => Q (some v)) E s) : wpAny M A (callSpecialIfBound? (.ref x) "__ne__" args) Q E s := by
  simp only [callSpecialIfBound?, bindSpecialIfBound?]
  refine wpAny_holding (wpAny_bind (wpAny_bind (wpAny_bind (I.type.here ((PySem.W.looks_findIn X hs).here ?_)))))
  refine wpAny_bind (wpAny_askSetting (wpAny_ite ?_))
  have fin : wpAny M A (call (.builtin "object.__ne__") ([.ref x] ++ args) >>= fun v => pure (some v)) Q E s := wpAny_bind (wpAny_mono h (fun v s' h' => wpAny_pure h') fun _ _ h' => h')
  split
  · exact wpAny_bind (wpAny_of_eq (F.cmp_object.ne.bind _) (wpAny_pure (by exact fin)))
  · exact wpAny_tryCatch (wpAny_bind (wpAny_of_eq (F.cmp_object.ne.bind _) (wpAny_pure (by exact fin))))
/-- what object.__ne__ does, where the class's own __eq__ says True -/
theorem entry_ne {R : Fin → Shared → Prop} (hu : A.units < cLine) (X : K.In s.heap) (I : PySem.W.InstAt s.heap x ox C od) (hs : PySem.W.findIn K (.ref C) "__eq__" = some (some (.ref f))) (hf : PySem.W.isFn K (.ref f) = true)
    (h : wpAny M A (call (.ref f) [.ref x, b]) (fun v s' => v = .bool rb ∧ R (.done (.ret (.bool (!rb)))) s') E s) : wpAny M A (Builtin.«object.__ne__» ⟨[.ref x, b], []⟩) R E s := by
  unfold Builtin.«object.__ne__»
  have q : wpAny M A (callSpecialIfBound? (.ref x) "__eq__" [b]) (fun r s' => r = some (.bool rb) ∧ R (.done (.ret (.bool (!rb)))) s') E s :=
    PySem.W.ifBound_K X I hs hf (wpAny_mono h (fun v s' ⟨e, z⟩ => ⟨by rw [e], z⟩) fun _ _ z => z)
  repeat (first | with_reducible refine wpAny_cRoomFor hu ?_ | with_reducible refine wpAny_bind (wpAny_mono q (fun r s' ⟨e, z⟩ => ?_) fun _ _ z => z) | wp_step)
  subst e
  refine wpAny_bind (wpAny_truthy_bool ?_)
  exact wpAny_pure z
theorem call_objNe {Q : Value → Shared → Prop} (hu : A.in1.units < cLine) (X : K.In s.heap) (I : PySem.W.InstAt s.heap x ox C od) (hm : PySem.W.mroIn K C (.type "object") = some true) (hs : PySem.W.findIn K (.ref C) "__eq__" = some (some (.ref f))) (hf : PySem.W.isFn K (.ref f) = true)
    (h : wpAny (model prog w) A.in1 (call (.ref f) [.ref x, b]) (fun v s' => v = .bool rb ∧ Q (.bool (!rb)) s') E s) :
    wpAny (model prog w) A (call (.builtin "object.__ne__") [.ref x, b]) Q E s :=
  wpAny_call (codeAny_call_builtin F.cmp_object.ne.plain F.cmpEntry_ne (PySem.W.check_slot F.cmpKind_ne F.cmpSplit_ne (I.type.andThen (PySem.W.looks_mroIn X hm)) (F.cmpArgs_ne _ _) (entry_ne (rb := rb) hu X I hs hf h)))
theorem rc_ne {L : Addr} {h₀ : Heap} {m : Str → Option Value} {Q : Value → Shared → Prop} (hu : A.units < cLine) (hu1 : A.in1.units < cLine) (F : Fr h₀ L s.heap m) (X₀ : K.In h₀) (I : PySem.W.InstAt s.heap x ox C od) (hb : PySem.W.Looks (model prog w) s.heap (typeOf b) tb) (hn : PySem.W.notFirst K C tb = true)
    (hm : PySem.W.mroIn K C (.type "object") = some true) (hne : PySem.W.findIn K (.ref C) "__ne__" = some (some (.builtin "object.__ne__"))) (hs : PySem.W.findIn K (.ref C) "__eq__" = some (some (.ref f))) (hf : PySem.W.isFn K (.ref f) = true)
    (h : wpAny (model prog w) A.in1 (call (.ref f) [.ref x, b]) (fun v s' => v = .bool rb ∧ Q (.bool (!rb)) s') E s) : wpAny (model prog w) A (richCompare .NotEq (.ref x) b) Q E s := by
  have X := X₀.keeps F.keep
  have one : wpAny (model prog w) A (tryCompare (.ref x) (cmpInfo .NotEq).2.1 b) (fun r s' => ∃ v, r = some v ∧ Q v s') E s := by
    unfold tryCompare
    refine wpAny_bind (ifBound_objNe X I hne (call_objNe (rb := rb) hu1 X I hm hs hf (wpAny_mono h (fun v s' hv => ?_) fun _ _ e => e)))
    exact ⟨hv.1, wpAny_pure ⟨_, rfl, hv.2⟩⟩
  unfold richCompare
  simp only [oneThing_ref]
  refine wpAny_holding (wpAny_bind (wpAny_cRoomFor hu ?_))
  refine wpAny_bind (I.type.here (wpAny_bind (hb.here ?_)))
  split
  · rename_i q
    have e : PySem.W.subIn K tb (.ref C) = some false := by
      rcases Bool.or_eq_true_iff.mp hn with e | e
      · rw [beq_iff_eq.mp e] at q; simp at q
      · exact beq_iff_eq.mp e
    refine wpAny_bind ((PySem.W.looks_subIn X e).here ?_)
    simp only [Bool.false_eq_true, if_false]
    refine wpAny_bind (wpAny_mono one (fun r s' z => ?_) fun _ _ e => e)
    obtain ⟨v, rfl, hq⟩ := z
    exact wpAny_pure hq
  · refine wpAny_bind (wpAny_pure ?_)
    simp only [Bool.false_eq_true, if_false]
    refine wpAny_bind (wpAny_mono one (fun r s' z => ?_) fun _ _ e => e)
    obtain ⟨v, rfl, hq⟩ := z
    exact wpAny_pure hq
end
end HNB
namespace L2
open PySem PySem.Spec PyProof.Rows
section
variable {X : Cx} {n : Nat}
/-- what the own == says of two objects -/
def spEqB (R : Addr → Addr → Bool → Hp → Prop) : Sp := fun vs H Q _ => ∃ a b r, vs = [.ref a, .ref b] ∧ R a b r H ∧ ∀ H', Ext H H' → Q (.bl r) H'
def rEqB (C : Addr) (R : Addr → Addr → Bool → Hp → Prop) : R2 := fun x y H Q => ∃ a b dx dy fs gs r, x = .ref a ∧ y = .ref b ∧ H a = some (.ins C dx fs) ∧ H b = some (.ins C dy gs) ∧ R a b r H ∧ ∀ H', Ext H H' → Q (.bl r) H'
def rNeB (C : Addr) (R : Addr → Addr → Bool → Hp → Prop) : R2 := fun x y H Q => ∃ a b dx dy fs gs r, x = .ref a ∧ y = .ref b ∧ H a = some (.ins C dx fs) ∧ H b = some (.ins C dy gs) ∧ R a b r H ∧ ∀ H', Ext H H' → Q (.bl (!r)) H'
/-- the call of the own == -/
theorem call_eqB {CX : CXT} {f : Addr} {fd : FuncData} {ps : List Str} {R : Addr → Addr → Bool → Hp → Prop} {E : XK} {A : Around} {pins : List (Addr × Obj)} {σ : St} {H : Hp} {s : Shared} {a b : Addr} {r : Bool} (F : FnOk X.prog X.w X.K X.mg X.base CX n f fd ps (spEqB R))
    (hb : Binds X.K fd ps []) (hx : Passes CX X E) (sb : Sub X n A) (I : Inv X pins σ H s) (hr : R a b r H) :
    wpAny (model X.prog X.w) A (call (.ref f) [.ref a, .ref b]) (fun v s' => v = .bool r ∧ ∃ H', Inv X pins σ H' s' ∧ Ext H H') X.xe s := by
  have hsp : spEqB R [.ref a, .ref b] H (fun v H' => v = .bl r ∧ Ext H H') E := ⟨a, b, r, rfl, hr, fun H' e => ⟨rfl, e⟩⟩
  have e0 : Env0 X.prog X.w X.K X.mg X.base A X.stack s H := by
    obtain ⟨p1, p2, p3, p4, p5, p6, p7, p8⟩ := I.env0
    exact ⟨by rw [sb.fr]; exact p1, p2, p3, p4, p5, p6, p7, p8⟩
  have two : Vals [V.ref a, V.ref b] [Value.ref a, Value.ref b] := .cons rfl (.cons rfl .nil)
  have bd := hb s [.ref a, .ref b] I.kIn (by simpa using F.len _ _ _ _ hsp)
  have go := F.run A X.stack s H ⟨[.ref a, .ref b], []⟩ [.ref a, .ref b] [.ref a, .ref b] _ E sb.room e0 (by simpa using bd) two hsp
  refine wpAny_call (codeAny_mono go fun z t hz => ?_)
  match z, hz with
  | .error e, hz => exact hx pins σ H s e t I hz
  | .ok (.ret w'), hz =>
    obtain ⟨y, H', I', ry, rfl, ex⟩ := I.after hz
    cases ry
    exact ⟨rfl, H', I', ex⟩
  | .ok .next, hz => exact hz.elim
  | .ok .brk, hz => exact hz.elim
  | .ok .cont, hz => exact hz.elim
theorem op_eqB {CX : CXT} {C f : Addr} {fd : FuncData} {ps : List Str} {R : Addr → Addr → Bool → Hp → Prop} {E : XK} (F : FnOk X.prog X.w X.K X.mg X.base CX n f fd ps (spEqB R))
    (hs : PySem.W.findIn X.K (.ref C) "__eq__" = some (some (.ref f))) (hf : PySem.W.isFn X.K (.ref f) = true) (hb : Binds X.K fd ps []) (hx : Passes CX X E) (hr : Room n X.A) : OpR X (compareOp .Eq) (rEqB C R) := by
  intro pins s σ H x y u v Q I rx ry hq
  obtain ⟨a, b, dx, dy, fs, gs, r, rfl, rfl, ha, hb', hR, q⟩ := hq
  cases rx
  cases ry
  obtain ⟨mA, J, _⟩ := ins_get I.hok ha
  obtain ⟨mB, J', _⟩ := ins_get I.hok hb'
  obtain ⟨od, J, _⟩ := J.look
  obtain ⟨od', J', _⟩ := J'.look
  obtain ⟨m, hF⟩ := I.fr
  show wpAny (model X.prog X.w) X.A (richCompare .Eq (.ref a) (.ref b)) (EP X pins σ Q) X.xe s
  refine PySem.W.cmp_K (tb := .ref C) hr.units0 hF I.ok.mod.kin J J'.type (by simp [PySem.W.notFirst]) hs hf (wpAny_mono (call_eqB F hb hx ⟨hr, rfl⟩ I hR) (fun w' t z => ?_) fun _ _ e => e)
  obtain ⟨rfl, H', I', ex⟩ := z
  exact ⟨.bl r, H', I', rfl, q H' ex⟩
theorem op_neB {CX : CXT} {C f : Addr} {fd : FuncData} {ps : List Str} {R : Addr → Addr → Bool → Hp → Prop} {E : XK} (F : FnOk X.prog X.w X.K X.mg X.base CX n f fd ps (spEqB R))
    (hs : PySem.W.findIn X.K (.ref C) "__eq__" = some (some (.ref f))) (hf : PySem.W.isFn X.K (.ref f) = true) (hne : PySem.W.findIn X.K (.ref C) "__ne__" = some (some (.builtin "object.__ne__"))) (hm : PySem.W.mroIn X.K C (.type "object") = some true)
    (hb : Binds X.K fd ps []) (hx : Passes CX X E) (hr : Room (n + 1) X.A) : OpR X (compareOp .NotEq) (rNeB C R) := by
  intro pins s σ H x y u v Q I rx ry hq
  obtain ⟨a, b, dx, dy, fs, gs, r, rfl, rfl, ha, hb', hR, q⟩ := hq
  cases rx
  cases ry
  obtain ⟨mA, J, _⟩ := ins_get I.hok ha
  obtain ⟨mB, J', _⟩ := ins_get I.hok hb'
  obtain ⟨od, J, _⟩ := J.look
  obtain ⟨od', J', _⟩ := J'.look
  obtain ⟨m, hF⟩ := I.fr
  have sb : Sub X n X.A.in1 := Sub.in1 ⟨hr, rfl⟩
  show wpAny (model X.prog X.w) X.A (richCompare .NotEq (.ref a) (.ref b)) (EP X pins σ Q) X.xe s
  refine HNB.rc_ne (tb := .ref C) (rb := r) hr.units0 sb.room.units0 hF I.ok.mod.kin J J'.type (by simp [PySem.W.notFirst]) hm hne hs hf (wpAny_mono (call_eqB F hb hx sb I hR) (fun w' t z => ?_) fun _ _ e => e)
  obtain ⟨rfl, H', I', ex⟩ := z
  exact ⟨rfl, .bl (!r), H', I', rfl, q H' ex⟩
end
end L2

set_option Elab.async false
set_option linter.all false
set_option maxRecDepth 100000
set_option maxHeartbeats 4000000
/-! x != y of two objects of a class with an own __eq__ and no __ne__ -/
namespace HN
open PySem PySem.Spec PyProof.Rows PySem.SeqAt
section
variable {M : Model} {prog : Program} {w : World} {A : Around} {E : Value → Shared → Prop} {s : Shared} {K : PySem.W.Frag} {x C f : Addr} {ox : Obj} {od : Option Obj} {b tb : Value}
theorem ifBound_objNe {args : List Value} {Q : Option Value → Shared → Prop} (X : K.In s.heap) (I : PySem.W.InstAt s.heap x ox C od) (hs : PySem.W.findIn K (.ref C) "__ne__" = some (some (.builtin "object.__ne__")))
    (h : wpAny M A (call (.builtin "object.__ne__") (.ref x :: args)) (fun v => Q (some v)) E s) : wpAny M A (callSpecialIfBound? (.ref x) "__ne__" args) Q E s := by
  simp only [callSpecialIfBound?, bindSpecialIfBound?]
  refine wpAny_holding (wpAny_bind (wpAny_bind (wpAny_bind (I.type.here ((PySem.W.looks_findIn X hs).here ?_)))))
  refine wpAny_bind (wpAny_askSetting (wpAny_ite ?_))
  have fin : wpAny M A (call (.builtin "object.__ne__") ([.ref x] ++ args) >>= fun v => pure (some v)) Q E s := wpAny_bind (wpAny_mono h (fun v s' h' => wpAny_pure h') fun _ _ h' => h')
  split
  · exact wpAny_bind (wpAny_of_eq (F.cmp_object.ne.bind _) (wpAny_pure (by exact fin)))
  · exact wpAny_tryCatch (wpAny_bind (wpAny_of_eq (F.cmp_object.ne.bind _) (wpAny_pure (by exact fin))))
/-- what object.__ne__ does, where the class's own __eq__ says True -/
theorem entry_ne {R : Fin → Shared → Prop} (hu : A.units < cLine) (X : K.In s.heap) (I : PySem.W.InstAt s.heap x ox C od) (hs : PySem.W.findIn K (.ref C) "__eq__" = some (some (.ref f))) (hf : PySem.W.isFn K (.ref f) = true)
    (h : wpAny M A (call (.ref f) [.ref x, b]) (fun v s' => v = .bool true ∧ R (.done (.ret (.bool false))) s') E s) : wpAny M A (Builtin.«object.__ne__» ⟨[.ref x, b], []⟩) R E s := by
  unfold Builtin.«object.__ne__»
  have q : wpAny M A (callSpecialIfBound? (.ref x) "__eq__" [b]) (fun r s' => r = some (.bool true) ∧ R (.done (.ret (.bool false))) s') E s :=
    PySem.W.ifBound_K X I hs hf (wpAny_mono h (fun v s' ⟨e, z⟩ => ⟨by rw [e], z⟩) fun _ _ z => z)
  repeat (first | with_reducible refine wpAny_cRoomFor hu ?_ | with_reducible refine wpAny_bind (wpAny_mono q (fun r s' ⟨e, z⟩ => ?_) fun _ _ z => z) | wp_step)
  subst e
  refine wpAny_bind (wpAny_truthy_bool ?_)
  exact wpAny_pure z
theorem call_objNe {Q : Value → Shared → Prop} (hu : A.in1.units < cLine) (X : K.In s.heap) (I : PySem.W.InstAt s.heap x ox C od) (hm : PySem.W.mroIn K C (.type "object") = some true) (hs : PySem.W.findIn K (.ref C) "__eq__" = some (some (.ref f))) (hf : PySem.W.isFn K (.ref f) = true)
    (h : wpAny (model prog w) A.in1 (call (.ref f) [.ref x, b]) (fun v s' => v = .bool true ∧ Q (.bool false) s') E s) :
    wpAny (model prog w) A (call (.builtin "object.__ne__") [.ref x, b]) Q E s :=
  wpAny_call (codeAny_call_builtin F.cmp_object.ne.plain F.cmpEntry_ne (PySem.W.check_slot F.cmpKind_ne F.cmpSplit_ne (I.type.andThen (PySem.W.looks_mroIn X hm)) (F.cmpArgs_ne _ _) (entry_ne hu X I hs hf h)))
theorem rc_ne {L : Addr} {h₀ : Heap} {m : Str → Option Value} {Q : Value → Shared → Prop} (hu : A.units < cLine) (hu1 : A.in1.units < cLine) (F : Fr h₀ L s.heap m) (X₀ : K.In h₀) (I : PySem.W.InstAt s.heap x ox C od) (hb : PySem.W.Looks (model prog w) s.heap (typeOf b) tb) (hn : PySem.W.notFirst K C tb = true)
    (hm : PySem.W.mroIn K C (.type "object") = some true) (hne : PySem.W.findIn K (.ref C) "__ne__" = some (some (.builtin "object.__ne__"))) (hs : PySem.W.findIn K (.ref C) "__eq__" = some (some (.ref f))) (hf : PySem.W.isFn K (.ref f) = true)
    (h : wpAny (model prog w) A.in1 (call (.ref f) [.ref x, b]) (fun v s' => v = .bool true ∧ Q (.bool false) s') E s) : wpAny (model prog w) A (richCompare .NotEq (.ref x) b) Q E s := by
  have X := X₀.keeps F.keep
  have one : wpAny (model prog w) A (tryCompare (.ref x) (cmpInfo .NotEq).2.1 b) (fun r s' => ∃ v, r = some v ∧ Q v s') E s := by
    unfold tryCompare
    refine wpAny_bind (ifBound_objNe X I hne (call_objNe hu1 X I hm hs hf (wpAny_mono h (fun v s' hv => ?_) fun _ _ e => e)))
    exact ⟨hv.1, wpAny_pure ⟨_, rfl, hv.2⟩⟩
  unfold richCompare
  simp only [oneThing_ref]
  refine wpAny_holding (wpAny_bind (wpAny_cRoomFor hu ?_))
  refine wpAny_bind (I.type.here (wpAny_bind (hb.here ?_)))
  split
  · rename_i q
    have e : PySem.W.subIn K tb (.ref C) = some false := by
      rcases Bool.or_eq_true_iff.mp hn with e | e
      · rw [beq_iff_eq.mp e] at q; simp at q
      · exact beq_iff_eq.mp e
    refine wpAny_bind ((PySem.W.looks_subIn X e).here ?_)
    simp only [Bool.false_eq_true, if_false]
    refine wpAny_bind (wpAny_mono one (fun r s' z => ?_) fun _ _ e => e)
    obtain ⟨v, rfl, hq⟩ := z
    exact wpAny_pure hq
  · refine wpAny_bind (wpAny_pure ?_)
    simp only [Bool.false_eq_true, if_false]
    refine wpAny_bind (wpAny_mono one (fun r s' z => ?_) fun _ _ e => e)
    obtain ⟨v, rfl, hq⟩ := z
    exact wpAny_pure hq
end
end HN
namespace L2
open PySem PySem.Spec PyProof.Rows
section
variable {X : Cx} {n : Nat}
def rNeG (D : Eqv) : R2 := fun x y H Q => D x y H ∧ ∀ H', Ext H H' → Q (.bl false) H'
/-- x != y, two objects of the class at C, equal by its own __eq__ -/
theorem op_neG {CX : CXT} {C f : Addr} {fd : FuncData} {ps : List Str} {R : Addr → Addr → Hp → Prop} {E : XK} (F : FnOk X.prog X.w X.K X.mg X.base CX n f fd ps (spEq R))
    (hs : PySem.W.findIn X.K (.ref C) "__eq__" = some (some (.ref f))) (hf : PySem.W.isFn X.K (.ref f) = true) (hne : PySem.W.findIn X.K (.ref C) "__ne__" = some (some (.builtin "object.__ne__"))) (hm : PySem.W.mroIn X.K C (.type "object") = some true)
    (hb : Binds X.K fd ps []) (hx : Passes CX X E) (hr : Room (n + 1) X.A) : OpR X (compareOp .NotEq) (rNeG (DIns C R)) := by
  intro pins s σ H x y u v Q I rx ry hq
  obtain ⟨⟨a, b, dx, dy, fs, gs, rfl, rfl, ha, hb', hr'⟩, q⟩ := hq
  cases rx
  cases ry
  have sb : Sub X n X.A.in1 := Sub.in1 ⟨hr, rfl⟩
  obtain ⟨mA, J, _⟩ := ins_get I.hok ha
  obtain ⟨mB, J', _⟩ := ins_get I.hok hb'
  obtain ⟨od, J, _⟩ := J.look
  obtain ⟨od', J', _⟩ := J'.look
  obtain ⟨m, hF⟩ := I.fr
  show wpAny (model X.prog X.w) X.A (richCompare .NotEq (.ref a) (.ref b)) (EP X pins σ Q) X.xe s
  refine HN.rc_ne (tb := .ref C) hr.units0 sb.room.units0 hF I.ok.mod.kin J J'.type (by simp [PySem.W.notFirst]) hm hne hs hf ?_
  have hsp : spEq R [.ref a, .ref b] H (fun v H' => v = .bl true ∧ Ext H H') E := ⟨a, b, rfl, hr', fun H' e => ⟨rfl, e⟩⟩
  have e0 : Env0 X.prog X.w X.K X.mg X.base X.A.in1 X.stack s H := by
    have e := I.env0
    exact ⟨by rw [sb.fr]; exact e.frames, e.mod, e.bs, e.bsz, e.funs, e.frf, e.hok, e.bare⟩
  have hl := F.len _ _ _ _ hsp
  have r2 : Vals [V.ref a, V.ref b] [Value.ref a, Value.ref b] := .cons rfl (.cons rfl .nil)
  refine wpAny_call (codeAny_mono (F.run X.A.in1 X.stack s H ⟨[.ref a, .ref b], []⟩ [.ref a, .ref b] [.ref a, .ref b] _ E sb.room e0 (by
    have := hb s [.ref a, .ref b] I.kIn (by simpa using hl)
    simpa using this) r2 hsp) fun r s' hq => ?_)
  cases r with
  | error e => exact hx pins σ H s e s' I hq
  | ok fl =>
    cases fl with
    | ret w =>
      obtain ⟨z, H', I', rz, ez, ex⟩ := I.after hq
      subst ez
      cases rz
      exact ⟨rfl, .bl false, H', I', rfl, q H' ex⟩
    | next => exact False.elim hq
    | brk => exact False.elim hq
    | cont => exact False.elim hq
end
end L2

set_option Elab.async false
set_option linter.all false
set_option maxRecDepth 100000
set_option maxHeartbeats 4000000
/-! own exceptions without arguments: raised, and as values -/
namespace L2
open PySem PySem.Spec PyProof.Rows
section
variable {X : Cx} {C : Addr} {bmB : List Value} {B newId initId : String}
theorem pmk_own0 {x : Str} {p pos : Pos} (F : ExcBaseFacts B newId initId bmB) (q : PySem.W.excIn X.K C bmB newId = true) (gC : X.mg x = some (.ref C)) (kC : PySem.W.keepIn X.K (.ref C) = true) (r : Raises X (.ref C)) (hg : Gl X x)
    (hdb : (x == ("__debug__" : Str)) = false := by decide) : PMk X (.Call (.Name x p) [] [] pos) (fun _ H Q => Q (.ref C) none H) := by
  intro pins s σ H Q I h
  refine wpAny_Call_Name_kw (ld_glob I hg gC ?_ hdb)
  refine PySem.W.callWith_K0 I.kIn kC ?_
  obtain ⟨bm, N, nm, qn, bs, hdct, sn, sub, ab, col, dd, k0, k1, k2, k3, k5, mN, hC, hN, hni, T⟩ := exc_obj I.kIn q
  refine wpAny_call_exc_subT F T hC hN hni (fun h' e hm => ?_) (by show 0 ≤ sizeLine; exact Nat.zero_le _)
  exact mk_of I hm r h (I.hok.gone hm.new)
/-- X(), as a value -/
theorem pe_exc0 {x : Str} {p pos : Pos} (F : ExcBaseFacts B newId initId bmB) (q : PySem.W.excIn X.K C bmB newId = true) (gC : X.mg x = some (.ref C)) (kC : PySem.W.keepIn X.K (.ref C) = true) (hg : Gl X x)
    (hdb : (x == ("__debug__" : Str)) = false := by decide) : PE X (.Call (.Name x p) [] [] pos) (fun σ H Q => ∀ a, H a = none → Q (.ref a) (upd H a (ExO (.ref C) a))) := by
  refine ⟨fun pins s σ H Q I h => ?_⟩
  refine wpAny_Call_Name_kw (ld_glob I hg gC ?_ hdb)
  refine PySem.W.callWith_K0 I.kIn kC ?_
  obtain ⟨bm, N, nm, qn, bs, hdct, sn, sub, ab, col, dd, k0, k1, k2, k3, k5, mN, hC, hN, hni, T⟩ := exc_obj I.kIn q
  refine wpAny_call_exc_subT F T hC hN hni (fun h' a hm => ?_) (by show 0 ≤ sizeLine; exact Nat.zero_le _)
  have hn : H a = none := I.hok.gone hm.new
  obtain ⟨t, ht, _, _⟩ := hm.there
  exact ⟨.ref a, upd H a (ExO (.ref C) a), I.laidN hm.keeps hm.new hn (exO_ok ht ⟨rfl, rfl⟩ rfl rfl rfl (show 4 < 6 by decide)), rfl, h a hn⟩
end
end L2

set_option Elab.async false
set_option linter.all false
set_option maxRecDepth 100000
set_option maxHeartbeats 4000000
/-! own exceptions with an __init__ of their own that stores its arguments, over Exception: the stores -/
namespace PySem
namespace ExX
open Builtin Builtin.ObjectAttr PySem.W PySem.Calls PyProof.Rows PySem.HandSPX
abbrev exTail : List Value := [.type "Exception", .type "BaseException", .type "object"]
/-- own classes, then Exception's mro -/
def refsEX : List Value → Bool
  | .ref _ :: r => refsEX r
  | l => l == exTail
theorem refsEX_cases : ∀ l : List Value, refsEX l = true → (∃ c r, l = .ref c :: r ∧ refsEX r = true) ∨ l = exTail := by
  intro l e
  unfold refsEX at e
  split at e
  · exact .inl ⟨_, _, rfl, e⟩
  · exact .inr (beq_iff_eq.mp e)
theorem refsEX_pass (self : Value) : ∀ l : List Value, refsEX l = true → refuseLoop self "__setattr__" l = pure () := by
  intro l
  induction l with
  | nil => intro e; exact absurd e (by decide)
  | cons a r ih =>
    intro e
    rcases refsEX_cases (a :: r) e with ⟨c, r', q, h⟩ | q
    · obtain ⟨rfl, rfl⟩ := List.cons.inj q
      rw [refuseLoop_ref]; exact ih h
    · rw [q]; exact F.store_Exception.passes self
theorem refsEX_contains (X : String) : ∀ l : List Value, refsEX l = true → l.contains (.type X) = exTail.contains (.type X) := by
  intro l
  induction l with
  | nil => intro e; exact absurd e (by decide)
  | cons a r ih =>
    intro e
    rcases refsEX_cases (a :: r) e with ⟨c, r', q, h⟩ | q
    · obtain ⟨rfl, rfl⟩ := List.cons.inj q
      rw [List.contains_cons, ih h]; rfl
    · rw [q]
theorem refsEX_ne {l : List Value} (e : refsEX l = true) : l.isEmpty = false := by
  cases l with
  | nil => exact absurd e (by decide)
  | cons _ _ => rfl
section
variable {prog : Program} {w : World} {A : Around} {E : Value → Shared → Prop} {R : Result → Shared → Prop} {hp : Heap} {g : Array GenState} {d : Drawn} {t : Nat} {os : OsState}
theorem osa_new {K : W.Frag} {name : Str} {tk : Tok} {v : Value} {x C : Addr} {fv : Array Value} {cd : ClassData}
    (X : K.In hp) (hx : hp.get? x = some { cls := .ref C, data := .fields fv }) (hcd : W.clsIn K C = some cd) (hm : refsEX cd.mro = true) (hh : cd.hasDict = true) (ha : W.findIn K (.ref C) name = some none)
    (hq : ∀ h' tk' dx, (∀ b o, b ≠ x → hp.get? b = some o → h'.get? b = some o) → hp.objs.size ≤ dx → dx ≠ x → h'.get? x = some { cls := .ref C, dict := some dx, data := .fields fv } →
      h'.Ns1 dx (fun y => if y = name then some v else none) → R (.ok (.ret .none)) ⟨h', g, d, tk', os⟩) :
    codeAny (model prog w) A (.call (.builtin "object.__setattr__") ⟨[.ref x, .str name tk, v], []⟩) R ⟨hp, g, d, t, os⟩ := by
  have I : W.InstAt hp x { cls := .ref C, data := .fields fv } C none := ⟨hx, rfl, rfl, trivial⟩
  have SF := F.store_object
  have ne := refsEX_ne hm
  have hob : cd.mro.contains (.type "object") = true := (refsEX_contains "object" _ hm).trans (by decide +kernel)
  have hxs : x ≠ hp.objs.size := Nat.ne_of_lt (Heap.lt_size hx)
  have sub : W.Looks (model prog w) hp (isInstance (.ref x) (.type "object")) true := I.type.andThen (W.looks_mroIn X (by unfold W.mroIn; rw [hcd, Option.bind_some, if_neg (by rw [ne]; decide), hob]))
  refine codeAny_call_builtin SF.slot.plain SF.entry (@W.check_slot (model prog w) _ _ ⟨hp, g, d, t, os⟩ "object.__setattr__" "object" "__setattr__" (.ref x) [.str name tk, v] [] _ SF.kind SF.split sub (SF.args (.ref x) (.str name tk) v) ?_)
  have hmr : W.Looks (model prog w) hp (mroOf (.ref C)) cd.mro := (W.looks_clsIn X hcd).andThen .now
  have L3 : W.Looks (model prog w) hp (storeTaker? none) none := .now
  have hcls : W.Looks (model prog w) hp (classData C) cd := W.looks_clsIn X hcd
  rw [W.osa_eq, refuse_eq]
  refine wpAny_bind (wpAny_bind (I.type.at (wpAny_bind (hmr.at ?_))))
  rw [refsEX_pass _ _ hm]
  refine wpAny_pure (wpAny_bind (I.type.at (wpAny_bind ((W.looks_findIn X ha).at (wpAny_bind (L3.at ?_))))))
  show wpAny _ _ (storeInOwnDict (.ref x) (.ref C) (.str name tk) name v false) _ _ _
  obtain ⟨nm, bs, mro, ns, qn, hd, sn, sb, ab, col, del⟩ := cd
  dsimp only at hh
  subst hh
  unfold storeInOwnDict ownDictForStores
  repeat (first | with_reducible refine store_in_new ?_ ?_ | with_reducible refine wpAny_loadPart_at hx ?_ | with_reducible refine hcls.at ?_ | wp_step)
  · exact ⟨_, #[], _, (Heap.get?_update_ne _ _ _ _ hxs.symm).trans (Heap.get?_push_at rfl rfl), rfl, fun e he => absurd he (by simp), fun _ => rfl⟩
  · intro h' tk' hn' hs
    have hx₁ : (hp.push { cls := .type "dict", data := .dict #[] }).get? x = some { cls := .ref C, data := .fields fv } := Heap.get?_push_of_some _ hx
    refine hq h' tk' hp.objs.size (fun b o hb ho => ?_) (Nat.le_refl _) hxs.symm ?_ hn'
    · exact (hs.2 b (Nat.ne_of_lt (Heap.lt_size ho))).trans ((Heap.get?_update_ne _ _ _ _ hb).trans (Heap.get?_push_of_some _ ho))
    · exact (hs.2 x hxs).trans (Heap.get?_update_self _ hx₁ rfl)
theorem osa_old {K : W.Frag} {name : Str} {tk : Tok} {v : Value} {x C dx : Addr} {fv : Array Value} {cd : ClassData} {m0 : Str → Option Value} {nl : List Str}
    (X : K.In hp) (hx : hp.get? x = some { cls := .ref C, dict := some dx, data := .fields fv }) (hns : hp.Ns1 dx m0) (hw : Within m0 nl) (hz : nl.length ≤ 1000) (hcd : W.clsIn K C = some cd) (hm : refsEX cd.mro = true) (hh : cd.hasDict = true)
    (ha : W.findIn K (.ref C) name = some none)
    (hq : ∀ h' tk', (∀ b o, b ≠ dx → hp.get? b = some o → h'.get? b = some o) → h'.Ns1 dx (fun y => if y = name then some v else m0 y) → R (.ok (.ret .none)) ⟨h', g, d, tk', os⟩) :
    codeAny (model prog w) A (.call (.builtin "object.__setattr__") ⟨[.ref x, .str name tk, v], []⟩) R ⟨hp, g, d, t, os⟩ := by
  obtain ⟨oD, esD, epD, hoD, hdD, _⟩ := hns.count hw
  have I : W.InstAt hp x { cls := .ref C, dict := some dx, data := .fields fv } C (some oD) := ⟨hx, rfl, rfl, hoD⟩
  have SF := F.store_object
  have ne := refsEX_ne hm
  have hob : cd.mro.contains (.type "object") = true := (refsEX_contains "object" _ hm).trans (by decide +kernel)
  have sub : W.Looks (model prog w) hp (isInstance (.ref x) (.type "object")) true := I.type.andThen (W.looks_mroIn X (by unfold W.mroIn; rw [hcd, Option.bind_some, if_neg (by rw [ne]; decide), hob]))
  refine codeAny_call_builtin SF.slot.plain SF.entry (@W.check_slot (model prog w) _ _ ⟨hp, g, d, t, os⟩ "object.__setattr__" "object" "__setattr__" (.ref x) [.str name tk, v] [] _ SF.kind SF.split sub (SF.args (.ref x) (.str name tk) v) ?_)
  have hmr : W.Looks (model prog w) hp (mroOf (.ref C)) cd.mro := (W.looks_clsIn X hcd).andThen .now
  have L3 : W.Looks (model prog w) hp (storeTaker? none) none := .now
  have hcls : W.Looks (model prog w) hp (classData C) cd := W.looks_clsIn X hcd
  rw [W.osa_eq, refuse_eq]
  refine wpAny_bind (wpAny_bind (I.type.at (wpAny_bind (hmr.at ?_))))
  rw [refsEX_pass _ _ hm]
  refine wpAny_pure (wpAny_bind (I.type.at (wpAny_bind ((W.looks_findIn X ha).at (wpAny_bind (L3.at ?_))))))
  show wpAny _ _ (storeInOwnDict (.ref x) (.ref C) (.str name tk) name v false) _ _ _
  obtain ⟨nm, bs, mro, ns, qn, hd, sn, sb, ab, col, del⟩ := cd
  dsimp only at hh
  subst hh
  unfold storeInOwnDict ownDictForStores
  repeat (first | with_reducible refine PySem.OEX.store_in_old hns hw hz ?_ | with_reducible refine wpAny_loadPart_at hx ?_ | with_reducible refine hcls.at ?_ | wp_step)
  intro h' tk' hn' hs
  exact hq h' tk' (fun b o hb ho => (hs.2 b hb).trans ho) hn'
end
end ExX
end PySem

set_option Elab.async false
set_option linter.all false
set_option maxRecDepth 100000
set_option maxHeartbeats 4000000
namespace PySem
namespace ExX
open PySem.W PySem.Calls PyProof.Rows PySem.HandSPX
/-- what the written part says of an own exception class, at C, over Exception, and of its __init__, at fI -/
structure ExcT (K : W.Frag) (mg : Str → Option Value) (C fI : Addr) (cn : Str) (fs : List Str) (qual : Str) (st : Stmt) : Prop where
  gC : mg cn = some (.ref C)
  cls : ∃ nm q N bs bm sn sub ab col dd k0 k1 k2 k3 k5, K.lookup C = some (excClassObj nm q C N bs bm true sn sub ab col dd k0 k1 k2 k3 k5 "Exception.__new__") ∧ refsEX bm = true
  sa : findIn K (.ref C) "__setattr__" = some (some (.builtin "object.__setattr__"))
  ga : findIn K (.ref C) "__getattribute__" = some (some (.builtin "BaseException.__getattribute__"))
  gg : findIn K (.ref C) "__getattr__" = some none
  no : ∀ f ∈ fs, findIn K (.ref C) f = some none
  iC : findIn K (.ref C) "__init__" = some (some (.ref fI))
  tC : typeIn K (.ref fI) = some (.type "function")
  kC : keepIn K (.ref C) = true
  exC : subIn K (.ref C) (.type "BaseException") = some true
  tyC : typeIn K (.ref C) = some (.type "type")
  hdC : hasDictIn K C = true
  fn : ∃ (oc : Value) (od : Option Addr) (kV doc pm : Value) (an : Option Addr) (cdv ct : Value) (osl : Array (Option Value)),
    K.lookup fI = some ⟨oc, od, .func (fnOf "__init__" qual (L2.defArgs st) (L2.defBody st) (L2.defScope st) .none kV doc pm an cdv ct), osl⟩ ∧ codeIn K cdv qual = true
theorem ldC {M : Model} {s : Shared} {name : Str} {scope : Scope} {L a : Addr} {cd : Value} {m : Str → Option Value} {x : Str} {pos : Pos} {v : Value} {Q : Value → Shared → Prop} {A : Around} {E : Value → Shared → Prop} (hn : s.heap.Ns L m) (hv : m x = some v) (h : Q v s)
    (hk : scope.kind = .function := by rfl) (hl : (envOfC name scope L a cd).kindOf x = some .local := by rfl) (hd : (x == ("__debug__" : Str)) = false := by decide) :
    wpAny M A (eval (.Name x pos) (envOfC name scope L a cd)) Q E s := wpAny_Name (wpAny_loadName_local hk hl hn hv h) hd
end ExX
end PySem
namespace PySem
namespace ExX
open PySem.W PySem.Calls PyProof.Rows PySem.HandSPX
/-- a made exception of the class at C: itself at e, its dict at d, the fields m -/
structure OwnMade (h h' : Heap) (e C d : Addr) (m : Str → Option Value) : Prop where
  keep : ∀ b o, h.get? b = some o → h'.get? b = some o
  new : h.objs.size ≤ e
  obj : ∃ oe vs, h'.get? e = some oe ∧ oe.cls = .ref C ∧ oe.dict = some d ∧ oe.data = .fields vs ∧ vs[1]? = some .none
  dbig : h.objs.size ≤ d
  dne : d ≠ e
  ns : h'.Ns1 d m
end ExX
end PySem
namespace L2
open PySem PySem.Spec PyProof.Rows PySem.ExX
/-- an exception object of the class at C, its own dict at d, not raised -/
def ExD (C d e : Addr) : HO := .ext fun h => ∃ (oe : Obj) (vs : Array Value), h.get? e = some oe ∧ Zc (.ref C) (some d) oe ∧ oe.data = .fields vs ∧ vs[1]? = some .none
theorem exD_ok {P : Program} {w : World} {H : Hp} {h : Heap} {C d e : Addr} {oe : Obj} {vs : Array Value} (he : h.get? e = some oe) (z : Zc (.ref C) (some d) oe) (hd : oe.data = .fields vs) (h1 : vs[1]? = some .none) : ObjOk P w H h e (ExD C d e) :=
  ⟨⟨oe, vs, he, z, hd, h1⟩, ⟨oe, he⟩, fun _ _ ⟨o, v, q, r⟩ k => ⟨o, v, k o q, r⟩⟩
section
variable {X : Cx} {pins : List (Addr × Obj)} {σ : St} {H : Hp} {hp h' : Heap} {g : Array GenState} {dr : Drawn} {tk tk' : Nat} {os : OsState} {e C d : Addr} {m : Str → Option Value} {fs : List (Str × V)}
/-- the heap without the exception itself: its dict laid -/
theorem own_split (I : Inv X pins σ H ⟨hp, g, dr, tk, os⟩) (M : OwnMade hp h' e C d m) (rel : ∀ f, RelO (fs.lookup f) (m f)) :
    ∃ G' : Heap, (∀ b o, G'.get? b = some o → h'.get? b = some o) ∧ G'.get? e = none ∧ Inv X pins σ (upd H d (.xd fs)) ⟨G', g, dr, tk', os⟩ := by
  have hns := M.ns
  obtain ⟨G', g1, g2⟩ := restrict h' fun b => decide (b ≠ e)
  have gk : ∀ b, b ≠ e → G'.get? b = h'.get? b := fun b hb => g1 b (decide_eq_true hb)
  have ge : G'.get? e = none := g2 e (by simp)
  have old : ∀ b o, hp.get? b = some o → G'.get? b = some o := fun b o q => (gk b (Nat.ne_of_lt (Nat.lt_of_lt_of_le (Heap.lt_size q) M.new))).trans (M.keep b o q)
  have ob : ObjOk X.prog X.w (upd H d (.xd fs)) G' d (.xd fs) := ⟨_, hns.at (fun o q => (gk d M.dne).trans q), fun f => rel f⟩
  have J : Inv X pins σ (upd H d (.xd fs)) ⟨G', g, dr, tk', os⟩ := I.laid (t' := tk') old M.dbig ob
  refine ⟨G', fun b o q => ?_, ge, J⟩
  by_cases hb : b = e
  · rw [hb, ge] at q; cases q
  · exact (gk b hb).symm.trans q
theorem own_value (I : Inv X pins σ H ⟨hp, g, dr, tk, os⟩) (M : OwnMade hp h' e C d m) (rel : ∀ f, RelO (fs.lookup f) (m f)) :
    Inv X pins σ (upd (upd H d (.xd fs)) e (ExD C d e)) ⟨h', g, dr, tk', os⟩ := by
  obtain ⟨G', k, ge, J⟩ := own_split (tk' := tk') I M rel
  obtain ⟨oe, vs, hoe, hc, hd, hdat, h1⟩ := M.obj
  have hn : upd H d (.xd fs) e = none := by
    rw [upd_ne (Ne.symm M.dne)]
    exact I.hok.fresh M.new
  exact J.laidN k ge hn (exD_ok hoe ⟨hc, hd⟩ hdat h1)
theorem own_raise {Q : XK} (I : Inv X pins σ H ⟨hp, g, dr, tk, os⟩) (M : OwnMade hp h' e C d m) (rel : ∀ f, RelO (fs.lookup f) (m f)) (r : Raises X (.ref C)) (q : ∀ d, H d = none → Q (.ref C) (some d) (upd H d (.xd fs))) :
    MkP X pins σ Q (.ref e) ⟨h', g, dr, tk', os⟩ := by
  obtain ⟨G', k, ge, J⟩ := own_split (tk' := tk') I M rel
  obtain ⟨oe, vs, hoe, hc, hd, hdat, h1⟩ := M.obj
  refine ⟨e, oe, vs, ⟨G', g, dr, tk', os⟩, _, .ref C, some d, rfl, J, k, ge, hoe, ⟨hc, hd⟩, hdat, h1, ?_, rfl, I.bare, r, q d (I.hok.fresh M.dbig)⟩
  rw [upd_ne (Ne.symm M.dne)]
  exact I.hok.fresh M.new
end
end L2

set_option Elab.async false
set_option linter.all false
set_option maxRecDepth 100000
set_option maxHeartbeats 4000000
/-! isinstance of exception objects that are values, whatever own dict they have -/
namespace PySem.W
open PySem PySem.Spec PySem.Calls PyProof.Rows
section
variable {prog : Program} {w : World} {A : Around} {E : Value → Shared → Prop} {s : Shared} {K : Frag} {x D : Addr} {ox : Obj} {od : Option Obj}
theorem findObj_dataZ {C : Addr} {name : Str} {a g : Value} (hc : (clsIn K C).isSome = true) (ha : findIn K (.ref C) name = some (some a)) (hg : specialIn K a "__get__" = some (some g)) (ht : takesIn K a = some true) : findObj K C od name = some (.bind g a) := by
  obtain ⟨cd, hc⟩ := Option.isSome_iff_exists.mp hc
  unfold findObj
  rw [hc, Option.bind_some, ha, Option.bind_some]
  simp [hg, ht]
theorem kin_classZ {Q : Option Value → Shared → Prop} (hga : findIn K (.ref D) "__getattribute__" = some (some (.builtin "BaseException.__getattribute__"))) (hgt : findIn K (.ref D) "__getattr__" = some none) (hsub : subIn K (.ref D) (.type "BaseException") = some true)
    (hdct : hasDictIn K D = true) (ha : findIn K (.ref D) "__class__" = some (some (.builtin "object.__class__")))
    (hn : specialIn K (.builtin "object.__class__") "__get__" = some (some (.builtin "getset_descriptor.__get__"))) (htk : takesIn K (.builtin "object.__class__") = some true) (hm : mroIn K D (.type "object") = some true)
    (X : K.In s.heap) (I : InstAt s.heap x ox D od) (h : Q (some (.ref D)) { s with toks := s.toks + 1 }) : wpAny (model prog w) A (getAttr? (.ref x) "__class__") Q E s := by
  have hf : findObj K D od "__class__" = some (.bind (.builtin "getset_descriptor.__get__") (.builtin "object.__class__")) := findObj_dataZ (by obtain ⟨cd, hc, _⟩ := any_some hdct; rw [hc]; rfl) ha hn htk
  obtain ⟨hp, g, d, t, os⟩ := s
  have L0 := I.type (M := model prog w)
  have L1 := looks_findIn (M := model prog w) X hga
  have L2 := looks_findIn (M := model prog w) X hgt
  have L3 := looks_find (M := model prog w) X I hf
  have sub : Looks (model prog w) hp (isInstance (.ref x) (.type "BaseException")) true := L0.andThen (looks_subIn X hsub)
  have hx0 : (false && onTheHeap (Value.builtin "BaseException.__getattribute__")) = false := rfl
  have hx2 : (Value.builtin "BaseException.__getattribute__" == Value.builtin "object.__getattribute__") = false := by decide +kernel
  have hx1 : (onTheHeap (Value.ref D) && Value.builtin "BaseException.__getattribute__" == Value.builtin "object.__getattribute__") = false := by rw [hx2]; rfl
  unfold getAttr? getAttrBy? getAttrBy
  refine wpAny_bind (wpAny_mkText (wpAny_bind (wpAny_attempt (wpAny_holding (wpAny_bind (L0.at (wpAny_bind (L1.at ?_))))))))
  show wpAny _ _ (if (onTheHeap (Value.ref D) && Value.builtin "BaseException.__getattribute__" == Value.builtin "object.__getattribute__") = true then _ else _) _ _ _
  rw [hx1, if_neg Bool.false_ne_true]
  unfold getAttrByItsOwn hookBefore
  refine wpAny_bind ?_
  rw [if_pos (show onTheHeap (Value.ref D) = true from rfl)]
  refine L2.at ?_
  refine wpAny_bind (wpAny_attempt (wpAny_holding ?_))
  unfold callGetattribute
  rw [hx0, if_neg Bool.false_ne_true]
  unfold boundAndCalled
  rw [PySem.F.excAttr_ValueError.ga.bind (.ref x)]
  refine wpAny_bind (wpAny_pure ?_)
  show wpAny _ _ (call (.builtin "BaseException.__getattribute__") [.ref x, .str "__class__" t]) _ _ _
  refine wpAny_call (codeAny_call_builtin PySem.F.excAttr_ValueError.ga.plain PySem.F.entry_bexc_ga ?_)
  refine @check_slot (model prog w) _ _ ⟨hp, g, d, t + 1, os⟩ "BaseException.__getattribute__" "BaseException" "__getattribute__" (.ref x) [.str "__class__" t] [] _ (by decide +kernel) (by decide +kernel) sub (PySem.F.args_bexc_ga (.ref x) (.str "__class__" t)) ?_
  unfold Builtin.«object.__getattribute__»
  refine wpAny_bind (wpAny_of_eq (a := ((Value.ref x : Value), [Value.str "__class__" t])) (by first | rfl | (simp only [slotArgs]; rfl)) ?_)
  refine wpAny_bind (wpAny_pure (wpAny_bind (L0.at (wpAny_bind (L3.at ?_)))))
  show wpAny _ _ (holding [Value.builtin "object.__class__"] (call (.builtin "getset_descriptor.__get__") [.builtin "object.__class__", .ref x, .ref D]) >>= ret) _ _ _
  refine wpAny_bind (wpAny_holding (wpAny_call (class_get (s := ⟨hp, g, d, t + 1, os⟩) (ox := ox) (od := od) X I hm ?_)))
  refine wpAny_pure ?_
  show wpAny _ _ (handedOut (.ref D)) _ _ _
  rw [handedOut_of (v := .ref D) rfl]
  first
    | exact wpAny_pure (wpAny_pure h)
    | exact wpAny_pure h
    | exact wpAny_pure (wpAny_bind (wpAny_pure (wpAny_pure h)))
theorem kitx_excZ (hga : findIn K (.ref D) "__getattribute__" = some (some (.builtin "BaseException.__getattribute__"))) (hgt : findIn K (.ref D) "__getattr__" = some none) (hsub : subIn K (.ref D) (.type "BaseException") = some true) (hdct : hasDictIn K D = true) (ha : findIn K (.ref D) "__class__" = some (some (.builtin "object.__class__")))
    (hn : specialIn K (.builtin "object.__class__") "__get__" = some (some (.builtin "getset_descriptor.__get__"))) (htk : takesIn K (.builtin "object.__class__") = some true) (hm : mroIn K D (.type "object") = some true) :
    KitX K (.ref x) (.ref D) (fun h => InstAt h x ox D od) where
  ty := fun _ _ _ I => I.type
  it := fun _ _ X _ => by
    obtain ⟨cdD, hcD, _⟩ := any_some hdct
    unfold clsIn at hcD
    split at hcD
    · rename_i c' d' cd' sl' ho
      intro A' Q' E' s' k q
      unfold isType loadHead
      exact wpAny_bind (wpAny_loadPart (k _ _ (X _ _ ho)) (wpAny_pure q))
    · cases hcD
  ne := (handS_kitx_exc (x := x) (ox := ox) hga hgt hsub hdct ha hn htk hm).ne
  ca := fun X I k => kin_classZ hga hgt hsub hdct ha hn htk hm X I k
end
end PySem.W
namespace L2
open PySem PySem.Spec PyProof.Rows PySem.ExX
/-- the type of a value: also of an exception object that is a value -/
inductive TyZ (K : PySem.W.Frag) (H : Hp) : V → Value → Prop where
  | x {v : V} {t : Value} (h : TyX K H v t) : TyZ K H v t
  | exo {a C : Addr} (e : H a = some (ExO (.ref C) a)) (c : ExcC K C) : TyZ K H (.ref a) (.ref C)
  | exd {a C d : Addr} {fs : List (Str × V)} (e : H a = some (ExD C d a)) (ed : H d = some (.xd fs)) (c : ExcC K C) : TyZ K H (.ref a) (.ref C)
section
variable {X : Cx} {pins : List (Addr × Obj)} {σ : St} {H : Hp} {s : Shared}
theorem kit_ofZ {x : V} {u t : Value} (I : Inv X pins σ H s) (rx : RelV x u) (ty : TyZ X.K H x t) : ∃ P : Heap → Prop, PySem.W.KitX X.K u t P ∧ P s.heap ∧ u ≠ .builtin "__main__.__loader__#opaque" := by
  cases ty with
  | x h => exact kit_of I rx h
  | @exo a C e c =>
    cases (show u = Value.ref a from rx)
    obtain ⟨⟨oe, vs, ho, hz, hd, _, _⟩, _, _⟩ := I.hok a _ e
    have J : PySem.W.InstAt s.heap a oe C none := by
      obtain ⟨oc, od, oda, osl⟩ := oe
      obtain ⟨h1, h2⟩ := hz
      dsimp only at h1 h2 hd
      subst h1 h2 hd
      exact ⟨ho, rfl, rfl, trivial⟩
    exact ⟨_, PySem.W.kitx_excZ c.hg c.hk c.hs c.hd c.ha c.hn c.ht c.hm, J, fun z => nomatch z⟩
  | @exd a C d fs e ed c =>
    cases (show u = Value.ref a from rx)
    obtain ⟨⟨oe, vs, ho, hz, hd, _⟩, _, _⟩ := I.hok a _ e
    obtain ⟨mA, hns, _⟩ := (show ObjOk X.prog X.w H s.heap d (.xd fs) from I.hok d _ ed)
    obtain ⟨od, hod, _⟩ := lookIn_ns hns
    have J : PySem.W.InstAt s.heap a oe C (some od) := by
      obtain ⟨oc, odd, oda, osl⟩ := oe
      obtain ⟨h1, h2⟩ := hz
      dsimp only at h1 h2 hd
      subst h1 h2 hd
      exact ⟨ho, rfl, rfl, hod⟩
    exact ⟨_, PySem.W.kitx_excZ c.hg c.hk c.hs c.hd c.ha c.hn c.ht c.hm, J, fun z => nomatch z⟩
end
def rIsiZ (K : PySem.W.Frag) : List V → Hp → VK → Prop := fun xs H Q => ∃ (x c : V) (t u : Value) (b : Bool), xs = [x, c] ∧ ClsV c u ∧ TyZ K H x t ∧ PySem.W.kitOne K t u = some b ∧ Q (.bl b) H
def rIsiTZ (K : PySem.W.Frag) : List V → Hp → VK → Prop := fun xs H Q => ∃ (x : V) (tp : Addr) (cs : List V) (t : Value) (us : List Value) (b : Bool), xs = [x, .ref tp] ∧ H tp = some (.tup cs) ∧ Paired ClsV cs us ∧ TyZ K H x t ∧ PySem.W.kitAny K t us = some b ∧ Q (.bl b) H
section
variable {X : Cx} {K : PySem.W.Frag}
theorem call_isiZ (hK : X.K = K) : CallR X (.builtin "isinstance") (rIsiZ K) := by
  subst hK
  intro pins s σ H xs us Q I r h
  obtain ⟨x, c, t, u, b, rfl, k, ty, e, q⟩ := h
  obtain ⟨u1, u2, rfl, r1, r2⟩ := vals2 r
  have e2 := k.eq r2
  subst e2
  obtain ⟨P, Z, p, hx⟩ := kit_ofZ I r1 ty
  exact PySem.W.kia_one Z I.kIn p e hx fun tk => ⟨.bl b, H, I.tok tk, rfl, q⟩
theorem call_isiTZ (hK : X.K = K) : CallR X (.builtin "isinstance") (rIsiTZ K) := by
  subst hK
  intro pins s σ H xs us Q I r h
  obtain ⟨x, tp, cs, t, ws, b, rfl, hT, k, ty, e, q⟩ := h
  obtain ⟨u1, u2, rfl, r1, r2⟩ := vals2 r
  cases (show u2 = Value.ref tp from r2)
  obtain ⟨P, Z, p, hx⟩ := kit_ofZ I r1 ty
  obtain ⟨_, its, rv, o, h1, h2, n, h3⟩ := (show ObjOk X.prog X.w H s.heap tp (.tup cs) from I.hok tp _ hT)
  have e3 := ClsV.all k rv
  subst e3
  obtain ⟨oc, od, dt, sl⟩ := o
  simp only at h2 h3
  subst h2 h3
  exact PySem.W.kia_tup Z I.kIn p h1 e hx fun tk => ⟨.bl b, H, I.tok tk, rfl, q⟩
end
end L2

set_option Elab.async false
set_option linter.all false
set_option maxRecDepth 100000
set_option maxHeartbeats 4000000
namespace PySem
namespace ExX
open PySem.W PySem.Calls PyProof.Rows
theorem refsEX_of : ∀ l : List Value, excTail exTail l = true → refsEX l = true := by
  intro l
  induction l with
  | nil => intro h; exact absurd h (by decide +kernel)
  | cons a r ih =>
    intro h
    rcases excTail_cases (bmB := exTail) (a :: r) h with ⟨c, r', e, q⟩ | e
    · cases e
      exact ih q
    · rw [e]; rfl
theorem excT_cls {K : Frag} {C : Addr} (q : excInitIn K C exTail "Exception.__new__" = true) (hd : hasDictIn K C = true) :
    ∃ nm q N bs bm sn sub ab col dd k0 k1 k2 k3 k5, K.lookup C = some (excClassObj nm q C N bs bm true sn sub ab col dd k0 k1 k2 k3 k5 "Exception.__new__") ∧ refsEX bm = true := by
  unfold excInitIn at q
  split at q
  · rename_i dd cd sl ho
    split at q
    · rename_i C' bm k0 k1 k2 k3 n k5 hm hs
      simp only [Bool.and_eq_true, beq_iff_eq, Bool.not_eq_true'] at q
      obtain ⟨⟨⟨rfl, rfl⟩, hdel⟩, ht⟩ := q
      obtain ⟨nm, bs, mro, ns, qn, hd', sn, sub, ab, col, del⟩ := cd
      dsimp only at hm hdel
      subst hm hdel
      have hsl : sl = #[k0, k1, k2, k3, some (.builtin "Exception.__new__"), k5] := by
        obtain ⟨l⟩ := sl
        simp only at hs
        rw [hs]
      subst hsl
      have e : hd' = true := by
        unfold hasDictIn at hd
        have hc : clsIn K C' = some ⟨nm, bs, .ref C' :: bm, ns, qn, hd', sn, sub, ab, col, false⟩ := by unfold clsIn; rw [ho]
        rw [hc] at hd
        simpa using hd
      subst e
      exact ⟨nm, qn, ns, bs, bm, sn, sub, ab, col, dd, k0, k1, k2, k3, k5, ho, refsEX_of _ ht⟩
    · cases q
  · cases q
end ExX
end PySem

set_option Elab.async false
set_option linter.all false
set_option maxRecDepth 100000
/-! the rules whose reading names the written part, with that part a letter of its own (within a comprehension the place's own name of it can't be found by unification) -/
namespace L2
open PySem PySem.Spec PyProof.Rows
variable {X : Cx} {K : PySem.W.Frag}
theorem ix_listK (h : X.K = K) : IxR X (rIxL K) := by subst h; exact ix_list
theorem ix_tupK (h : X.K = K) : IxR X (rIxT K) := by subst h; exact ix_tup
theorem call_tuple_ofK (h : X.K = K) : CallR X (.type "tuple") (fun xs H Q => ∃ p ys, xs = [.ref p] ∧ ((SqL K H p ys ∧ ∀ l, H l = none → Q (.ref l) (upd H l (.tup ys))) ∨ (SqT K H p ys ∧ Q (.ref p) H))) := by subst h; exact call_tuple_of
theorem call_list_ofK (h : X.K = K) : CallR X (.type "list") (fun xs H Q => ∃ p ys, xs = [.ref p] ∧ (SqL K H p ys ∨ SqT K H p ys) ∧ ∀ l, H l = none → Q (.ref l) (upd H l (.lst ys))) := by subst h; exact call_list_of
theorem call_len_seqK (h : X.K = K) : CallR X (.builtin "len") (fun xs H Q => ∃ p ys, xs = [.ref p] ∧ (SqL K H p ys ∨ SqT K H p ys) ∧ Q (.int ys.length) H) := by subst h; exact call_len_seq
theorem call_isiK' (h : X.K = K) : CallR X (.builtin "isinstance") (rIsi K) := by subst h; exact call_isi
theorem call_isiTK (h : X.K = K) : CallR X (.builtin "isinstance") (rIsiT K) := by subst h; exact call_isiT
theorem sl_listK (h : X.K = K) : SlR X (rSlL K) := by subst h; exact sl_list
theorem cr_allK (h : X.K = K) (hc : X.calm = true) : CallR X (.builtin "all") (rAll K) := by subst h; exact cr_all hc
theorem cr_anyK (h : X.K = K) (hc : X.calm = true) : CallR X (.builtin "any") (rAny K) := by subst h; exact cr_any hc
theorem cr_sumK (h : X.K = K) (hc : X.calm = true) : CallR X (.builtin "sum") (rSum K) := by subst h; exact cr_sum hc
end L2

set_option Elab.async false
set_option linter.all false
set_option maxRecDepth 100000
set_option maxHeartbeats 4000000
/-! zip of two texts, in a for and in a comprehension -/
namespace L2
open PySem PySem.Spec PyProof.Rows
/-- two texts at once, the signs in new pairs -/
def ItzS (x y : Str) : It :=
  ⟨fun i _ => i < min x.cps.size y.cps.size,
    fun i H v H' => ∃ T c d, v = .ref T ∧ H T = none ∧ H' = upd H T (.tup [.str ⟨#[c]⟩, .str ⟨#[d]⟩]) ∧ x.cps[i]? = some c ∧ y.cps[i]? = some d,
    fun i _ => i = min x.cps.size y.cps.size⟩
theorem turn_zipS {P : Program} {w : World} {K : PySem.W.Frag} {elts : List Expr} {kk : Nat} {tpos : Pos} {x y : Str} {t1 t2 : Tok} {z TI TO i1 i2 : Addr} (D : ZipSep2 z TI TO i1 i2 [i1] [i2]) :
    Turn P w K (.Tuple elts kk tpos) (ItzS x y) [z, TI, TO, i1, i2] z (fun i h => IsZip h z TI TO .none ∧ IsTupOf2 h TI (.ref i1) (.ref i2) ∧ (∃ x y, IsTupOf2 h TO x y) ∧ h.IsStrIter i1 (strIterType x) x t1 i ∧ h.IsStrIter i2 (strIterType y) y t2 i) where
  mem := by simp
  obj := fun i h st c hc => by
    obtain ⟨hz, hTI, ⟨x, y, hTO⟩, ⟨o1, e1, _, d1⟩, ⟨o2, e2, _, d2⟩⟩ := st
    have e' : c = z ∨ c = TI ∨ c = TO ∨ c = i1 ∨ c = i2 := by simpa using hc
    rcases e' with q | q | q | q | q
    · rw [q]; exact ⟨_, hz, fun v q => nomatch q⟩
    · rw [q]; exact ⟨_, hTI, fun v q => nomatch q⟩
    · rw [q]; exact ⟨_, hTO, fun v q => nomatch q⟩
    · rw [q]; exact ⟨o1, e1, fun v q => by rw [d1] at q; cases q⟩
    · rw [q]; exact ⟨o2, e2, fun v q => by rw [d2] at q; cases q⟩
  keep := fun i h h' st k => by
    obtain ⟨hz, hTI, ⟨x, y, hTO⟩, ⟨o1, e1, r1⟩, ⟨o2, e2, r2⟩⟩ := st
    exact ⟨k z (by simp) _ hz, k TI (by simp) _ hTI, ⟨x, y, k TO (by simp) _ hTO⟩, ⟨o1, k i1 (by simp) _ e1, r1⟩, ⟨o2, k i2 (by simp) _ e2, r2⟩⟩
  item := by
    intro X hP hw hK hc i pins s σ H E I hf st hg
    subst hP hw hK
    obtain ⟨hz, hTI, ⟨x0, y0, hTO⟩, h1, h2⟩ := st
    have hg' : i < min x.cps.size y.cps.size := hg
    have hzl : z < s.heap.objs.size := Heap.lt_size hz
    have hd := I.ok.hd hc
    refine wpAny_pyNext_zipD2_item D (Draws.text (A := X.A.in1) hd i1 x t1) (Draws.text (A := X.A.in1) hd i2 y t2) hz hTI hTO h1 h2 (by omega) (by omega) fun u u2 h' tk p1 p2 z' TO' h1' h2' hT hsz hk => ?_
    obtain ⟨c, tc, hcx, rfl⟩ := p1
    obtain ⟨d, td, hdy, rfl⟩ := p2
    refine ⟨_, rfl, wpAny_letOwnedTupleGo_zip (s := { s with heap := h', toks := tk }) z' fun h'' z'' sb => ?_⟩
    have hT2 : h''.get? s.heap.objs.size = some { cls := .type "tuple", data := .seq #[.str ⟨#[c]⟩ tc, .str ⟨#[d]⟩ td] } := (sb.2 _ (Nat.ne_of_gt hzl)).trans hT
    have new : ObjOk X.prog X.w (upd H s.heap.objs.size (.tup [.str ⟨#[c]⟩, .str ⟨#[d]⟩])) h'' s.heap.objs.size (.tup [.str ⟨#[c]⟩, .str ⟨#[d]⟩]) :=
      ⟨by show 2 ≤ sizeLine; decide, [.str ⟨#[c]⟩ tc, .str ⟨#[d]⟩ td], .cons ⟨_, rfl⟩ (.cons ⟨_, rfl⟩ .nil), ⟨_, hT2, rfl, _, rfl⟩⟩
    have I1 : Inv X pins σ (upd H s.heap.objs.size (.tup [.str ⟨#[c]⟩, .str ⟨#[d]⟩])) { s with heap := h'', toks := tk } :=
      I.turnedNew (t' := tk) (ch := [z, TI, TO, i1, i2]) (fun c o hb q => (sb.2 c (fun q' => hb (by simp [q']))).trans (hk c o (fun q' => hb (by simp [q'])) (fun q' => hb (by simp [q'])) (fun q' => hb (by simp [q'])) (fun q' => hb (by simp [q'])) q)) hf (Nat.le_refl _) new
    have nz1 : i1 ≠ z := D.zi1.symm
    have nz2 : i2 ≠ z := D.zi2.symm
    refine ⟨.ref s.heap.objs.size, _, I1, rfl, ⟨_, c, d, rfl, I.hok.fresh (Nat.le_refl _), rfl, hcx, hdy⟩, ⟨z'', ?_, ⟨_, _, (sb.2 _ D.TOz).trans TO'⟩, ?_, ?_⟩, fun c hcm => ?_⟩
    · exact (sb.2 _ D.TIz).trans (hk _ _ D.TIz D.TITO D.TIi1 D.TIi2 hTI)
    · obtain ⟨o, e, r⟩ := h1'
      exact ⟨o, (sb.2 _ nz1).trans e, r⟩
    · obtain ⟨o, e, r⟩ := h2'
      exact ⟨o, (sb.2 _ nz2).trans e, r⟩
    · have hlt : c < s.heap.objs.size := by
        have e' : c = z ∨ c = TI ∨ c = TO ∨ c = i1 ∨ c = i2 := by simpa using hcm
        rcases e' with q | q | q | q | q
        · rw [q]; exact hzl
        · rw [q]; exact Heap.lt_size hTI
        · rw [q]; exact Heap.lt_size hTO
        · rw [q]; obtain ⟨_, e1, _⟩ := h1; exact Heap.lt_size e1
        · rw [q]; obtain ⟨_, e2, _⟩ := h2; exact Heap.lt_size e2
      rw [upd_ne (Nat.ne_of_lt hlt)]
      exact (hf c hcm).1
  done := by
    intro X hP hw hK hc i pins s σ H E I hf st hg
    subst hP hw hK
    obtain ⟨hz, hTI, ⟨x0, y0, hTO⟩, h1, h2⟩ := st
    have hg' : i = min x.cps.size y.cps.size := hg
    have hd := I.ok.hd hc
    exact wpAny_pyNext_zipD2_end D (Draws.text (A := X.A.in1) hd i1 x t1) (Draws.text (A := X.A.in1) hd i2 y t2) hz hTI hTO h1 h2 (by omega) (by omega) (by omega) fun h' tk hk => ⟨rfl, I.turnedL (t' := tk) (ch := [z, TI, TO, i1, i2]) (fun c o hb q =>
      hk c o (fun q' => hb (by simp [q'])) (fun q' => hb (by simp [q'])) (fun q' => hb (by simp [q'])) (fun q' => hb (by simp [q'])) q) hf⟩
  self := fun A i s Q E st h => wpAny_pyIter_zip st.1 h
def iZipS (ta : TA) : TI := fun σ H R => ta σ H fun vs H1 => ∃ x y, vs = [.str x, .str y] ∧ R (ItzS x y) H1
theorem pi_zipS {X : Cx} {e e2 : Expr} {ta : TA} {p pos tpos : Pos} {elts : List Expr} {kk : Nat} (hg : Gl X "zip") (hm : X.mg "zip" = none) (ha : PA X [e, e2] ta)
    (hs : starEach [e, e2] X.env = (false, eval e X.env) :: starEach [e2] X.env := by rfl) (hpl : (backTo pos (starEach [e2] X.env)).any (·.1) = false := by rfl) :
    PI X (.Tuple elts kk tpos) (.Call (.Name "zip" p) [e, e2] [] pos) (iZipS ta) := by
  refine ⟨fun pins s σ H R I h => ?_⟩
  refine Call_ (ld_blt I hg hm PyProof.Rows.boot_zip (PyProof.Rows.callWith_type1 (thn (ha.run pos pins s σ H _ I h) fun us s1 ⟨vs, H1, I1, r1, q1⟩ => ?_) hs hpl))
  obtain ⟨x, y, ex, q⟩ := q1
  subst ex
  cases r1 with
  | cons r rr =>
    cases rr with
    | cons r' rr =>
      cases rr
      obtain ⟨t1, rfl⟩ := r
      obtain ⟨t2, rfl⟩ := r'
      refine zip_begins2 (begins_text x t1) (begins_text y t2) trivial trivial fun h' hz hTI hTO h1 h2 hsz hk => wpAny_pyIter_zip hz ?_
      have I2 : Inv X pins σ H1 { s1 with heap := h' } := I1.kept (t' := s1.toks) hk
      generalize hn : s1.heap.objs.size = n at hz hTI hTO h1 h2 hsz ⊢
      have D : ZipSep2 (n + 4) (n + 2) (n + 3) n (n + 1) [n] [n + 1] := by constructor <;> simp <;> omega
      refine ⟨n + 4, [n + 4, n + 2, n + 3, n, n + 1], _, _, H1, rfl, I2, turn_zipS (t1 := t1) (t2 := t2) D, ⟨hz, hTI, ⟨_, _, hTO⟩, ⟨_, h1, rfl, rfl⟩, ⟨_, h2, rfl, rfl⟩⟩, fun c hcm => ?_, q⟩
      have e' : c = n + 4 ∨ c = n + 2 ∨ c = n + 3 ∨ c = n ∨ c = n + 1 := by simpa using hcm
      have hle : s1.heap.objs.size ≤ c := by
        rw [hn]
        rcases e' with q | q | q | q | q
        · rw [q]; exact Nat.le_add_right _ _
        · rw [q]; exact Nat.le_add_right _ _
        · rw [q]; exact Nat.le_add_right _ _
        · rw [q]; exact Nat.le_refl _
        · rw [q]; exact Nat.le_add_right _ _
      exact I1.fpOk hle (I1.hok.fresh hle)
end L2

set_option Elab.async false
set_option linter.all false
set_option maxRecDepth 100000
set_option maxHeartbeats 4000000
namespace J
open PySem L2
def topS (i : Nat) : Stmt := PySem.Challenge.pw_onewayread_k77_wrong_pages_of_looms.main.body.getD i (.Pass ⟨0, 0, 0, 0⟩)
abbrev s_InvalidLoom_init : Stmt := inClass (topS 2) 0
abbrev N_InvalidLoom_init : List Str := ["self", "part", "at"]
abbrev P_InvalidLoom_init : List Str := ["self", "part", "at"]
theorem sc_InvalidLoom_init : FnScope N_InvalidLoom_init P_InvalidLoom_init (defScope s_InvalidLoom_init) := ⟨rfl, rfl, rfl, by decide +kernel, rfl, by decide +kernel, by decide +kernel⟩
abbrev s_InvalidPage_init : Stmt := inClass (topS 3) 0
abbrev N_InvalidPage_init : List Str := ["self", "line"]
abbrev P_InvalidPage_init : List Str := ["self", "line"]
theorem sc_InvalidPage_init : FnScope N_InvalidPage_init P_InvalidPage_init (defScope s_InvalidPage_init) := ⟨rfl, rfl, rfl, by decide +kernel, rfl, by decide +kernel, by decide +kernel⟩
abbrev s_is_number : Stmt := topS 8
abbrev N_is_number : List Str := ["thing", "low", "high"]
abbrev P_is_number : List Str := ["thing", "low", "high"]
theorem sc_is_number : FnScope N_is_number P_is_number (defScope s_is_number) := ⟨rfl, rfl, rfl, by decide +kernel, rfl, by decide +kernel, by decide +kernel⟩
abbrev s_is_sequence : Stmt := topS 9
abbrev N_is_sequence : List Str := ["thing", "fewest", "most"]
abbrev P_is_sequence : List Str := ["thing", "fewest", "most"]
theorem sc_is_sequence : FnScope N_is_sequence P_is_sequence (defScope s_is_sequence) := ⟨rfl, rfl, rfl, by decide +kernel, rfl, by decide +kernel, by decide +kernel⟩
abbrev s_is_signs : Stmt := topS 10
abbrev N_is_signs : List Str := ["thing", "letters", "sign", "one", "other"]
abbrev P_is_signs : List Str := ["thing"]
theorem sc_is_signs : FnScope N_is_signs P_is_signs (defScope s_is_signs) := ⟨rfl, rfl, rfl, by decide +kernel, rfl, by decide +kernel, by decide +kernel⟩
abbrev s_is_string_over : Stmt := topS 11
abbrev N_is_string_over : List Str := ["signs", "thing", "fewest", "most", "sign"]
abbrev P_is_string_over : List Str := ["signs", "thing", "fewest", "most"]
theorem sc_is_string_over : FnScope N_is_string_over P_is_string_over (defScope s_is_string_over) := ⟨rfl, rfl, rfl, by decide +kernel, rfl, by decide +kernel, by decide +kernel⟩
abbrev s_is_word : Stmt := topS 12
abbrev N_is_word : List Str := ["signs", "thing"]
abbrev P_is_word : List Str := ["signs", "thing"]
theorem sc_is_word : FnScope N_is_word P_is_word (defScope s_is_word) := ⟨rfl, rfl, rfl, by decide +kernel, rfl, by decide +kernel, by decide +kernel⟩
abbrev s_check_signs : Stmt := topS 13
abbrev N_check_signs : List Str := ["signs"]
abbrev P_check_signs : List Str := ["signs"]
theorem sc_check_signs : FnScope N_check_signs P_check_signs (defScope s_check_signs) := ⟨rfl, rfl, rfl, by decide +kernel, rfl, by decide +kernel, by decide +kernel⟩
abbrev s_is_arc : Stmt := topS 16
abbrev N_is_arc : List Str := ["signs", "thing", "state", "word", "goal"]
abbrev P_is_arc : List Str := ["signs", "thing"]
theorem sc_is_arc : FnScope N_is_arc P_is_arc (defScope s_is_arc) := ⟨rfl, rfl, rfl, by decide +kernel, rfl, by decide +kernel, by decide +kernel⟩
abbrev s_Loom_init : Stmt := inClass (topS 17) 0
abbrev N_Loom_init : List Str := ["self", "signs", "arcs", "at", "arc"]
abbrev P_Loom_init : List Str := ["self", "signs", "arcs"]
theorem sc_Loom_init : FnScope N_Loom_init P_Loom_init (defScope s_Loom_init) := ⟨rfl, rfl, rfl, by decide +kernel, rfl, by decide +kernel, by decide +kernel⟩
abbrev s_Loom_eq : Stmt := inClass (topS 17) 1
abbrev N_Loom_eq : List Str := ["self", "other"]
abbrev P_Loom_eq : List Str := ["self", "other"]
theorem sc_Loom_eq : FnScope N_Loom_eq P_Loom_eq (defScope s_Loom_eq) := ⟨rfl, rfl, rfl, by decide +kernel, rfl, by decide +kernel, by decide +kernel⟩
abbrev s_write_loom : Stmt := topS 19
abbrev N_write_loom : List Str := ["loom", "lines", "state", "word", "goal", "line"]
abbrev P_write_loom : List Str := ["loom"]
theorem sc_write_loom : FnScope N_write_loom P_write_loom (defScope s_write_loom) := ⟨rfl, rfl, rfl, by decide +kernel, rfl, by decide +kernel, by decide +kernel⟩
abbrev s_numbers_up_to : Stmt := topS 20
abbrev N_numbers_up_to : List Str := ["last", "number"]
abbrev P_numbers_up_to : List Str := ["last"]
theorem sc_numbers_up_to : FnScope N_numbers_up_to P_numbers_up_to (defScope s_numbers_up_to) := ⟨rfl, rfl, rfl, by decide +kernel, rfl, by decide +kernel, by decide +kernel⟩
abbrev s_arc_in : Stmt := topS 21
abbrev N_arc_in : List Str := ["signs", "line", "parts", "states"]
abbrev P_arc_in : List Str := ["signs", "line"]
theorem sc_arc_in : FnScope N_arc_in P_arc_in (defScope s_arc_in) := ⟨rfl, rfl, rfl, by decide +kernel, rfl, by decide +kernel, by decide +kernel⟩
abbrev s_signs_in : Stmt := topS 22
abbrev N_signs_in : List Str := ["line", "parts"]
abbrev P_signs_in : List Str := ["line"]
theorem sc_signs_in : FnScope N_signs_in P_signs_in (defScope s_signs_in) := ⟨rfl, rfl, rfl, by decide +kernel, rfl, by decide +kernel, by decide +kernel⟩
abbrev s_read_loom : Stmt := topS 23
abbrev N_read_loom : List Str := ["text", "lines", "left", "signs", "arcs", "at", "line", "arc"]
abbrev P_read_loom : List Str := ["text"]
theorem sc_read_loom : FnScope N_read_loom P_read_loom (defScope s_read_loom) := ⟨rfl, rfl, rfl, by decide +kernel, rfl, by decide +kernel, by decide +kernel⟩
abbrev s_l_pool : Stmt := topS 25
abbrev N_l_pool : List Str := ["_law_script", "_law_cells", "_law_great", "_law_small", "_law_cell"]
abbrev P_l_pool : List Str := ["_law_script"]
theorem sc_l_pool : FnScope N_l_pool P_l_pool (defScope s_l_pool) := ⟨rfl, rfl, rfl, by decide +kernel, rfl, by decide +kernel, by decide +kernel⟩
abbrev s_l_draw : Stmt := topS 26
abbrev N_l_draw : List Str := ["_law_pool_here", "_law_much", "_law_great", "_law_digit", "_law_seed", "_law_number"]
abbrev P_l_draw : List Str := ["_law_pool_here", "_law_much"]
theorem sc_l_draw : FnScope N_l_draw P_l_draw (defScope s_l_draw) := ⟨rfl, rfl, rfl, by decide +kernel, rfl, by decide +kernel, by decide +kernel⟩
abbrev s_l_pick : Stmt := topS 27
abbrev N_l_pick : List Str := ["_law_pool_here", "_law_items"]
abbrev P_l_pick : List Str := ["_law_pool_here", "_law_items"]
theorem sc_l_pick : FnScope N_l_pick P_l_pick (defScope s_l_pick) := ⟨rfl, rfl, rfl, by decide +kernel, rfl, by decide +kernel, by decide +kernel⟩
abbrev s_l_sign_row : Stmt := topS 28
abbrev N_l_sign_row : List Str := ["_law_pool_here", "_law_least_so", "_law_much", "_law_first", "_law_found", "_law_k"]
abbrev P_l_sign_row : List Str := ["_law_pool_here", "_law_least_so"]
theorem sc_l_sign_row : FnScope N_l_sign_row P_l_sign_row (defScope s_l_sign_row) := ⟨rfl, rfl, rfl, by decide +kernel, rfl, by decide +kernel, by decide +kernel⟩
abbrev s_l_any_word : Stmt := topS 29
abbrev N_l_any_word : List Str := ["_law_pool_here", "_law_sigma", "_law_most", "_law_k"]
abbrev P_l_any_word : List Str := ["_law_pool_here", "_law_sigma", "_law_most"]
theorem sc_l_any_word : FnScope N_l_any_word P_l_any_word (defScope s_l_any_word) := ⟨rfl, rfl, rfl, by decide +kernel, rfl, by decide +kernel, by decide +kernel⟩
abbrev s_l_any_arcs : Stmt := topS 30
abbrev N_l_any_arcs : List Str := ["_law_pool_here", "_law_sigma", "_law_much", "_law_most", "_law_spots", "_law_found", "_law_k"]
abbrev P_l_any_arcs : List Str := ["_law_pool_here", "_law_sigma", "_law_much", "_law_most"]
theorem sc_l_any_arcs : FnScope N_l_any_arcs P_l_any_arcs (defScope s_l_any_arcs) := ⟨rfl, rfl, rfl, by decide +kernel, rfl, by decide +kernel, by decide +kernel⟩
abbrev s_l_are_signs : Stmt := topS 31
abbrev N_l_are_signs : List Str := ["_law_piece", "_law_k", "_law_sign"]
abbrev P_l_are_signs : List Str := ["_law_piece"]
theorem sc_l_are_signs : FnScope N_l_are_signs P_l_are_signs (defScope s_l_are_signs) := ⟨rfl, rfl, rfl, by decide +kernel, rfl, by decide +kernel, by decide +kernel⟩
abbrev s_l_is_state : Stmt := topS 32
abbrev N_l_is_state : List Str := ["_law_piece", "_law_k"]
abbrev P_l_is_state : List Str := ["_law_piece"]
theorem sc_l_is_state : FnScope N_l_is_state P_l_is_state (defScope s_l_is_state) := ⟨rfl, rfl, rfl, by decide +kernel, rfl, by decide +kernel, by decide +kernel⟩
abbrev s_l_is_line : Stmt := topS 33
abbrev N_l_is_line : List Str := ["_law_piece", "_law_sigma", "_law_parts", "_law_sign"]
abbrev P_l_is_line : List Str := ["_law_piece", "_law_sigma"]
theorem sc_l_is_line : FnScope N_l_is_line P_l_is_line (defScope s_l_is_line) := ⟨rfl, rfl, rfl, by decide +kernel, rfl, by decide +kernel, by decide +kernel⟩
abbrev s_l_due : Stmt := topS 34
abbrev N_l_due : List Str := ["_law_page", "_law_lines", "_law_parts", "_law_k"]
abbrev P_l_due : List Str := ["_law_page"]
theorem sc_l_due : FnScope N_l_due P_l_due (defScope s_l_due) := ⟨rfl, rfl, rfl, by decide +kernel, rfl, by decide +kernel, by decide +kernel⟩
abbrev s_l_spoiled : Stmt := topS 35
abbrev N_l_spoiled : List Str := ["_law_pool_here", "_law_page", "_law_at", "_law_sign", "_law_lines", "_law_spot", "_law_kind", "_law_odd", "_law_more"]
abbrev P_l_spoiled : List Str := ["_law_pool_here", "_law_page"]
theorem sc_l_spoiled : FnScope N_l_spoiled P_l_spoiled (defScope s_l_spoiled) := ⟨rfl, rfl, rfl, by decide +kernel, rfl, by decide +kernel, by decide +kernel⟩
abbrev s_l_told : Stmt := topS 36
abbrev N_l_told : List Str := ["_law_page", "e"]
abbrev P_l_told : List Str := ["_law_page"]
theorem sc_l_told : FnScope N_l_told P_l_told (defScope s_l_told) := ⟨rfl, rfl, rfl, by decide +kernel, rfl, by decide +kernel, by decide +kernel⟩
abbrev s_law : Stmt := topS 37
abbrev N_law : List Str := ["_law_script", "_law_pool_here", "_law_turn", "_law_sigma", "_law_page", "_law_lap", "_law_due_here", "_law_told_here", "_law_strange"]
abbrev P_law : List Str := ["_law_script"]
theorem sc_law : FnScope N_law P_law (defScope s_law) := ⟨rfl, rfl, rfl, by decide +kernel, rfl, by decide +kernel, by decide +kernel⟩
/-- what the top has written -/
structure Tx (K : PySem.W.Frag) (mg : Str → Option Value) : Type where
  f_InvalidLoom_init : Addr
  fd_InvalidLoom_init : FuncData
  F_InvalidLoom_init : Fun K "__init__" "InvalidLoom.__init__" s_InvalidLoom_init f_InvalidLoom_init fd_InvalidLoom_init
  b_InvalidLoom_init : Binds K fd_InvalidLoom_init P_InvalidLoom_init []
  f_InvalidPage_init : Addr
  fd_InvalidPage_init : FuncData
  F_InvalidPage_init : Fun K "__init__" "InvalidPage.__init__" s_InvalidPage_init f_InvalidPage_init fd_InvalidPage_init
  b_InvalidPage_init : Binds K fd_InvalidPage_init P_InvalidPage_init []
  f_is_number : Addr
  fd_is_number : FuncData
  F_is_number : Fun K "is_number" "is_number" s_is_number f_is_number fd_is_number
  b_is_number : Binds K fd_is_number P_is_number []
  m_is_number : mg "is_number" = some (.ref f_is_number)
  f_is_sequence : Addr
  fd_is_sequence : FuncData
  F_is_sequence : Fun K "is_sequence" "is_sequence" s_is_sequence f_is_sequence fd_is_sequence
  b_is_sequence : Binds K fd_is_sequence P_is_sequence []
  m_is_sequence : mg "is_sequence" = some (.ref f_is_sequence)
  f_is_signs : Addr
  fd_is_signs : FuncData
  F_is_signs : Fun K "is_signs" "is_signs" s_is_signs f_is_signs fd_is_signs
  b_is_signs : Binds K fd_is_signs P_is_signs []
  m_is_signs : mg "is_signs" = some (.ref f_is_signs)
  f_is_string_over : Addr
  fd_is_string_over : FuncData
  F_is_string_over : Fun K "is_string_over" "is_string_over" s_is_string_over f_is_string_over fd_is_string_over
  b_is_string_over : Binds K fd_is_string_over P_is_string_over []
  m_is_string_over : mg "is_string_over" = some (.ref f_is_string_over)
  f_is_word : Addr
  fd_is_word : FuncData
  F_is_word : Fun K "is_word" "is_word" s_is_word f_is_word fd_is_word
  b_is_word : Binds K fd_is_word P_is_word []
  m_is_word : mg "is_word" = some (.ref f_is_word)
  f_check_signs : Addr
  fd_check_signs : FuncData
  F_check_signs : Fun K "check_signs" "check_signs" s_check_signs f_check_signs fd_check_signs
  b_check_signs : Binds K fd_check_signs P_check_signs []
  m_check_signs : mg "check_signs" = some (.ref f_check_signs)
  f_is_arc : Addr
  fd_is_arc : FuncData
  F_is_arc : Fun K "is_arc" "is_arc" s_is_arc f_is_arc fd_is_arc
  b_is_arc : Binds K fd_is_arc P_is_arc []
  m_is_arc : mg "is_arc" = some (.ref f_is_arc)
  f_Loom_init : Addr
  fd_Loom_init : FuncData
  F_Loom_init : Fun K "__init__" "Loom.__init__" s_Loom_init f_Loom_init fd_Loom_init
  b_Loom_init : Binds K fd_Loom_init P_Loom_init []
  f_Loom_eq : Addr
  fd_Loom_eq : FuncData
  F_Loom_eq : Fun K "__eq__" "Loom.__eq__" s_Loom_eq f_Loom_eq fd_Loom_eq
  b_Loom_eq : Binds K fd_Loom_eq P_Loom_eq []
  f_write_loom : Addr
  fd_write_loom : FuncData
  F_write_loom : Fun K "write_loom" "write_loom" s_write_loom f_write_loom fd_write_loom
  b_write_loom : Binds K fd_write_loom P_write_loom []
  m_write_loom : mg "write_loom" = some (.ref f_write_loom)
  f_numbers_up_to : Addr
  fd_numbers_up_to : FuncData
  F_numbers_up_to : Fun K "numbers_up_to" "numbers_up_to" s_numbers_up_to f_numbers_up_to fd_numbers_up_to
  b_numbers_up_to : Binds K fd_numbers_up_to P_numbers_up_to []
  m_numbers_up_to : mg "numbers_up_to" = some (.ref f_numbers_up_to)
  f_arc_in : Addr
  fd_arc_in : FuncData
  F_arc_in : Fun K "arc_in" "arc_in" s_arc_in f_arc_in fd_arc_in
  b_arc_in : Binds K fd_arc_in P_arc_in []
  m_arc_in : mg "arc_in" = some (.ref f_arc_in)
  f_signs_in : Addr
  fd_signs_in : FuncData
  F_signs_in : Fun K "signs_in" "signs_in" s_signs_in f_signs_in fd_signs_in
  b_signs_in : Binds K fd_signs_in P_signs_in []
  m_signs_in : mg "signs_in" = some (.ref f_signs_in)
  f_read_loom : Addr
  fd_read_loom : FuncData
  F_read_loom : Fun K "read_loom" "read_loom" s_read_loom f_read_loom fd_read_loom
  b_read_loom : Binds K fd_read_loom P_read_loom []
  m_read_loom : mg "read_loom" = some (.ref f_read_loom)
  f_l_pool : Addr
  fd_l_pool : FuncData
  F_l_pool : Fun K "_law_pool" "_law_pool" s_l_pool f_l_pool fd_l_pool
  b_l_pool : Binds K fd_l_pool P_l_pool []
  m_l_pool : mg "_law_pool" = some (.ref f_l_pool)
  f_l_draw : Addr
  fd_l_draw : FuncData
  F_l_draw : Fun K "_law_draw" "_law_draw" s_l_draw f_l_draw fd_l_draw
  b_l_draw : Binds K fd_l_draw P_l_draw []
  m_l_draw : mg "_law_draw" = some (.ref f_l_draw)
  f_l_pick : Addr
  fd_l_pick : FuncData
  F_l_pick : Fun K "_law_pick" "_law_pick" s_l_pick f_l_pick fd_l_pick
  b_l_pick : Binds K fd_l_pick P_l_pick []
  m_l_pick : mg "_law_pick" = some (.ref f_l_pick)
  f_l_sign_row : Addr
  fd_l_sign_row : FuncData
  F_l_sign_row : Fun K "_law_sign_row" "_law_sign_row" s_l_sign_row f_l_sign_row fd_l_sign_row
  b_l_sign_row : Binds K fd_l_sign_row P_l_sign_row []
  m_l_sign_row : mg "_law_sign_row" = some (.ref f_l_sign_row)
  f_l_any_word : Addr
  fd_l_any_word : FuncData
  F_l_any_word : Fun K "_law_any_word" "_law_any_word" s_l_any_word f_l_any_word fd_l_any_word
  b_l_any_word : Binds K fd_l_any_word P_l_any_word []
  m_l_any_word : mg "_law_any_word" = some (.ref f_l_any_word)
  f_l_any_arcs : Addr
  fd_l_any_arcs : FuncData
  F_l_any_arcs : Fun K "_law_any_arcs" "_law_any_arcs" s_l_any_arcs f_l_any_arcs fd_l_any_arcs
  b_l_any_arcs : Binds K fd_l_any_arcs P_l_any_arcs []
  m_l_any_arcs : mg "_law_any_arcs" = some (.ref f_l_any_arcs)
  f_l_are_signs : Addr
  fd_l_are_signs : FuncData
  F_l_are_signs : Fun K "_law_are_signs" "_law_are_signs" s_l_are_signs f_l_are_signs fd_l_are_signs
  b_l_are_signs : Binds K fd_l_are_signs P_l_are_signs []
  m_l_are_signs : mg "_law_are_signs" = some (.ref f_l_are_signs)
  f_l_is_state : Addr
  fd_l_is_state : FuncData
  F_l_is_state : Fun K "_law_is_state" "_law_is_state" s_l_is_state f_l_is_state fd_l_is_state
  b_l_is_state : Binds K fd_l_is_state P_l_is_state []
  m_l_is_state : mg "_law_is_state" = some (.ref f_l_is_state)
  f_l_is_line : Addr
  fd_l_is_line : FuncData
  F_l_is_line : Fun K "_law_is_line" "_law_is_line" s_l_is_line f_l_is_line fd_l_is_line
  b_l_is_line : Binds K fd_l_is_line P_l_is_line []
  m_l_is_line : mg "_law_is_line" = some (.ref f_l_is_line)
  f_l_due : Addr
  fd_l_due : FuncData
  F_l_due : Fun K "_law_due" "_law_due" s_l_due f_l_due fd_l_due
  b_l_due : Binds K fd_l_due P_l_due []
  m_l_due : mg "_law_due" = some (.ref f_l_due)
  f_l_spoiled : Addr
  fd_l_spoiled : FuncData
  F_l_spoiled : Fun K "_law_spoiled" "_law_spoiled" s_l_spoiled f_l_spoiled fd_l_spoiled
  b_l_spoiled : Binds K fd_l_spoiled P_l_spoiled []
  m_l_spoiled : mg "_law_spoiled" = some (.ref f_l_spoiled)
  f_l_told : Addr
  fd_l_told : FuncData
  F_l_told : Fun K "_law_told" "_law_told" s_l_told f_l_told fd_l_told
  b_l_told : Binds K fd_l_told P_l_told []
  m_l_told : mg "_law_told" = some (.ref f_l_told)
  f_law : Addr
  fd_law : FuncData
  F_law : Fun K "law" "law" s_law f_law fd_law
  b_law : Binds K fd_law P_law []
  m_law : mg "law" = some (.ref f_law)
  n_abs : mg "abs" = none
  n_all : mg "all" = none
  n_bool : mg "bool" = none
  n_enumerate : mg "enumerate" = none
  n_int : mg "int" = none
  n_isinstance : mg "isinstance" = none
  n_len : mg "len" = none
  n_list : mg "list" = none
  n_max : mg "max" = none
  n_range : mg "range" = none
  n_str : mg "str" = none
  n_tuple : mg "tuple" = none
  n_zip : mg "zip" = none
  t_MOST_SIGNS : Tok
  g_MOST_SIGNS : mg "MOST_SIGNS" = some (.int 4 t_MOST_SIGNS)
  t_LONGEST_WORD : Tok
  g_LONGEST_WORD : mg "LONGEST_WORD" = some (.int 12 t_LONGEST_WORD)
  t_LAST_STATE : Tok
  g_LAST_STATE : mg "LAST_STATE" = some (.int 63 t_LAST_STATE)
  t_MOST_ARCS : Tok
  g_MOST_ARCS : mg "MOST_ARCS" = some (.int 200 t_MOST_ARCS)
  C_Loom : Addr
  M_Loom : Mk K C_Loom f_Loom_init
  cl_Loom : Cls K C_Loom
  g_Loom : mg "Loom" = some (.ref C_Loom)
  na_Loom_signs : NoAttr K C_Loom "signs"
  na_Loom_arcs : NoAttr K C_Loom "arcs"
  C_ReadError : Addr
  C_InvalidPage : Addr
  g_ReadError : mg "ReadError" = some (.ref C_ReadError)
  kc_ReadError : PySem.W.keepIn K (.ref C_ReadError) = true
  E_ReadError : ExcC K C_ReadError
  ty_ReadError : PySem.W.typeIn K (.ref C_ReadError) = some (.type "type")
  in_ReadError : PySem.W.excIn K C_ReadError [.type "Exception", .type "BaseException", .type "object"] "Exception.__new__" = true
  g_InvalidPage : mg "InvalidPage" = some (.ref C_InvalidPage)
  kc_InvalidPage : PySem.W.keepIn K (.ref C_InvalidPage) = true
  E_InvalidPage : ExcC K C_InvalidPage
  ty_InvalidPage : PySem.W.typeIn K (.ref C_InvalidPage) = some (.type "type")
  X_InvalidPage : PySem.ExX.ExcT K mg C_InvalidPage f_InvalidPage_init "InvalidPage" ["line"] "InvalidPage.__init__" s_InvalidPage_init
  ic_Loom : PySem.W.findIn K (.ref C_Loom) "__class__" = some (some (.builtin "object.__class__"))
  ig : PySem.W.specialIn K (.builtin "object.__class__") "__get__" = some (some (.builtin "getset_descriptor.__get__"))
  it : PySem.W.takesIn K (.builtin "object.__class__") = some true
  im_Loom : PySem.W.mroIn K C_Loom (.type "object") = some true
  eq_Loom : PySem.W.findIn K (.ref C_Loom) "__eq__" = some (some (.ref f_Loom_eq))
  fn_Loom_eq : PySem.W.isFn K (.ref f_Loom_eq) = true
  ne_Loom : PySem.W.findIn K (.ref C_Loom) "__ne__" = some (some (.builtin "object.__ne__"))
  cc_Loom : PySem.W.isClsIn K C_Loom = true
  ty_Loom : PySem.W.typeIn K (.ref C_Loom) = some (.type "type")
  cl_InvalidPage : PySem.W.isClsIn K C_InvalidPage = true
  ss_InvalidPage : PySem.W.subIn K (.ref C_InvalidPage) (.ref C_InvalidPage) = some true
  nx_InvalidPage_line : PySem.W.findIn K (.ref C_InvalidPage) "line" = some none
  sw_Loom : PySem.W.subIn K (.ref C_Loom) (.type "str") = some false
end J

set_option Elab.async false
set_option linter.all false
set_option maxRecDepth 100000
set_option maxHeartbeats 4000000
namespace J
open PySem L2
/-! ### frames -/
def Ex (p : Addr) (H H' : Hp) : Prop := ∀ b o, b ≠ p → H b = some o → H' b = some o
theorem Ex.refl (p : Addr) (H : Hp) : Ex p H H := fun _ _ _ h => h
theorem Ex.trans {p : Addr} {H H1 H2 : Hp} (a : Ex p H H1) (b : Ex p H1 H2) : Ex p H H2 := fun c o n h => b c o n (a c o n h)
theorem Ex.upd {p : Addr} {H : Hp} (o : HO) : Ex p H (upd H p o) := fun c u n h => by rw [upd_ne n]; exact h
theorem Ex.new {p q : Addr} {H : Hp} (o : HO) (h : H q = none) : Ex p H (L2.upd H q o) := fun c u n e => by
  rw [upd_ne (ne_of_none e h)]; exact e
theorem Same.ex {p : Addr} {H H' : Hp} (s : Same H H') : Ex p H H' := fun c o _ h => s c o h
theorem Same.new {q : Addr} {H : Hp} (o : HO) (h : H q = none) : Same H (L2.upd H q o) := fun c u e => by
  rw [upd_ne (ne_of_none e h)]; exact e
theorem hp_ne {H : Hp} {p q : Addr} {o : HO} (h : H p = some o) (hq : H q = none) : q ≠ p := by
  intro z
  rw [z, h] at hq
  cases hq
theorem Ex.free {p q : Addr} {H H' : Hp} (x : Ex p H H') (hq : H' q = none) (n : q ≠ p) : H q = none := by
  cases e : H q with
  | none => rfl
  | some o => rw [x _ _ n e] at hq; cases hq
theorem Ex.updNew {p q : Addr} {H H' : Hp} {o : HO} (x : Ex p H H') (hq : H q = none) : Ex p H (L2.upd H' q o) := fun b u n e => by
  rw [upd_ne (ne_of_none e hq)]; exact x b u n e
theorem _root_.L2.Same.updNew {q : Addr} {H H' : Hp} {o : HO} (x : Same H H') (hq : H q = none) : Same H (L2.upd H' q o) := fun b u e => by
  rw [upd_ne (ne_of_none e hq)]; exact x b u e
theorem fm_nonneg (a : Int) {b : Int} (h : 0 < b) : 0 ≤ a.fmod b := Int.fmod_nonneg_of_pos a h
theorem fm_lt (a : Int) {b : Int} (h : 0 < b) : a.fmod b < b := Int.fmod_lt_of_pos a h
theorem atI_ints {ns : List Int} {a : Int} (h0 : 0 ≤ a) (h1 : a < ns.length) : ∃ n, atI (ns.map V.int) a = some (V.int n) := by
  obtain ⟨j, rfl⟩ := Int.eq_ofNat_of_zero_le h0
  have hj : j < ns.length := by exact_mod_cast h1
  exact ⟨ns[j], atI_nat (by rw [List.getElem?_map, List.getElem?_eq_getElem hj]; rfl)⟩
/-! ### the pool of draws: two lists and two numbers; an address that is none of them -/
def PoolAt (H : Hp) (p : Addr) : Prop := ∃ (gl sl : Addr) (gs ss : List Int) (b c : Int), H p = some (.lst [.ref gl, .ref sl, .int b, .int c]) ∧ H gl = some (.lst (gs.map V.int)) ∧ H sl = some (.lst (ss.map V.int))
/-- d stands, and is no part of the pool -/
def Off (H : Hp) (p d : Addr) : Prop := d ≠ p ∧ H d ≠ none ∧ ∀ (gl sl : Addr) (b c : Int), H p = some (.lst [.ref gl, .ref sl, .int b, .int c]) → gl ≠ d ∧ sl ≠ d
/-- draws were made, and other things stand as before -/
def Dr (p : Addr) (H H' : Hp) : Prop := Ex p H H' ∧ PoolAt H' p ∧ ∀ d, Off H p d → Off H' p d
theorem PoolAt.same {H H' : Hp} {p : Addr} (h : PoolAt H p) (s : Same H H') : PoolAt H' p := by
  obtain ⟨gl, sl, gs, ss, b, c, h1, h2, h3⟩ := h
  exact ⟨gl, sl, gs, ss, b, c, s _ _ h1, s _ _ h2, s _ _ h3⟩
theorem PoolAt.ne {H : Hp} {p q : Addr} (h : PoolAt H p) (hq : H q = none) : q ≠ p := by
  obtain ⟨gl, sl, gs, ss, b, c, h1, _⟩ := h
  exact hp_ne h1 hq
theorem none_ne {H : Hp} {p : Addr} {o : HO} (h : H p = some o) : H p ≠ none := by
  rw [h]
  intro z
  cases z
theorem Off.same {H H' : Hp} {p d : Addr} (h : Off H p d) (g : PoolAt H p) (s : Same H H') : Off H' p d := by
  obtain ⟨gl, sl, gs, ss, b, c, h1, h2, h3⟩ := g
  refine ⟨h.1, ?_, fun gl' sl' b' c' e => ?_⟩
  · cases e : H d with
    | none => exact absurd e h.2.1
    | some o => rw [s _ _ e]; exact fun z => nomatch z
  · rw [s _ _ h1] at e
    cases e
    exact h.2.2 _ _ _ _ h1
theorem Dr.refl {H : Hp} {p : Addr} (h : PoolAt H p) : Dr p H H := ⟨Ex.refl _ _, h, fun _ x => x⟩
theorem Dr.trans {p : Addr} {H H1 H2 : Hp} (a : Dr p H H1) (b : Dr p H1 H2) : Dr p H H2 := ⟨a.1.trans b.1, b.2.1, fun d h => b.2.2 d (a.2.2 d h)⟩
theorem Dr.same {p : Addr} {H H' : Hp} (h : PoolAt H p) (s : Same H H') : Dr p H H' := ⟨Same.ex s, h.same s, fun _ x => x.same h s⟩
theorem Off.new {H : Hp} {p q : Addr} {o : HO} (h : PoolAt H p) (hq : H q = none) : Off (L2.upd H q o) p q := by
  obtain ⟨gl, sl, gs, ss, b, c, h1, h2, h3⟩ := h
  refine ⟨hp_ne h1 hq, by rw [upd_same]; exact (fun z => nomatch z), fun gl' sl' b' c' e => ?_⟩
  rw [upd_ne (hp_ne h1 hq).symm, h1] at e
  cases e
  exact ⟨fun z => (by rw [z, hq] at h2; cases h2), fun z => (by rw [z, hq] at h3; cases h3)⟩
theorem PoolAt.upd {H : Hp} {p d : Addr} {o : HO} (h : PoolAt H p) (f : Off H p d) : PoolAt (L2.upd H d o) p := by
  obtain ⟨gl, sl, gs, ss, b, c, h1, h2, h3⟩ := h
  obtain ⟨n1, n2⟩ := f.2.2 _ _ _ _ h1
  exact ⟨gl, sl, gs, ss, b, c, by rw [upd_ne f.1.symm]; exact h1, by rw [upd_ne n1]; exact h2, by rw [upd_ne n2]; exact h3⟩
theorem Off.upd {H : Hp} {p d e : Addr} {o : HO} (f : Off H p d) (g : Off H p e) : Off (L2.upd H e o) p d := by
  refine ⟨f.1, ?_, fun gl sl b c h => ?_⟩
  · by_cases z : d = e
    · rw [z, upd_same]; exact fun z => nomatch z
    · rw [upd_ne z]; exact f.2.1
  · rw [upd_ne g.1.symm] at h
    exact f.2.2 _ _ _ _ h
/-- a list that came since is written -/
theorem Dr.upd {p d : Addr} {H H' : Hp} {o : HO} (x : Dr p H H') (h : H d = none) (f : Off H' p d) : Dr p H (L2.upd H' d o) :=
  ⟨x.1.updNew h, x.2.1.upd f, fun e g => (x.2.2 e g).upd f⟩
theorem Dr.new {p q : Addr} {H H' : Hp} {o : HO} (x : Dr p H H') (h : H' q = none) : Dr p H (L2.upd H' q o) := x.trans (Dr.same x.2.1 (Same.new _ h))
theorem Off.at {H H' : Hp} {p d : Addr} {o : HO} (f : Off H p d) (x : Dr p H H') (h : H d = some o) : H' d = some o := x.1 _ _ f.1 h
theorem Dr.free {p d : Addr} {H H' : Hp} (x : Dr p H H') (h : H' d = none) : H d = none := x.1.free h (x.2.1.ne h)
theorem ints_ne {xs : List Int} {a : Addr} {r : List V} : xs.map V.int ≠ .ref a :: r := by
  cases xs with
  | nil => intro z; cases z
  | cons x t => intro z; cases z
theorem cut_intsL (ns : List Int) (lo hi : Option Int) : ∃ ms : List Int, cutV (ns.map V.int) lo hi = ms.map V.int ∧ ms.length ≤ ns.length := by
  unfold cutV
  refine ⟨_, by rw [← List.map_drop, ← List.map_take], ?_⟩
  rw [List.length_take, List.length_drop]
  omega
theorem cut_ints (ns : List Int) (lo hi : Option Int) : ∃ ms : List Int, cutV (ns.map V.int) lo hi = ms.map V.int := by
  obtain ⟨ms, h, _⟩ := cut_intsL ns lo hi
  exact ⟨ms, h⟩
theorem le_size {n : Nat} (h : n ≤ 100000) : n ≤ sizeLine := Nat.le_trans h (by decide)
theorem lt_size {n : Nat} (h : n ≤ 100000) : n < sizeLine := Nat.lt_of_le_of_lt h (by decide)
def spDraw : Sp := fun vs H Q _ => ∃ (p : Addr) (m : Int), vs = [.ref p, .int m] ∧ PoolAt H p ∧ 0 < m ∧ m < 1073741824 ∧
  ∀ H' (r : Int), Dr p H H' → 0 ≤ r → r < m → Q (.int r) H'
def spPick : Sp := fun vs H Q _ => ∃ (p q : Addr) (xs : List V), vs = [.ref p, .ref q] ∧ PoolAt H p ∧ q ≠ p ∧ H q = some (.lst xs) ∧ 0 < xs.length ∧ xs.length < 1000 ∧
  ∀ H' x, Dr p H H' → x ∈ xs → Q x H'
def spPickS : Sp := fun vs H Q _ => ∃ (p : Addr) (xs : List Nat), vs = [.ref p, .str (SX.S xs)] ∧ PoolAt H p ∧ 0 < xs.length ∧ xs.length < 1000 ∧
  ∀ H' x, Dr p H H' → x ∈ xs → Q (.str (SX.S [x])) H'
def spPool (K : PySem.W.Frag) : Sp := fun vs H Q _ => ∃ (a : Addr) (ns : List Int), vs = [.ref a] ∧ SqL K H a (ns.map V.int) ∧ ns.length ≤ 63 ∧ ∀ (p : Addr) H', PoolAt H' p → Same H H' → H p = none → Q (.ref p) H'
end J


set_option Elab.async false
set_option linter.all false
set_option maxRecDepth 100000
set_option maxHeartbeats 4000000
namespace J
open PySem L2
theorem pool_ne {H : Hp} {p gl sl : Addr} {gs ss : List Int} {b c : Int} (hp : H p = some (.lst [.ref gl, .ref sl, .int b, .int c])) (hg : H gl = some (.lst (gs.map V.int))) (hs : H sl = some (.lst (ss.map V.int))) : gl ≠ p ∧ sl ≠ p := by
  constructor
  · intro q
    rw [q, hp] at hg
    injection hg with hg
    injection hg with hg
    exact ints_ne hg.symm
  · intro q
    rw [q, hp] at hs
    injection hs with hs
    injection hs with hs
    exact ints_ne hs.symm
theorem Dr.put {H : Hp} {p gl sl : Addr} {gs ss : List Int} {b c b' c' : Int} (hp : H p = some (.lst [.ref gl, .ref sl, .int b, .int c])) (hg : H gl = some (.lst (gs.map V.int))) (hs : H sl = some (.lst (ss.map V.int))) : Dr p H (L2.upd H p (.lst [.ref gl, .ref sl, .int b', .int c'])) := by
  obtain ⟨n1, n2⟩ := pool_ne hp hg hs
  refine ⟨Ex.upd _, ⟨gl, sl, gs, ss, b', c', upd_same, by rw [upd_ne n1]; exact hg, by rw [upd_ne n2]; exact hs⟩, fun d h => ⟨h.1, by rw [upd_ne h.1]; exact h.2.1, fun gl' sl' b2 c2 e => ?_⟩⟩
  rw [upd_same] at e
  cases e
  exact h.2.2 _ _ _ _ hp
theorem Dr.swap {H : Hp} {p q gl sl : Addr} {gs ss ms : List Int} {b c b' c' : Int} (hp : H p = some (.lst [.ref gl, .ref sl, .int b, .int c])) (hg : H gl = some (.lst (gs.map V.int))) (hs : H sl = some (.lst (ss.map V.int))) (hq : H q = none) :
    Dr p H (L2.upd (L2.upd H q (.lst (ms.map V.int))) p (.lst [.ref q, .ref sl, .int b', .int c'])) := by
  obtain ⟨n1, n2⟩ := pool_ne hp hg hs
  have nq := hp_ne hp hq
  refine ⟨fun z o hz e => ?_, ⟨q, sl, ms, ss, b', c', upd_same, ?_, ?_⟩, fun d h => ⟨h.1, ?_, fun gl' sl' b2 c2 e => ?_⟩⟩
  · rw [upd_ne hz, upd_ne (ne_of_none e hq)]
    exact e
  · rw [upd_ne nq]; exact upd_same
  · rw [upd_ne n2, upd_ne (ne_of_none hs hq)]; exact hs
  · rw [upd_ne h.1]
    by_cases z : d = q
    · rw [z, upd_same]; exact fun z => nomatch z
    · rw [upd_ne z]; exact h.2.1
  · rw [upd_same] at e
    cases e
    exact ⟨fun z => h.2.1 (by rw [← z]; exact hq), (h.2.2 _ _ _ _ hp).2⟩
section
variable {P : Program} {w : World} {K : PySem.W.Frag} {mg : Str → Option Value} {base : Heap}
theorem ok_l_draw (T : Tx K mg) : FnOk P w K mg base CX0 1 T.f_l_draw T.fd_l_draw P_l_draw spDraw := by
  refine T.F_l_draw.ok sc_l_draw (fun vs H Q E h => ?_) (fun cdv A outer s H vs Q E hr h => ?_)
  · obtain ⟨p, m, rfl, _⟩ := h
    rfl
  · obtain ⟨p, m, rfl, hst, hm, hm2, k⟩ := h
    refine ⟨_, (C8.pss_cut (ps_if (PW.pt (pw_and (pt_cmpR op_eq (pe_ix (ix_listK (K := K) rfl) (pv 0) pe_int (fun _ _ => rfl)) pe_int (nomark _)) (pw_and1 (pt_cmpR op_gt (pe_callB (call_len_seqK (K := K) rfl) rfl T.n_len (by decide +kernel) (pa_cons (pe_ix (ix_listK (K := K) rfl) (pv 0) pe_int (fun _ _ => rfl)) pa_nil)) pe_int (nomark _))))) (pss_cons (ps_set (i := 2) sc_l_draw.nd rfl (Or.inl rfl) (pe_ix (ix_listK (K := K) rfl) (pv 0) pe_int (fun _ _ => rfl)))
        (pss_cons (ps_asg (pe_ix (ix_listK (K := K) rfl) (pv 2) pe_int (fun _ _ => rfl)) (pg_sub (pv 0) pe_int set_list))
        (pss_one (ps_asg (pe_slice (sl_listK (K := K) rfl) (pv 2) (po_some pe_int) po_none) (pg_sub (pv 0) pe_int set_list))))) pss_nil)
        (C8.pss_cut (ps_if (pt_cmpR op_gt (pe_ix (ix_listK (K := K) rfl) (pv 0) pe_int (fun _ _ => rfl)) pe_int (nomark _)) (pss_cons (ps_set (i := 3) sc_l_draw.nd rfl (Or.inl rfl) (pe_op op_modN (pe_callTy call_int1 rfl T.n_int (by decide +kernel) (pa_cons (pe_ix (ix_listK (K := K) rfl) (pv 0) pe_int (fun _ _ => rfl)) pa_nil)) (pv 1)))
        (pss_cons (ps_asg (pe_op op_fdivN (pe_ix (ix_listK (K := K) rfl) (pv 0) pe_int (fun _ _ => rfl)) (pv 1)) (pg_sub (pv 0) pe_int set_list))
        (pss_one (ps_ret (pv 3))))) pss_nil)
        (pss_cons (ps_asg (pe_op op_add (pe_ix (ix_listK (K := K) rfl) (pv 0) pe_int (fun _ _ => rfl)) pe_int) (pg_sub (pv 0) pe_int set_list))
        (pss_cons (ps_set (i := 4) sc_l_draw.nd rfl (Or.inl rfl) pe_int)
        (C8.pss_cut (ps_if (pt_cmpR op_gt (pe_callB (call_len_seqK (K := K) rfl) rfl T.n_len (by decide +kernel) (pa_cons (pe_ix (ix_listK (K := K) rfl) (pv 0) pe_int (fun _ _ => rfl)) pa_nil)) pe_int (nomark _)) (pss_one (ps_set (i := 4) sc_l_draw.nd rfl (Or.inl rfl) (pe_ix (ix_listK (K := K) rfl) (pe_ix (ix_listK (K := K) rfl) (pv 0) pe_int (fun _ _ => rfl)) (pe_op op_modN (pe_callTy call_int1 rfl T.n_int (by decide +kernel) (pa_cons (pe_ix (ix_listK (K := K) rfl) (pv 0) pe_int (fun _ _ => rfl)) pa_nil)) (pe_callB (call_len_seqK (K := K) rfl) rfl T.n_len (by decide +kernel) (pa_cons (pe_ix (ix_listK (K := K) rfl) (pv 0) pe_int (fun _ _ => rfl)) pa_nil))) (fun _ _ => rfl)))) pss_nil)
        (pss_cons (ps_set (i := 5) sc_l_draw.nd rfl (Or.inl rfl) (pe_op op_modN (pe_callTy call_int1 rfl T.n_int (by decide +kernel) (pa_cons (pe_op op_mul (pe_op op_add (pe_op op_add (pv 4) (pe_op op_mul pe_int (pe_ix (ix_listK (K := K) rfl) (pv 0) pe_int (fun _ _ => rfl)))) pe_int) pe_int) pa_nil)) pe_int))
        (pss_cons (ps_set (i := 5) sc_l_draw.nd rfl (Or.inl rfl) (pe_op op_modN (pe_callTy call_int1 rfl T.n_int (by decide +kernel) (pa_cons (pe_op op_mul (pv 5) (pe_op op_add (pe_op op_fdivN (pv 5) pe_int) pe_int)) pa_nil)) pe_int))
        (pss_cons (ps_set (i := 5) sc_l_draw.nd rfl (Or.inl rfl) (pe_op op_modN (pe_callTy call_int1 rfl T.n_int (by decide +kernel) (pa_cons (pe_op op_mul (pv 5) (pe_op op_add (pe_op op_fdivN (pv 5) pe_int) pe_int)) pa_nil)) pe_int))
        (pss_one (ps_ret (pe_op op_modN (pe_callTy call_int1 rfl T.n_int (by decide +kernel) (pa_cons (pe_op op_fdivN (pv 5) pe_int) pa_nil)) (pv 1)))))))))))), ?_⟩
    have hst0 := hst
    obtain ⟨gl, sl, gs, ss, b, c, hp, hg, hs⟩ := hst
    obtain ⟨npg, nps⟩ := pool_ne hp hg hs
    refine ⟨fun σ' H' => (∃ v, σ' = [some (.ref p), some (.int m), v, none, none, none]) ∧ Dr p H H', ?_, ?_⟩
    · refine ⟨_, rfl, _, _, _, _, rfl, rfl, SqL.of hp, rfl, rfl, _, rfl, ?_⟩
      refine ite2 (fun c1 => ?_) (fun c1 => ?_)
      · refine ⟨_, rfl, _, _, _, _, rfl, rfl, SqL.of hp, rfl, gl, _, rfl, .inl (SqL.of hg), _, _, rfl, rfl, _, rfl, ?_⟩
        refine ite2 (fun c2 => ?_) (fun c2 => ?_)
        · rw [List.length_map] at c2
          obtain ⟨n, hn⟩ := atI_ints (ns := gs) (Int.le_refl 0) (by simpa using c2)
          refine ⟨_, rfl, _, _, _, _, rfl, rfl, SqL.of hp, rfl, ?_⟩
          refine ⟨_, rfl, gl, _, _, _, rfl, rfl, SqL.of hg, hn, _, rfl, p, _, _, _, rfl, rfl, hp, rfl, ?_⟩
          refine ⟨_, rfl, _, rfl, gl, gs.map V.int, rfl, SqL.of (by rw [upd_ne npg]; exact hg), fun q hq => ?_⟩
          have hqp : q ≠ p := hp_ne upd_same hq
          refine ⟨_, rfl, p, _, _, _, rfl, rfl, by rw [upd_ne hqp.symm]; exact upd_same, rfl, ?_⟩
          obtain ⟨ms, hms⟩ := cut_ints gs (some 1) none
          refine ⟨⟨_, rfl⟩, (Dr.put (b' := n) (c' := c) hp hg hs).trans ?_⟩
          show Dr p _ (L2.upd (L2.upd _ q (.lst (cutV (gs.map V.int) (some 1) none))) p (.lst [.ref q, .ref sl, .int n, .int c]))
          rw [hms]
          exact Dr.swap (gs := gs) upd_same (by rw [upd_ne npg]; exact hg) (by rw [upd_ne nps]; exact hs) hq
        · exact ⟨⟨_, rfl⟩, Dr.refl hst0⟩
      · exact iteF ⟨⟨_, rfl⟩, Dr.refl hst0⟩
    · rintro σ' H1 ⟨⟨v, rfl⟩, x1⟩
      have st1 := x1.2.1
      obtain ⟨gl, sl, gs, ss, b, c, hp, hg, hs⟩ := st1
      obtain ⟨npg, nps⟩ := pool_ne hp hg hs
      refine ⟨fun σ' H' => (∃ v, σ' = [some (.ref p), some (.int m), v, none, none, none]) ∧ H' = H1, ?_, ?_⟩
      · refine ⟨_, rfl, _, _, _, _, rfl, rfl, SqL.of hp, rfl, _, _, rfl, rfl, _, rfl, ?_⟩
        refine ite2 (fun c1 => ?_) (fun c1 => ?_)
        · refine ⟨_, rfl, _, _, _, _, rfl, rfl, SqL.of hp, rfl, .inl ⟨_, rfl, _, rfl, _, _, rfl, rfl, by omega, ?_⟩⟩
          refine ⟨_, rfl, _, _, _, _, rfl, rfl, SqL.of hp, rfl, _, rfl, _, _, rfl, rfl, ⟨by omega, by omega⟩, _, rfl, p, _, _, _, rfl, rfl, hp, rfl, ?_⟩
          exact ⟨_, rfl, k _ _ (x1.trans (Dr.put hp hg hs)) (fm_nonneg _ hm) (fm_lt _ hm)⟩
        · exact ⟨⟨_, rfl⟩, rfl⟩
      · rintro σ' H' ⟨⟨v, rfl⟩, rfl⟩
        refine ⟨_, rfl, _, _, _, _, rfl, rfl, SqL.of hp, rfl, _, _, rfl, rfl, _, rfl, p, _, _, _, rfl, rfl, hp, rfl, ?_⟩
        have hg2 : ∀ o, upd H' p o gl = some (.lst (gs.map V.int)) := fun o => by rw [upd_ne npg]; exact hg
        have hs2 : ∀ o, upd H' p o sl = some (.lst (ss.map V.int)) := fun o => by rw [upd_ne nps]; exact hs
        refine ⟨fun σ2 H2 => (∃ n : Int, σ2 = [some (.ref p), some (.int m), v, none, some (.int n), none]) ∧ Dr p H' H2 ∧ ∃ c', H2 p = some (.lst [.ref gl, .ref sl, .int b, .int c']), ?_, ?_⟩
        · refine ⟨_, rfl, _, _, _, _, rfl, rfl, SqL.of upd_same, rfl, sl, _, rfl, .inl (SqL.of (hs2 _)), _, _, rfl, rfl, _, rfl, ?_⟩
          refine ite2 (fun c1 => ?_) (fun c1 => ?_)
          · rw [List.length_map] at c1
            have c2 : (0 : Int) < (ss.length : Int) := by simpa using c1
            refine ⟨_, rfl, _, _, _, _, rfl, rfl, SqL.of upd_same, rfl, _, rfl, _, _, _, _, rfl, rfl, SqL.of upd_same, rfl, .inl ⟨_, rfl, ?_⟩⟩
            obtain ⟨n, hn⟩ := atI_ints (ns := ss) (fm_nonneg (c + 1) c2) (fm_lt (c + 1) c2)
            refine ⟨_, rfl, _, _, _, _, rfl, rfl, SqL.of upd_same, rfl, sl, _, rfl, .inl (SqL.of (hs2 _)), _, _, rfl, rfl, by rw [List.length_map]; omega, ?_⟩
            exact ⟨_, _, _, _, rfl, rfl, SqL.of (hs2 _), by rw [List.length_map]; exact hn, ⟨_, rfl⟩, Dr.put hp hg hs, _, upd_same⟩
          · exact ⟨⟨_, rfl⟩, Dr.put hp hg hs, _, upd_same⟩
        · rintro σ2 H2 ⟨⟨n, rfl⟩, x2, c', hp2⟩
          have hx0 := fm_nonneg ((n + 8237 * c' + 1) * 48271) (b := 2147483647) (by decide)
          have hx1 := fm_lt ((n + 8237 * c' + 1) * 48271) (b := 2147483647) (by decide)
          refine ⟨_, rfl, _, rfl, _, _, _, _, rfl, rfl, SqL.of hp2, rfl, _, _, rfl, rfl, .inl (by decide), _, _, rfl, rfl, _, _, rfl, rfl, _, _, rfl, rfl, .inr (by decide), .inl ⟨_, rfl, _, _, rfl, rfl, (by decide : (2147483647 : Int) ≠ 0), ?_⟩⟩
          refine ⟨_, rfl, _, rfl, _, _, rfl, rfl, ⟨by decide, by decide⟩, _, _, rfl, rfl, _, _, rfl, rfl, .inl ⟨Int.lt_of_lt_of_le (by decide) hx0, Int.lt_trans hx1 (by decide)⟩, .inl ⟨_, rfl, _, _, rfl, rfl, (by decide : (2147483647 : Int) ≠ 0), ?_⟩⟩
          refine ⟨_, rfl, _, rfl, _, _, rfl, rfl, ⟨by decide, by decide⟩, _, _, rfl, rfl, _, _, rfl, rfl, .inl ⟨Int.lt_of_lt_of_le (by decide) (fm_nonneg _ (by decide)), Int.lt_trans (fm_lt _ (by decide)) (by decide)⟩, .inl ⟨_, rfl, _, _, rfl, rfl, (by decide : (2147483399 : Int) ≠ 0), ?_⟩⟩
          refine ⟨_, rfl, _, _, rfl, rfl, ⟨by decide, by decide⟩, .inl ⟨_, rfl, _, rfl, _, _, rfl, rfl, by omega, ?_⟩⟩
          exact k _ _ (x1.trans x2) (fm_nonneg _ hm) (fm_lt _ hm)
theorem ok_l_pick (T : Tx K mg) : FnOk P w K mg base CX0 2 T.f_l_pick T.fd_l_pick P_l_pick spPick := by
  have G_l_draw : FnOk P w K mg base CX0 1 T.f_l_draw T.fd_l_draw P_l_draw spDraw := ok_l_draw T
  refine T.F_l_pick.ok sc_l_pick (fun vs H Q E h => ?_) (fun cdv A outer s H vs Q E hr h => ?_)
  · obtain ⟨p, q, xs, rfl, _⟩ := h
    rfl
  · obtain ⟨p, q, xs, rfl, hst, hn, hq, h0, h1, k⟩ := h
    refine ⟨_, (pss_one (ps_ret (pe_ix (ix_listK (K := K) rfl) (pv 1) (pe_call G_l_draw (hr.mono (by decide)) rfl T.m_l_draw T.F_l_draw.kp T.b_l_draw .nil pass0 (pa_cons (pv 0) (pa_cons (pe_callB (call_len_seqK (K := K) rfl) rfl T.n_len (by decide +kernel) (pa_cons (pv 1) pa_nil)) pa_nil))) (fun _ _ => rfl)))), ?_⟩
    refine ⟨_, rfl, _, rfl, _, rfl, q, xs, rfl, .inl (SqL.of hq), p, _, rfl, hst, by omega, by omega, fun H' r x r0 r1 => ?_⟩
    obtain ⟨j, rfl⟩ := Int.eq_ofNat_of_zero_le r0
    have hj : j < xs.length := by exact_mod_cast r1
    refine ⟨q, xs, _, _, rfl, rfl, SqL.of (x.1 _ _ hn hq), atI_nat (List.getElem?_eq_getElem hj), ?_⟩
    exact k _ _ x (List.getElem_mem hj)
theorem ok_l_pickS (T : Tx K mg) : FnOk P w K mg base CX0 2 T.f_l_pick T.fd_l_pick P_l_pick spPickS := by
  have G_l_draw : FnOk P w K mg base CX0 1 T.f_l_draw T.fd_l_draw P_l_draw spDraw := ok_l_draw T
  refine T.F_l_pick.ok sc_l_pick (fun vs H Q E h => ?_) (fun cdv A outer s H vs Q E hr h => ?_)
  · obtain ⟨p, xs, rfl, _⟩ := h
    rfl
  · obtain ⟨p, xs, rfl, hst, h0, h1, k⟩ := h
    refine ⟨_, (pss_one (ps_ret (pe_ix ix_str (pv 1) (pe_call G_l_draw (hr.mono (by decide)) rfl T.m_l_draw T.F_l_draw.kp T.b_l_draw .nil pass0 (pa_cons (pv 0) (pa_cons (pe_callB call_len_str rfl T.n_len (by decide +kernel) (pa_cons (pv 1) pa_nil)) pa_nil))) (fun _ _ => rfl)))), ?_⟩
    have hl : (SX.S xs).length ≤ sizeLine := le_size (by rw [SX.S_len]; omega)
    refine ⟨_, rfl, _, rfl, _, rfl, _, rfl, hl, p, _, rfl, hst, by rw [SX.S_len]; omega, by rw [SX.S_len]; omega, fun H' r x r0 r1 => ?_⟩
    rw [SX.S_len] at r1
    obtain ⟨j, rfl⟩ := Int.eq_ofNat_of_zero_le r0
    have hj : j < xs.length := by exact_mod_cast r1
    exact ⟨_, _, xs[j], rfl, rfl, hl, atI_nat (List.getElem?_eq_getElem hj), k _ _ x (List.getElem_mem hj)⟩
theorem ok_l_pool (T : Tx K mg) : FnOk P w K mg base CX0 1 T.f_l_pool T.fd_l_pool P_l_pool (spPool K) := by
  refine T.F_l_pool.ok sc_l_pool (fun vs H Q E h => ?_) (fun cdv A outer s H vs Q E hr h => ?_)
  · obtain ⟨a, ns, rfl, _⟩ := h
    rfl
  · obtain ⟨a, ns, rfl, hS, hlen, kq⟩ := h
    refine ⟨_, (pss_cons (ps_setLc (i := 1) (own := [("_law_cell", 4)]) (g := (gName 4)) rfl sc_l_pool.nd rfl rfl (sw_true rfl rfl rfl (by decide +kernel)) (pi_list (pe_slice (sl_listK (K := K) rfl) (pv 0) po_none (po_some pe_int))) (blkOk_by (N := N_l_pool) (sc := defScope s_l_pool) (by decide +kernel)) (fun _ _ _ _ _ => (pg_name (i := 4) sc_l_pool.nd rfl (Or.inl rfl))) (fun _ _ _ _ _ => pts_nil) (fun _ _ _ _ _ => (pe_callB call_abs rfl T.n_abs (by decide +kernel) (pa_cons (pe_callTy call_int1 rfl T.n_int (by decide +kernel) (pa_cons (pv 4) pa_nil)) pa_nil))))
        (pss_cons (ps_setLc (i := 2) (own := [("_law_cell", 4)]) (g := (gName 4)) rfl sc_l_pool.nd rfl rfl (sw_true rfl rfl rfl (by decide +kernel)) (pi_list (pv 1)) (blkOk_by (N := N_l_pool) (sc := defScope s_l_pool) (by decide +kernel)) (fun _ _ _ _ _ => (pg_name (i := 4) sc_l_pool.nd rfl (Or.inl rfl))) (fun _ _ _ _ _ => (pts_one (pt_cmpR op_ge (pv 4) (pe_op op_pow pe_int pe_int) (nomark _)))) (fun _ _ _ _ _ => (pv 4)))
        (pss_cons (ps_setLc (i := 3) (own := [("_law_cell", 4)]) (g := (gName 4)) rfl sc_l_pool.nd rfl rfl (sw_true rfl rfl rfl (by decide +kernel)) (pi_list (pv 1)) (blkOk_by (N := N_l_pool) (sc := defScope s_l_pool) (by decide +kernel)) (fun _ _ _ _ _ => (pg_name (i := 4) sc_l_pool.nd rfl (Or.inl rfl))) (fun _ _ _ _ _ => (pts_one (pt_cmpR op_lt (pv 4) (pe_op op_pow pe_int pe_int) (nomark _)))) (fun _ _ _ _ _ => (pe_op op_modN (pe_callTy call_int1 rfl T.n_int (by decide +kernel) (pa_cons (pv 4) pa_nil)) pe_int)))
        (pss_one (ps_ret (pe_lst (pa_cons (pv 2) (pa_cons (pv 3) (pa_cons pe_int (pa_cons pe_int pa_nil)))))))))), ?_⟩
    refine ⟨_, rfl, _, rfl, a, _, rfl, hS, fun q hq => ?_⟩
    obtain ⟨ms, hms, hml⟩ := cut_intsL ns none (some 63)
    rw [hms]
    have s1 : Same H (upd H q (.lst (ms.map V.int))) := Same.new _ hq
    have g1 : upd H q (.lst (ms.map V.int)) q = some (.lst (ms.map V.int)) := upd_same
    generalize upd H q (.lst (ms.map V.int)) = H1 at *
    refine ⟨q, rfl, ⟨_, SqL.of g1⟩, fun D hD => lc_list (K := K) (a := q) (xs := ms.map V.int) (fun i H' => ∃ cs : List Int, cs.length = i ∧ H' D = some (.lst (cs.map V.int)) ∧ Same H1 H') ⟨[], rfl, upd_same, Same.new _ hD⟩ (fun i H' _ ⟨_, _, _, sm⟩ => SqL.of (sm _ _ g1)) ?_ ?_⟩
    · rintro i y H2 hy ⟨cs, rfl, hDl, sm⟩
      have hil := (List.getElem?_eq_some_iff.mp hy).1
      rw [List.length_map] at hil
      rw [List.getElem?_map] at hy
      obtain ⟨z, _, rfl⟩ := Option.map_eq_some_iff.mp hy
      refine ⟨rfl, _, rfl, .inl ⟨_, rfl, _, rfl, _, hDl, lt_size (by rw [List.length_map]; omega), cs ++ [if z < 0 then -z else z], by simp, ?_, sm.updNew hD⟩⟩
      rw [upd_same, List.map_append]
      rfl
    · rintro H2 ⟨cs, hcl, hDl, sm⟩
      have s2 : Same H H2 := s1.trans sm
      have hcm : cs.length ≤ 63 := by rw [hcl, List.length_map]; omega
      clear hcl
      refine ⟨_, rfl, D, rfl, ⟨_, SqL.of hDl⟩, fun E1 hE => lc_list (K := K) (a := D) (xs := cs.map V.int) (fun i H' => ∃ gs : List Int, gs.length ≤ i ∧ H' E1 = some (.lst (gs.map V.int)) ∧ Same H2 H') ⟨[], Nat.le_refl _, upd_same, Same.new _ hE⟩ (fun i H' _ ⟨_, _, _, sm⟩ => SqL.of (sm _ _ hDl)) ?_ ?_⟩
      · rintro i y H3 hy ⟨gs, hgl, hEl, sm3⟩
        have hil := (List.getElem?_eq_some_iff.mp hy).1
        rw [List.length_map] at hil
        rw [List.getElem?_map] at hy
        obtain ⟨z, _, rfl⟩ := Option.map_eq_some_iff.mp hy
        refine ⟨rfl, _, rfl, _, _, rfl, rfl, ⟨by decide, by decide, by decide⟩, _, _, rfl, rfl, _, rfl, ?_⟩
        refine ite2 (fun c => ?_) (fun c => ?_)
        · refine ⟨_, rfl, _, hEl, lt_size (by rw [List.length_map]; omega), gs ++ [z], by simp; omega, ?_, sm3.updNew hE⟩
          rw [upd_same, List.map_append]
          rfl
        · exact ⟨gs, by omega, hEl, sm3⟩
      · rintro H3 ⟨gs, hgl, hEl, sm3⟩
        have hD3 := sm3 _ _ hDl
        refine ⟨_, rfl, D, rfl, ⟨_, SqL.of hD3⟩, fun F1 hF => lc_list (K := K) (a := D) (xs := cs.map V.int) (fun i H' => ∃ ss : List Int, ss.length ≤ i ∧ H' F1 = some (.lst (ss.map V.int)) ∧ Same H3 H') ⟨[], Nat.le_refl _, upd_same, Same.new _ hF⟩ (fun i H' _ ⟨_, _, _, sm⟩ => SqL.of (sm _ _ hD3)) ?_ ?_⟩
        · rintro i y H4 hy ⟨ss, hsl, hFl, sm4⟩
          have hil := (List.getElem?_eq_some_iff.mp hy).1
          rw [List.length_map] at hil
          rw [List.getElem?_map] at hy
          obtain ⟨z, _, rfl⟩ := Option.map_eq_some_iff.mp hy
          refine ⟨rfl, _, rfl, _, _, rfl, rfl, ⟨by decide, by decide, by decide⟩, _, _, rfl, rfl, _, rfl, ?_⟩
          refine ite2 (fun c => ?_) (fun c => ?_)
          · refine ⟨_, rfl, .inl ⟨_, rfl, _, _, rfl, rfl, (by decide : (1000003 : Int) ≠ 0), _, hFl, lt_size (by rw [List.length_map]; omega), ss ++ [z.fmod 1000003], by simp; omega, ?_, sm4.updNew hF⟩⟩
            rw [upd_same, List.map_append]
            rfl
          · exact ⟨ss, by omega, hFl, sm4⟩
        · rintro H4 ⟨ss, hsl, hFl, sm4⟩
          refine ⟨_, rfl, _, rfl, le_size (by simp), fun p hp => ?_⟩
          refine kq _ _ ⟨E1, F1, gs, ss, 0, 0, upd_same, by rw [upd_ne (ne_of_none (sm4 _ _ hEl) hp)]; exact sm4 _ _ hEl, by rw [upd_ne (ne_of_none hFl hp)]; exact hFl⟩ (((s2.trans sm3).trans sm4).trans (Same.new _ hp)) (((s2.trans sm3).trans sm4).free hp)
end
end J


set_option Elab.async false
set_option linter.all false
set_option maxRecDepth 100000
set_option maxHeartbeats 4000000
namespace J
open PySem L2
theorem joinL_nil : ∀ ys : List (List Nat), TL.joinL [] ys = ys.flatten
  | [] => rfl
  | [p] => by simp [TL.joinL]
  | p :: q :: r => by
    show p ++ ([] ++ TL.joinL [] (q :: r)) = _
    rw [joinL_nil (q :: r)]
    simp
theorem join_flat (ys : List (List Nat)) : Txt.join (SX.S []) (ys.map SX.S) = SX.S ys.flatten := by rw [SX.join_S, joinL_nil]
theorem emptyS : Str.ofString "" = SX.S [] := rfl
theorem sum_ones (us : List Nat) : ((us.map fun c => SX.S [c]).map (·.length)).sum = us.length := by
  induction us with
  | nil => rfl
  | cons a r ih => simp only [List.map_cons, List.sum_cons, ih, SX.S_len, List.length_cons, List.length_nil]; omega
theorem atI_mem {α : Type} {xs : List α} {i : Int} (h0 : 0 ≤ i) (h1 : i < xs.length) : ∃ v, v ∈ xs ∧ atI xs i = some v := by
  obtain ⟨j, rfl⟩ := Int.eq_ofNat_of_zero_le h0
  have hj : j < xs.length := by exact_mod_cast h1
  exact ⟨xs[j], List.getElem_mem hj, atI_nat (List.getElem?_eq_getElem hj)⟩
/-- signs: one to four small letters, ascending -/
def Signs (sg : List Nat) : Prop := 1 ≤ sg.length ∧ sg.length ≤ 4 ∧ (∀ c ∈ sg, 97 ≤ c ∧ c ≤ 122) ∧ sg.Pairwise (· < ·)
instance (sg : List Nat) : Decidable (Signs sg) := by unfold Signs; infer_instance
theorem Signs.len {sg : List Nat} (h : Signs sg) : 1 ≤ sg.length ∧ sg.length ≤ 4 := ⟨h.1, h.2.1⟩
/-- a word over the signs -/
def Word (sg u : List Nat) : Prop := 1 ≤ u.length ∧ u.length ≤ 12 ∧ ∀ c ∈ u, c ∈ sg
def txts (ws : List (List Nat)) : List V := ws.map fun u => V.str (SX.S u)
end J


set_option Elab.async false
set_option linter.all false
set_option maxRecDepth 100000
set_option maxHeartbeats 4000000
namespace J
open PySem L2
abbrev Arc := Nat × List Nat × Nat
def arcHO (a : Arc) : HO := .tup [.int (a.1 : Int), .str (SX.S a.2.1), .int (a.2.2 : Int)]
def Arcs (H : Hp) (vs : List V) (as : List Arc) : Prop := vs.length = as.length ∧ ∀ (i : Nat) (a : Arc), as[i]? = some a → ∃ t, vs[i]? = some (V.ref t) ∧ H t = some (arcHO a)
theorem Arcs.same {H H' : Hp} {vs : List V} {as : List Arc} (h : Arcs H vs as) (s : Same H H') : Arcs H' vs as :=
  ⟨h.1, fun i a e => by obtain ⟨t, h1, h2⟩ := h.2 i a e; exact ⟨t, h1, s _ _ h2⟩⟩
theorem Arcs.ex {H H' : Hp} {p : Addr} {xs : List V} {vs : List V} {as : List Arc} (h : Arcs H vs as) (x : Ex p H H') (hp : H p = some (.lst xs)) : Arcs H' vs as :=
  ⟨h.1, fun i a e => by
    obtain ⟨t, h1, h2⟩ := h.2 i a e
    exact ⟨t, h1, x _ _ (fun z => by rw [z, hp] at h2; cases h2) h2⟩⟩
theorem Arcs.snoc {H : Hp} {vs : List V} {as : List Arc} {t : Addr} {a : Arc} (h : Arcs H vs as) (ht : H t = some (arcHO a)) : Arcs H (vs ++ [V.ref t]) (as ++ [a]) := by
  refine ⟨by simp [h.1], fun i b e => ?_⟩
  by_cases hi : i < as.length
  · rw [List.getElem?_append_left hi] at e
    rw [List.getElem?_append_left (by rw [h.1]; exact hi)]
    exact h.2 i b e
  · rw [List.getElem?_append_right (by omega)] at e
    have e0 : i - as.length = 0 := by
      have q := (List.getElem?_eq_some_iff.mp e).1
      simp at q
      omega
    rw [e0] at e
    cases e
    refine ⟨t, ?_, ht⟩
    rw [List.getElem?_append_right (by rw [h.1]; omega), h.1, e0]
    rfl
theorem Arcs.updL {H : Hp} {vs xs : List V} {as : List Arc} {p : Addr} {o : HO} (h : Arcs H vs as) (hp : H p = some (.lst xs)) : Arcs (upd H p o) vs as := h.ex (Ex.upd o) hp

theorem Arcs.nil (H : Hp) : Arcs H [] [] := ⟨rfl, fun i a e => by simp at e⟩
theorem ex_upd_lst {p : Addr} {H : Hp} {o : HO} : Ex p H (upd H p o) := Ex.upd o
def OkArc (sg : List Nat) (a : Arc) : Prop := a.1 ≤ 63 ∧ Word sg a.2.1 ∧ a.2.2 ≤ 63
def OkArcs (sg : List Nat) (as : List Arc) : Prop := 1 ≤ as.length ∧ as.length ≤ 13 ∧ (∀ a ∈ as, OkArc sg a) ∧ ∃ a : Arc, as[0]? = some a ∧ a.1 = 0
end J


set_option Elab.async false
set_option linter.all false
set_option maxRecDepth 100000
set_option maxHeartbeats 4000000
namespace J
open PySem L2

def spNumber : Sp := fun vs H Q _ => ∃ i lo hi : Int, vs = [.int i, .int lo, .int hi] ∧ ∀ b : Bool, (b = true ↔ lo ≤ i ∧ i ≤ hi) → Q (.bl b) H
def spSequence (K : PySem.W.Frag) : Sp := fun vs H Q _ => ∃ (a : Addr) (xs : List V) (lo hi : Int), vs = [.ref a, .int lo, .int hi] ∧ (H a = some (.lst xs) ∨ H a = some (.tup xs)) ∧ ∀ (H' : Hp) (b : Bool), Same H H' → (b = true ↔ lo ≤ xs.length ∧ xs.length ≤ hi) → Q (.bl b) H'
def spOver : Sp := fun vs H Q _ => ∃ (sg u : List Nat) (lo hi : Int), vs = [.str (SX.S sg), .str (SX.S u), .int lo, .int hi] ∧ lo ≤ u.length ∧ u.length ≤ hi ∧ hi ≤ 100000 ∧ (∀ c ∈ u, c ∈ sg) ∧ ∀ H' : Hp, Same H H' → Q (.bl true) H'
def spIsWord : Sp := fun vs H Q _ => ∃ (sg u : List Nat), vs = [.str (SX.S sg), .str (SX.S u)] ∧ Word sg u ∧ ∀ H' : Hp, Same H H' → Q (.bl true) H'
def spSigns : Sp := fun vs H Q _ => ∃ sg : List Nat, vs = [.str (SX.S sg)] ∧ Signs sg ∧ ∀ H' : Hp, Same H H' → Q (.bl true) H'
def spArc : Sp := fun vs H Q _ => ∃ (sg : List Nat) (t : Addr) (a : Arc), vs = [.str (SX.S sg), .ref t] ∧ H t = some (arcHO a) ∧ OkArc sg a ∧ ∀ H' : Hp, Same H H' → Q (.bl true) H'
def spState1 : Sp := fun vs H Q _ => ∃ i : Int, vs = [.int i] ∧ 0 ≤ i ∧ i ≤ 63 ∧ Q .non H
def spText1 : Sp := fun vs H Q _ => ∃ (sg u : List Nat), vs = [.str (SX.S sg), .str (SX.S u)] ∧ u.length ≤ 2000 ∧ (∀ c ∈ u, c ∈ sg) ∧ ∀ H' : Hp, Same H H' → Q .non H'
theorem rep_snoc (n : Nat) : (HO.lst ((List.replicate n true).map V.bl ++ [V.bl true])) = HO.lst ((List.replicate (n + 1) true).map V.bl) := by
  congr 1
  rw [List.replicate_succ']
  simp
theorem all_true {n : Nat} : (List.replicate n true).all id = true := by simp
section
variable {P : Program} {w : World} {K : PySem.W.Frag} {mg : Str → Option Value} {base : Heap}

theorem ok_is_number (T : Tx K mg) : FnOk P w K mg base CX0 1 T.f_is_number T.fd_is_number P_is_number spNumber := by
  refine T.F_is_number.ok sc_is_number (fun vs H Q E h => ?_) (fun cdv A outer s H vs Q E hr h => ?_)
  · obtain ⟨i, lo, hi, rfl, _⟩ := h
    rfl
  · obtain ⟨i, lo, hi, rfl, k⟩ := h
    refine ⟨_, (pss_one (ps_ret (pe_and (pe_callB (call_isiK' (K := K) rfl) rfl T.n_isinstance (by decide +kernel) (pa_cons (pv 0) (pa_cons (pe_bltn (v := V.ty "int") (u := .type "int") rfl T.n_int (by decide +kernel) rfl) pa_nil))) (pe_and (pe_not (pe_callB (call_isiK' (K := K) rfl) rfl T.n_isinstance (by decide +kernel) (pa_cons (pv 0) (pa_cons (pe_bltn (v := V.ty "bool") (u := .type "bool") rfl T.n_bool (by decide +kernel) rfl) pa_nil)))) (pe_one (pe_chain op_le op_le (pv 1) (pv 0) (pv 2))))))), ?_⟩
    refine ⟨_, rfl, _, _, _, _, true, rfl, .ty "int", .base (.int i), kit_ty (by decide +kernel), true, rfl, ?_⟩
    refine ⟨_, rfl, _, _, _, _, false, rfl, .ty "bool", .base (.int i), kit_ty (by decide +kernel), false, rfl, true, rfl, ?_⟩
    refine ⟨_, rfl, _, rfl, _, _, rfl, rfl, _, rfl, ?_⟩
    refine ite2 (fun c => ?_) (fun c => ?_)
    · refine ⟨_, rfl, _, _, rfl, rfl, k _ ?_⟩
      have c1 := of_decide_eq_true c
      constructor
      · intro h; exact ⟨c1, of_decide_eq_true h⟩
      · intro h; exact decide_eq_true h.2
    · refine k _ ?_
      constructor
      · intro h; cases h
      · intro h; exact absurd (decide_eq_true h.1) c

theorem ok_is_sequence (T : Tx K mg) : FnOk P w K mg base CX0 1 T.f_is_sequence T.fd_is_sequence P_is_sequence (spSequence K) := by
  refine T.F_is_sequence.ok sc_is_sequence (fun vs H Q E h => ?_) (fun cdv A outer s H vs Q E hr h => ?_)
  · obtain ⟨a, xs, lo, hi, rfl, _⟩ := h
    rfl
  · obtain ⟨a, xs, lo, hi, rfl, ha, k⟩ := h
    refine ⟨_, (pss_one (ps_ret (pe_and (pe_callB (call_isiTK (K := K) rfl) rfl T.n_isinstance (by decide +kernel) (pa_cons (pv 0) (pa_cons (pe_tup (pa_cons (pe_bltn (v := V.ty "list") (u := .type "list") rfl T.n_list (by decide +kernel) rfl) (pa_cons (pe_bltn (v := V.ty "tuple") (u := .type "tuple") rfl T.n_tuple (by decide +kernel) rfl) pa_nil))) pa_nil))) (pe_one (pe_chain op_le op_le (pv 1) (pe_callB (call_len_seqK (K := K) rfl) rfl T.n_len (by decide +kernel) (pa_cons (pv 0) pa_nil)) (pv 2)))))), ?_⟩
    refine ⟨_, rfl, le_size (by decide), fun t ht => ?_⟩
    have st := Same.new (.tup [V.ty "list", V.ty "tuple"]) ht
    have two : ∃ tv, TyX K (upd H t (.tup [V.ty "list", V.ty "tuple"])) (.ref a) tv ∧ PySem.W.kitAny K tv [.type "list", .type "tuple"] = some true := by
      rcases ha with ha | ha
      · exact ⟨_, .base (.lst (st _ _ ha)), kitAny_cons (b := true) (kit_ty (by decide +kernel)) (fun q => nomatch q) (fun _ => rfl)⟩
      · exact ⟨_, .base (.tup (st _ _ ha)), kitAny_cons (b := false) (kit_ty (by decide +kernel)) (fun _ => kitAny_cons (b := true) (kit_ty (by decide +kernel)) (fun q => nomatch q) (fun _ => rfl)) (fun q => nomatch q)⟩
    have one : SqL K (upd H t (.tup [V.ty "list", V.ty "tuple"])) a xs ∨ SqT K (upd H t (.tup [V.ty "list", V.ty "tuple"])) a xs := by
      rcases ha with ha | ha
      · exact .inl (SqL.of (st _ _ ha))
      · exact .inr (SqT.of (st _ _ ha))
    obtain ⟨tv, htv, hkt⟩ := two
    refine ⟨_, _, _, _, [.type "list", .type "tuple"], true, rfl, upd_same, .cons (.ty _) (.cons (.ty _) .nil), htv, hkt, true, rfl, ?_⟩
    refine ⟨_, rfl, _, rfl, a, xs, rfl, one, _, _, rfl, rfl, _, rfl, ?_⟩
    refine ite2 (fun c => ?_) (fun c => ?_)
    · refine ⟨_, rfl, _, _, rfl, rfl, k _ _ st ?_⟩
      have c1 := of_decide_eq_true c
      constructor
      · intro h; exact ⟨c1, of_decide_eq_true h⟩
      · intro h; exact decide_eq_true h.2
    · refine k _ _ st ?_
      constructor
      · intro h; cases h
      · intro h; exact absurd (decide_eq_true h.1) c

theorem ok_is_string_over (T : Tx K mg) : FnOk P w K mg base CX0 1 T.f_is_string_over T.fd_is_string_over P_is_string_over spOver := by
  refine T.F_is_string_over.ok sc_is_string_over (fun vs H Q E h => ?_) (fun cdv A outer s H vs Q E hr h => ?_)
  · obtain ⟨sg, u, lo, hi, rfl, _⟩ := h
    rfl
  · obtain ⟨sg, u, lo, hi, rfl, h1, h2, h3, hu, k⟩ := h
    refine ⟨_, (pss_cons (ps_if (PW.pt (pw_or (pt_not (pt_val (pe_callB (call_isiK' (K := K) rfl) rfl T.n_isinstance (by decide +kernel) (pa_cons (pv 1) (pa_cons (pe_bltn (v := V.ty "str") (u := .type "str") rfl T.n_str (by decide +kernel) rfl) pa_nil))))) (pw_or1 (pt_not (pt_chain op_le op_le (pv 2) (pe_callB call_len_str rfl T.n_len (by decide +kernel) (pa_cons (pv 1) pa_nil)) (pv 3)))))) (pss_one (ps_ret pe_bl)) pss_nil)
        (pss_one (ps_ret (pe_callB (cr_allK (K := K) rfl rfl) rfl T.n_all (by decide +kernel) (pa_cons (pe_lc (own := [("sign", 4)]) (g := (gName 4)) rfl sc_is_string_over.nd (pi_str (pv 1)) (blkOk_by (N := N_is_string_over) (sc := defScope s_is_string_over) (by decide +kernel)) (fun _ _ _ _ _ => (pg_name (i := 4) sc_is_string_over.nd rfl (Or.inl rfl))) (fun _ _ _ _ _ => pts_nil) (fun _ _ _ _ _ => (pe_cmpR op_in_sign (pv 4) (pv 0) rfl))) pa_nil))))), ?_⟩
    have hl : (SX.S u).length ≤ sizeLine := le_size (by rw [SX.S_len]; omega)
    refine ⟨_, rfl, _, _, _, _, true, rfl, .ty "str", .base (.str _), kit_ty (by decide +kernel), true, rfl, ?_⟩
    have e : ((SX.S u).length : Int) = u.length := by rw [SX.S_len]
    refine ⟨_, rfl, _, rfl, _, rfl, hl, _, _, rfl, rfl, true, congrArg V.bl (decide_eq_true (by rw [e]; exact h1)), ?_⟩
    refine ⟨_, rfl, _, _, rfl, rfl, true, congrArg V.bl (decide_eq_true (by rw [e]; exact h2)), ?_⟩
    refine ⟨_, rfl, _, rfl, fun D hD => lc_it (walk_str (z := SX.S u)) (fun i H' => H' D = some (.lst ((List.replicate i true).map V.bl)) ∧ Same H H') ⟨upd_same, Same.new _ hD⟩ (fun _ _ _ _ => trivial) ?_ ?_⟩
    · rintro i x H1 H2 hi ⟨hDl, sm⟩ ⟨rfl, c, hc, rfl⟩
      have hcu : c ∈ u := by
        have q : u[i]? = some c := by simpa using hc
        exact List.mem_of_getElem? q
      have hi2 : i ≤ 100000 := by
        have q : i < (SX.S u).length := hi
        rw [SX.S_len] at q
        omega
      refine ⟨rfl, _, rfl, _, rfl, c, _, rfl, rfl, _, hDl, lt_size (by simp; exact hi2), ?_, sm.updNew hD⟩
      rw [upd_same, decide_eq_true (by simpa using hu c hcu), rep_snoc]
    · rintro H1 ⟨hDl, sm⟩
      refine ⟨D, _, rfl, SqL.of hDl, ?_⟩
      rw [all_true]
      exact k _ sm

theorem ok_is_word (T : Tx K mg) : FnOk P w K mg base CX0 2 T.f_is_word T.fd_is_word P_is_word spIsWord := by
  have G_is_string_over : FnOk P w K mg base CX0 1 T.f_is_string_over T.fd_is_string_over P_is_string_over spOver := ok_is_string_over T
  refine T.F_is_word.ok sc_is_word (fun vs H Q E h => ?_) (fun cdv A outer s H vs Q E hr h => ?_)
  · obtain ⟨sg, u, rfl, _⟩ := h
    rfl
  · obtain ⟨sg, u, rfl, ⟨h1, h2, h3⟩, k⟩ := h
    refine ⟨_, (pss_one (ps_ret (pe_call G_is_string_over (hr.mono (by decide)) rfl T.m_is_string_over T.F_is_string_over.kp T.b_is_string_over .nil pass0 (pa_cons (pv 0) (pa_cons (pv 1) (pa_cons pe_int (pa_cons (pe_glob (v := V.int 12) rfl T.g_LONGEST_WORD ⟨_, rfl⟩) pa_nil))))))), ?_⟩
    exact ⟨_, rfl, _, rfl, sg, u, 1, 12, rfl, by omega, by omega, by omega, h3, k⟩
theorem ok_is_arc (T : Tx K mg) : FnOk P w K mg base CX0 3 T.f_is_arc T.fd_is_arc P_is_arc spArc := by
  have G_is_number : FnOk P w K mg base CX0 1 T.f_is_number T.fd_is_number P_is_number spNumber := ok_is_number T
  have G_is_word : FnOk P w K mg base CX0 2 T.f_is_word T.fd_is_word P_is_word spIsWord := ok_is_word T
  refine T.F_is_arc.ok sc_is_arc (fun vs H Q E h => ?_) (fun cdv A outer s H vs Q E hr h => ?_)
  · obtain ⟨sg, t, a, rfl, _⟩ := h
    rfl
  · obtain ⟨sg, t, ⟨s1, u, g1⟩, rfl, ht, ⟨hs, hw, hg⟩, k⟩ := h
    refine ⟨_, (pss_cons (ps_if (PW.pt (pw_or (pt_not (pt_val (pe_callB (call_isiK' (K := K) rfl) rfl T.n_isinstance (by decide +kernel) (pa_cons (pv 1) (pa_cons (pe_bltn (v := V.ty "tuple") (u := .type "tuple") rfl T.n_tuple (by decide +kernel) rfl) pa_nil))))) (pw_or1 (pt_cmpR op_ne (pe_callB (call_len_seqK (K := K) rfl) rfl T.n_len (by decide +kernel) (pa_cons (pv 1) pa_nil)) pe_int (nomark _))))) (pss_one (ps_ret pe_bl)) pss_nil)
        (pss_cons (ps_asg (pv 1) (pg_tup rfl (pgs_cons (pg_name (i := 2) sc_is_arc.nd rfl (Or.inl rfl)) (pgs_cons (pg_name (i := 3) sc_is_arc.nd rfl (Or.inl rfl)) (pgs_cons (pg_name (i := 4) sc_is_arc.nd rfl (Or.inl rfl)) pgs_nil)))))
        (pss_one (ps_ret (pe_and (pe_call G_is_number (hr.mono (by decide)) rfl T.m_is_number T.F_is_number.kp T.b_is_number .nil pass0 (pa_cons (pv 2) (pa_cons pe_int (pa_cons (pe_glob (v := V.int 63) rfl T.g_LAST_STATE ⟨_, rfl⟩) pa_nil)))) (pe_and (pe_call G_is_word (hr.mono (by decide)) rfl T.m_is_word T.F_is_word.kp T.b_is_word .nil pass0 (pa_cons (pv 0) (pa_cons (pv 3) pa_nil))) (pe_one (pe_call G_is_number (hr.mono (by decide)) rfl T.m_is_number T.F_is_number.kp T.b_is_number .nil pass0 (pa_cons (pv 4) (pa_cons pe_int (pa_cons (pe_glob (v := V.int 63) rfl T.g_LAST_STATE ⟨_, rfl⟩) pa_nil))))))))))), ?_⟩
    refine ⟨_, rfl, _, _, _, _, true, rfl, .ty "tuple", .base (.tup ht), kit_ty (by decide +kernel), true, rfl, ?_⟩
    refine ⟨_, rfl, t, _, rfl, .inr (SqT.of ht), rfl, false, rfl, ?_⟩
    refine ⟨_, rfl, t, _, rfl, SqT.of ht, rfl, ?_⟩
    have e1 : (0 : Int) ≤ ((s1 : Nat) : Int) ∧ ((s1 : Nat) : Int) ≤ 63 := by omega
    have e2 : (0 : Int) ≤ ((g1 : Nat) : Int) ∧ ((g1 : Nat) : Int) ≤ 63 := by have hg' : g1 ≤ 63 := hg; omega
    refine ⟨_, _, rfl, _, _, rfl, _, _, rfl, rfl, ?_⟩
    refine ⟨_, rfl, _, 0, 63, rfl, fun b hb => ⟨b, rfl, ?_⟩⟩
    rw [hb.mpr e1]
    refine ⟨_, rfl, _, rfl, sg, u, rfl, hw, fun H' sm => ⟨true, rfl, ?_⟩⟩
    refine ⟨_, rfl, _, 0, 63, rfl, fun b hb => ?_⟩
    rw [hb.mpr e2]
    exact k H' sm
end
end J


set_option Elab.async false
set_option linter.all false
set_option maxRecDepth 100000
set_option maxHeartbeats 4000000
namespace J
open PySem L2

theorem walk_zipS {x y : Str} : Walk (ItzS x y) (min x.cps.size y.cps.size) (fun _ => True) (fun i H v H' => ∃ T c d, v = .ref T ∧ H T = none ∧ H' = upd H T (.tup [.str ⟨#[c]⟩, .str ⟨#[d]⟩]) ∧ x.cps[i]? = some c ∧ y.cps[i]? = some d) :=
  ⟨fun _ _ h _ => h, fun _ _ => rfl, fun _ _ _ _ _ _ h => h⟩
theorem one_lt {c d : Nat} : ([c] < ([d] : List Nat)) ↔ c < d := by
  rw [List.cons_lt_cons_iff]
  constructor
  · rintro (h | ⟨_, h⟩)
    · exact h
    · exact absurd h (List.lt_irrefl _)
  · exact .inl
theorem signs_le {sg : List Nat} (h : Signs sg) : ∀ c ∈ sg, (!decide ([c] < ([97] : List Nat))) = true ∧ (!decide (([122] : List Nat) < [c])) = true := fun c hc => by
  obtain ⟨h1, h2⟩ := h.2.2.1 c hc
  rw [decide_eq_false (fun z => by rw [one_lt] at z; omega), decide_eq_false (fun z => by rw [one_lt] at z; omega)]
  exact ⟨rfl, rfl⟩
theorem signs_pair {sg : List Nat} (h : Signs sg) {i c d : Nat} (h1 : sg[i]? = some c) (h2 : (sg.drop 1)[i]? = some d) : decide ([c] < [d]) = true := by
  rw [List.getElem?_drop] at h2
  obtain ⟨l1, e1⟩ := List.getElem?_eq_some_iff.mp h1
  obtain ⟨l2, e2⟩ := List.getElem?_eq_some_iff.mp h2
  refine decide_eq_true (one_lt.mpr ?_)
  rw [← e1, ← e2]
  exact List.pairwise_iff_getElem.mp h.2.2.2 i (1 + i) l1 l2 (by omega)
section
variable {P : Program} {w : World} {K : PySem.W.Frag} {mg : Str → Option Value} {base : Heap}

theorem ok_is_signs (T : Tx K mg) : FnOk P w K mg base CX0 1 T.f_is_signs T.fd_is_signs P_is_signs spSigns := by
  refine T.F_is_signs.ok sc_is_signs (fun vs H Q E h => ?_) (fun cdv A outer s H vs Q E hr h => ?_)
  · obtain ⟨sg, rfl, _⟩ := h
    rfl
  · obtain ⟨sg, rfl, hsg, k⟩ := h
    refine ⟨_, (pss_cons (ps_if (PW.pt (pw_or (pt_not (pt_val (pe_callB (call_isiK' (K := K) rfl) rfl T.n_isinstance (by decide +kernel) (pa_cons (pv 0) (pa_cons (pe_bltn (v := V.ty "str") (u := .type "str") rfl T.n_str (by decide +kernel) rfl) pa_nil))))) (pw_or1 (pt_not (pt_chain op_le op_le pe_int (pe_callB call_len_str rfl T.n_len (by decide +kernel) (pa_cons (pv 0) pa_nil)) (pe_glob (v := V.int 4) rfl T.g_MOST_SIGNS ⟨_, rfl⟩)))))) (pss_one (ps_ret pe_bl)) pss_nil)
        (pss_cons (ps_set (i := 1) sc_is_signs.nd rfl (Or.inl rfl) (pe_callB (cr_allK (K := K) rfl rfl) rfl T.n_all (by decide +kernel) (pa_cons (pe_lc (own := [("sign", 2)]) (g := (gName 2)) rfl sc_is_signs.nd (pi_str (pv 0)) (blkOk_by (N := N_is_signs) (sc := defScope s_is_signs) (by decide +kernel)) (fun _ _ _ _ _ => (pg_name (i := 2) sc_is_signs.nd rfl (Or.inl rfl))) (fun _ _ _ _ _ => pts_nil) (fun _ _ _ _ _ => (pe_chain op_le_str op_le_str pe_str (pv 2) pe_str))) pa_nil)))
        (pss_one (ps_ret (pe_and (pv 1) (pe_one (pe_callB (cr_allK (K := K) rfl rfl) rfl T.n_all (by decide +kernel) (pa_cons (pe_lc (own := [("one", 3), ("other", 4)]) (g := (gTup K 2 (gCons (gName 3) (gCons (gName 4) gNil)))) rfl sc_is_signs.nd (pi_zipS rfl T.n_zip (pa_cons (pv 0) (pa_cons (pe_slice sl_str (pv 0) (po_some pe_int) po_none) pa_nil))) (blkOk_by (N := N_is_signs) (sc := defScope s_is_signs) (by decide +kernel)) (fun _ _ _ _ _ => (pg_tup rfl (pgs_cons (pg_name (i := 3) sc_is_signs.nd rfl (Or.inl rfl)) (pgs_cons (pg_name (i := 4) sc_is_signs.nd rfl (Or.inl rfl)) pgs_nil)))) (fun _ _ _ _ _ => pts_nil) (fun _ _ _ _ _ => (pe_cmpR op_lt_str (pv 3) (pv 4) (nomark _)))) pa_nil)))))))), ?_⟩
    have hlen := hsg.len
    have hl : (SX.S sg).length ≤ sizeLine := le_size (by rw [SX.S_len]; omega)
    have e : ((SX.S sg).length : Int) = sg.length := by rw [SX.S_len]
    refine ⟨_, rfl, _, _, _, _, true, rfl, .ty "str", .base (.str _), kit_ty (by decide +kernel), true, rfl, ?_⟩
    refine ⟨_, rfl, _, rfl, hl, _, _, rfl, rfl, true, congrArg V.bl (decide_eq_true (by rw [e]; omega)), ?_⟩
    refine ⟨_, _, rfl, rfl, true, congrArg V.bl (decide_eq_true (by rw [e]; omega)), ?_⟩
    refine ⟨_, rfl, _, rfl, fun D hD => lc_it (walk_str (z := SX.S sg)) (fun i H' => H' D = some (.lst ((List.replicate i true).map V.bl)) ∧ Same H H') ⟨upd_same, Same.new _ hD⟩ (fun _ _ _ _ => trivial) ?_ ?_⟩
    · rintro i x H1 H2 hi ⟨hDl, sm⟩ ⟨rfl, c, hc, rfl⟩
      have hcu : c ∈ sg := by
        have q : sg[i]? = some c := by simpa using hc
        exact List.mem_of_getElem? q
      have hi2 : i ≤ 100000 := by
        have q : i < (SX.S sg).length := hi
        rw [SX.S_len] at q
        omega
      obtain ⟨l1, l2⟩ := signs_le hsg c hcu
      refine ⟨rfl, _, rfl, _, _, rfl, rfl, true, congrArg V.bl l1, _, _, rfl, rfl, _, hDl, lt_size (by simp; exact hi2), ?_, sm.updNew hD⟩
      rw [upd_same]
      show some (HO.lst (_ ++ [V.bl (!decide (([122] : List Nat) < [c]))])) = _
      rw [l2, rep_snoc]
    · rintro H1 ⟨hDl, sm⟩
      refine ⟨D, _, rfl, SqL.of hDl, ?_⟩
      rw [all_true]
      refine ⟨_, rfl, true, rfl, ?_⟩
      refine ⟨_, rfl, _, rfl, _, rfl, _, rfl, hl, ?_⟩
      rw [C8.cutS_slice, SX.slice_from (by decide)]
      refine ⟨_, _, rfl, fun D2 hD2 => lc_it (walk_zipS (x := SX.S sg) (y := SX.S (sg.drop 1))) (fun i H' => H' D2 = some (.lst ((List.replicate i true).map V.bl)) ∧ Same H H') ⟨upd_same, sm.trans (Same.new _ hD2)⟩ (fun _ _ _ _ => trivial) ?_ ?_⟩
      · rintro i x H2 H3 hi ⟨hDl2, sm2⟩ ⟨t, c, d, rfl, ht, rfl, hc, hd⟩
        have hcu : sg[i]? = some c := by simpa using hc
        have hdu : (sg.drop 1)[i]? = some d := by simpa using hd
        have hi2 : i ≤ 100000 := by
          have q := (List.getElem?_eq_some_iff.mp hcu).1
          omega
        have nt : D2 ≠ t := fun z => hp_ne hDl2 ht z.symm
        refine ⟨t, _, rfl, SqT.of upd_same, rfl, _, _, rfl, _, _, rfl, rfl, rfl, _, rfl, _, rfl, _, _, rfl, rfl, _, by rw [upd_ne nt]; exact hDl2, lt_size (by simp; exact hi2), ?_, (sm2.trans (Same.new _ ht)).updNew (sm.free hD2)⟩
        rw [upd_same]
        show some (HO.lst (_ ++ [V.bl (decide ([c] < [d]))])) = _
        rw [signs_pair hsg hcu hdu, rep_snoc]
      · rintro H2 ⟨hDl2, sm2⟩
        refine ⟨D2, _, rfl, SqL.of hDl2, ?_⟩
        rw [all_true]
        exact k _ sm2
end
end J


set_option Elab.async false
set_option linter.all false
set_option maxRecDepth 100000
set_option maxHeartbeats 4000000
namespace J
open PySem L2
/-- arcs that a loom may have -/
def OkW (sg : List Nat) (as : List Arc) : Prop := 1 ≤ as.length ∧ as.length ≤ 200 ∧ ∀ a ∈ as, OkArc sg a
theorem OkArcs.w {sg : List Nat} {as : List Arc} (h : OkArcs sg as) : OkW sg as := ⟨h.1, by have := h.2.1; omega, h.2.2.1⟩
/-- a loom's fields -/
def lf (sg : List Nat) (T : Addr) : List (Str × V) := putF "arcs" (.ref T) (putF "signs" (.str (SX.S sg)) [])
theorem ne_sa : ¬ (("signs" : Str) = "arcs") := by decide +kernel
theorem lf_signs (sg : List Nat) (T : Addr) : (lf sg T).lookup ("signs" : Str) = some (.str (SX.S sg)) := by
  unfold lf
  rw [lookup_putF, if_neg ne_sa, lookup_putF, if_pos rfl]
theorem lf_arcs (sg : List Nat) (T : Addr) : (lf sg T).lookup ("arcs" : Str) = some (.ref T) := by
  unfold lf
  rw [lookup_putF, if_pos rfl]
/-- a loom stands at p -/
def LoomAt (C : Addr) (H : Hp) (p : Addr) (sg : List Nat) (us : List V) (as : List Arc) : Prop := ∃ dx T, H p = some (.ins C dx (lf sg T)) ∧ H T = some (.tup us) ∧ Arcs H us as ∧ OkW sg as ∧ Signs sg
def spInit (C : Addr) : Sp := fun vs H Q _ => ∃ (p dx a : Addr) (sg : List Nat) (us : List V) (as : List Arc), vs = [.ref p, .str (SX.S sg), .ref a] ∧ H p = some (.ins C dx []) ∧ H a = some (.lst us) ∧ Arcs H us as ∧ OkW sg as ∧ Signs sg ∧
  ∀ (H' : Hp) (T : Addr), Ex p H H' → H T = none → H' T = some (.tup us) → H' p = some (.ins C dx (lf sg T)) → Q .non H'
theorem take_snoc {α : Type} {l : List α} {i : Nat} {x : α} (h : l[i]? = some x) : l.take i ++ [x] = l.take (i + 1) := by
  rw [List.take_add_one, h]
  rfl
def spChkSigns : Sp := fun vs H Q _ => ∃ sg : List Nat, vs = [.str (SX.S sg)] ∧ Signs sg ∧ ∀ H', Same H H' → Q .non H'
section
variable {P : Program} {w : World} {K : PySem.W.Frag} {mg : Str → Option Value} {base : Heap}
theorem ok_check_signs (T : Tx K mg) : FnOk P w K mg base CX0 2 T.f_check_signs T.fd_check_signs P_check_signs spChkSigns := by
  have G_is_signs : FnOk P w K mg base CX0 1 T.f_is_signs T.fd_is_signs P_is_signs spSigns := ok_is_signs T
  refine T.F_check_signs.ok sc_check_signs (fun vs H Q E h => ?_) (fun cdv A outer s H vs Q E hr h => ?_)
  · obtain ⟨sg, rfl, _⟩ := h
    rfl
  · obtain ⟨sg, rfl, hsg, k⟩ := h
    refine ⟨_, (pss_one (ps_if (pt_not (pt_val (pe_call G_is_signs (hr.mono (by decide)) rfl T.m_is_signs T.F_is_signs.kp T.b_is_signs .nil pass0 (pa_cons (pv 0) pa_nil)))) (pss_one ps_never) pss_nil)), ?_⟩
    refine ⟨_, rfl, sg, rfl, hsg, fun H1 s1 => ⟨true, rfl, ?_⟩⟩
    exact k _ s1
theorem ok_Loom_init (T : Tx K mg) : FnOk P w K mg base CX0 4 T.f_Loom_init T.fd_Loom_init P_Loom_init (spInit T.C_Loom) := by
  have G_check_signs : FnOk P w K mg base CX0 2 T.f_check_signs T.fd_check_signs P_check_signs spChkSigns := ok_check_signs T
  have G_is_sequence : FnOk P w K mg base CX0 1 T.f_is_sequence T.fd_is_sequence P_is_sequence (spSequence K) := ok_is_sequence T
  have G_is_arc : FnOk P w K mg base CX0 3 T.f_is_arc T.fd_is_arc P_is_arc spArc := ok_is_arc T
  refine T.F_Loom_init.ok sc_Loom_init (fun vs H Q E h => ?_) (fun cdv A outer s H vs Q E hr h => ?_)
  · obtain ⟨p, dx, a, sg, us, as, rfl, _⟩ := h
    rfl
  · obtain ⟨p, dx, a, sg, us, as, rfl, hp, ha, harc, hok, hsg, k⟩ := h
    refine ⟨_, (pss_cons (ps_expr (pe_call G_check_signs (hr.mono (by decide)) rfl T.m_check_signs T.F_check_signs.kp T.b_check_signs .nil pass0 (pa_cons (pv 1) pa_nil)))
        (pss_cons (ps_if (pt_not (pt_val (pe_call G_is_sequence (hr.mono (by decide)) rfl T.m_is_sequence T.F_is_sequence.kp T.b_is_sequence .nil pass0 (pa_cons (pv 2) (pa_cons pe_int (pa_cons (pe_glob (v := V.int 200) rfl T.g_MOST_ARCS ⟨_, rfl⟩) pa_nil)))))) (pss_one ps_never) pss_nil)
        (pss_cons (ps_for PassesOwn.never rfl (pi_enum rfl T.n_enumerate (pa_cons (pv 2) pa_nil)) (pg_tup rfl (pgs_cons (pg_name (i := 3) sc_Loom_init.nd rfl (Or.inl rfl)) (pgs_cons (pg_name (i := 4) sc_Loom_init.nd rfl (Or.inl rfl)) pgs_nil))) (pss_one (ps_if (pt_not (pt_val (pe_call G_is_arc (hr.mono (by decide)) rfl T.m_is_arc T.F_is_arc.kp T.b_is_arc .nil pass0 (pa_cons (pv 1) (pa_cons (pv 4) pa_nil))))) (pss_one ps_never) pss_nil)))
        (pss_cons (ps_fld (pv 0) (pv 1) rfl)
        (pss_one (ps_fld (pv 0) (pe_callTy (call_tuple_ofK (K := K) rfl) rfl T.n_tuple (by decide +kernel) (pa_cons (pe_lc (own := [("arc", 4)]) (g := (gName 4)) rfl sc_Loom_init.nd (pi_list (pv 2)) (blkOk_by (N := N_Loom_init) (sc := defScope s_Loom_init) (by decide +kernel)) (fun _ _ _ _ _ => (pg_name (i := 4) sc_Loom_init.nd rfl (Or.inl rfl))) (fun _ _ _ _ _ => pts_nil) (fun _ _ _ _ _ => (pe_callTy (call_tuple_ofK (K := K) rfl) rfl T.n_tuple (by decide +kernel) (pa_cons (pv 4) pa_nil)))) pa_nil)) rfl)))))), ?_⟩
    refine ⟨_, rfl, sg, rfl, hsg, fun H1 s1 => ?_⟩
    refine ⟨_, rfl, a, us, 1, 200, rfl, .inl (s1 _ _ ha), fun H2 b s2 hb => ⟨b, rfl, ?_⟩⟩
    have hl := hok.2.1
    have hl0 := hok.1
    have hl2 := harc.1
    rw [hb.mpr ⟨by omega, by omega⟩]
    have s12 := s1.trans s2
    refine ⟨_, rfl, a, us, rfl, SqL.of (s12 _ _ ha), for_it walk_enum (fun i σ H' => ∃ v3 v4, σ = [some (.ref p), some (.str (SX.S sg)), some (.ref a), v3, v4] ∧ Same H H') ⟨_, _, rfl, s12⟩ (fun i σ H' _ ⟨_, _, _, sm⟩ => SqL.of (sm _ _ ha)) ?_ ?_⟩
    · rintro i x σ H3 H4 hi ⟨v3, v4, rfl, s3⟩ ⟨tp, x1, y1, rfl, ht, rfl, hx1, hy1⟩
      cases hx1
      have hia : i < as.length := by omega
      obtain ⟨t, hut, htt⟩ := harc.2 i as[i] (List.getElem?_eq_getElem hia)
      replace hy1 : us[i]? = some y1 := hy1
      rw [hut] at hy1
      cases hy1
      have sn := Same.new (.tup [V.int (i : Int), .ref t]) ht
      refine ⟨tp, _, rfl, SqT.of upd_same, rfl, _, _, rfl, _, _, rfl, rfl, ?_⟩
      refine ⟨_, rfl, _, rfl, sg, t, as[i], rfl, sn _ _ (s3 _ _ htt), hok.2.2 _ (List.getElem_mem hia), fun H5 s5 => ⟨true, rfl, ?_⟩⟩
      exact ⟨_, _, rfl, s3.trans (sn.trans s5)⟩
    · rintro σ H3 ⟨v3, v4, rfl, s3⟩
      have hp3 := s3 _ _ hp
      refine ⟨_, rfl, _, rfl, p, _, dx, _, rfl, hp3, T.cl_Loom, T.na_Loom_signs, (by show 0 < 1000; decide), ?_⟩
      have x3 : Ex p H (upd H3 p (.ins T.C_Loom dx (putF "signs" (.str (SX.S sg)) []))) := (Same.ex s3).trans (Ex.upd _)
      have nap : a ≠ p := fun z => by rw [z, hp] at ha; cases ha
      refine ⟨_, rfl, a, rfl, ⟨_, SqL.of (x3 _ _ nap ha)⟩, fun D hD => lc_list (K := K) (a := a) (xs := us) (fun i H' => H' D = some (.lst (us.take i)) ∧ Ex p H H' ∧ H' p = some (.ins T.C_Loom dx (putF "signs" (.str (SX.S sg)) []))) ?_ ?_ ?_ ?_⟩
      · have nDp : D ≠ p := hp_ne upd_same hD
        exact ⟨upd_same, x3.trans (Ex.new _ hD), by rw [upd_ne nDp.symm]; exact upd_same⟩
      · rintro i H4 hi ⟨_, x4, _⟩
        exact SqL.of (x4 _ _ nap ha)
      · rintro i y H4 hy ⟨hDl, x4, hp4⟩
        have hia : i < us.length := (List.getElem?_eq_some_iff.mp hy).1
        obtain ⟨t, hut, htt⟩ := harc.2 i as[i] (List.getElem?_eq_getElem (by omega))
        rw [hut] at hy
        cases hy
        have ntp : t ≠ p := fun z => by rw [z, hp] at htt; cases htt
        have nDp : D ≠ p := hp_ne upd_same hD
        refine ⟨rfl, _, rfl, t, _, rfl, .inr ⟨SqT.of (x4 _ _ ntp htt), _, hDl, lt_size (by simp; omega), ?_, x4.updNew (x3.free hD nDp), by rw [upd_ne nDp.symm]; exact hp4⟩⟩
        rw [upd_same, take_snoc hut]
      · rintro H4 ⟨hDl, x4, hp4⟩
        rw [List.take_length] at hDl
        refine ⟨D, us, rfl, .inl ⟨SqL.of hDl, fun T1 hT1 => ?_⟩⟩
        have nT : T1 ≠ p := hp_ne hp4 hT1
        refine ⟨_, rfl, p, _, dx, _, rfl, by rw [upd_ne nT.symm]; exact hp4, T.cl_Loom, T.na_Loom_arcs, (by show 1 < 1000; decide), ?_⟩
        exact k _ T1 ((x4.trans (Ex.new _ hT1)).trans (Ex.upd _)) (x4.free hT1 nT) (by rw [upd_ne nT]; exact upd_same) upd_same
end
end J


set_option Elab.async false
set_option linter.all false
set_option maxRecDepth 100000
/-! a dict comprehension over whatever a Walk tells of; an expression whose rule is either of two -/
namespace L2
open PySem PySem.Spec PyProof.Rows
theorem pe_either {X : Cx} {e : Expr} {ta tb : TE} (ha : PE X e ta) (hb : PE X e tb) : PE X e (fun σ H Q => ta σ H Q ∨ tb σ H Q) :=
  ⟨fun pins s σ H Q I h => h.elim (ha.run pins s σ H Q I) (hb.run pins s σ H Q I)⟩
/-- an f-string, as a name of its own -/
def tJ (ts : List TE) : TE := fun σ H Q => tJs ts Str.empty σ H fun out H1 => Q (.str out) H1
theorem pe_joinT {X : Cx} {v1 v2 : Expr} {rest : List Expr} {ts : List TE} {pos : Pos} (h : PJ X (v1 :: v2 :: rest) ts) : PE X (.JoinedStr (v1 :: v2 :: rest) pos) (tJ ts) := pe_joined h
theorem dc_it {J : It} {n : Nat} {G : Hp → Prop} {Y : Nat → Hp → V → Hp → Prop} (w : Walk J n G Y) {g : TG} {tt : TT} {tk tv : TE} {vs : List Nat} {σ : St} {H1 : Hp} {D : Addr} {Qd : Hp → Prop} (Pv : Nat → Hp → Prop)
    (h0 : Pv 0 (upd H1 D (.dK []))) (hG : ∀ i H, i ≤ n → Pv i H → G H) (hs : ∀ i x H H', i < n → Pv i H → Y i H x H' → (g x (wipe σ vs) H' fun σ2 H2 => wipe σ2 vs = wipe σ vs ∧ tt σ2 H2 fun b H3 => if b = true then (tk σ2 H3 fun y H4 => tv σ2 H4 fun z H5 => ∃ kvs k, y = kV k ∧ H5 D = some (.dK kvs) ∧ kvs.length < sizeLine ∧ Pv (i + 1) (upd H5 D (.dK (putK kvs k z)))) else Pv (i + 1) H3)) (hd : ∀ H, Pv n H → Qd H) :
    ∃ W : Nat → Nat → Hp → Prop, (∃ m, W 0 m (upd H1 D (.dK []))) ∧ ∀ i m H, W i m H → (J.stop i H ∧ Qd H) ∨
      (J.go i H ∧ ∃ Nx : Hp → Prop, (∀ H', Nx H' → ∃ m', m' < m ∧ W (i + 1) m' H') ∧ ∀ x H', J.yld i H x H' → (g x (wipe σ vs) H' fun σ2 H2 => wipe σ2 vs = wipe σ vs ∧ tt σ2 H2 fun b H3 => if b = true then (tk σ2 H3 fun y H4 => tv σ2 H4 fun z H5 => ∃ kvs k, y = kV k ∧ H5 D = some (.dK kvs) ∧ kvs.length < sizeLine ∧ Nx (upd H5 D (.dK (putK kvs k z)))) else Nx H3)) := by
  refine ⟨fun i m H => (m = n - i ∧ i ≤ n) ∧ Pv i H, ⟨n, ⟨rfl, Nat.zero_le _⟩, h0⟩, ?_⟩
  rintro i m H ⟨⟨rfl, hi⟩, p⟩
  rcases Nat.lt_or_ge i n with hlt | hge
  · exact .inr ⟨w.goes i H hlt (hG i H hi p), Pv (i + 1), fun H' p' => ⟨n - (i + 1), by omega, ⟨rfl, hlt⟩, p'⟩, fun x H' y => hs i x H H' hlt p (w.yields i H x H' hlt (hG i H hi p) y)⟩
  · have e : n = i := Nat.le_antisymm hge hi
    subst e
    exact .inl ⟨w.stops H (hG _ H hi p), hd H p⟩
end L2

set_option Elab.async false
set_option linter.all false
set_option maxRecDepth 100000
set_option maxHeartbeats 4000000
namespace J
open PySem L2
theorem LoomAt.same {C : Addr} {H H' : Hp} {p : Addr} {sg : List Nat} {us : List V} {as : List Arc} (h : LoomAt C H p sg us as) (s : Same H H') : LoomAt C H' p sg us as := by
  obtain ⟨dx, T, h1, h2, h3, h4, h5⟩ := h
  exact ⟨dx, T, s _ _ h1, s _ _ h2, h3.same s, h4, h5⟩
/-- a list or a tuple -/
def Seq (H : Hp) (a : Addr) (xs : List V) : Prop := H a = some (.lst xs) ∨ H a = some (.tup xs)
theorem Seq.same {H H' : Hp} {a : Addr} {xs : List V} (h : Seq H a xs) (s : Same H H') : Seq H' a xs := h.imp (s _ _) (s _ _)
theorem kit_self {K : PySem.W.Frag} (t : Value) : PySem.W.kitOne K t t = some true := by unfold PySem.W.kitOne; simp
theorem txt_at {ws : List (List Nat)} {i : Nat} {y : V} (h : (txts ws)[i]? = some y) : ∃ u, ws[i]? = some u ∧ y = .str (SX.S u) := by
  rw [txts, List.getElem?_map] at h
  obtain ⟨u, hu, e⟩ := Option.map_eq_some_iff.mp h
  exact ⟨u, hu, e.symm⟩
theorem S_inj {u v : List Nat} (h : SX.S u = SX.S v) : u = v := by
  unfold SX.S at h
  injection h with h
  simpa using h
def arcD (a : Arc) : PyData := .tuple [.int (a.1 : Int), .str (SX.S a.2.1), .int (a.2.2 : Int)]
theorem dp_arc {K : PySem.W.Frag} {H : Hp} {t : Addr} {a : Arc} (h : H t = some (arcHO a)) : Dp K H (.ref t) (arcD a) := .tup (SqT.of h) (.cons (.int _) (.cons (.str _) (.cons (.int _) .nil)))
theorem dp_arcs {K : PySem.W.Frag} {H : Hp} : ∀ {us : List V} {as : List Arc}, Arcs H us as → DpAll K H us (as.map arcD)
  | [], [], _ => .nil
  | [], _ :: _, h => by have := h.1; simp at this
  | _ :: _, [], h => by have := h.1; simp at this
  | u :: us, a :: as, h => by
    obtain ⟨t, e, ht⟩ := h.2 0 a rfl
    cases e
    refine .cons (dp_arc ht) (dp_arcs ⟨by have := h.1; simpa using this, fun i b hb => ?_⟩)
    obtain ⟨t', e', ht'⟩ := h.2 (i + 1) b (by simpa using hb)
    exact ⟨t', by simpa using e', ht'⟩
theorem str_beq (u v : List Nat) : (SX.S u == SX.S v) = decide (u = v) := by
  by_cases h : u = v
  · subst h; simp
  · have n : SX.S u ≠ SX.S v := fun z => h (S_inj z)
    rw [decide_eq_false h]
    exact beq_false_of_ne n
theorem nat_beq (m n : Nat) : ((m : Int) == (n : Int)) = decide (m = n) := by
  by_cases h : m = n
  · subst h; simp
  · rw [decide_eq_false h]
    exact beq_false_of_ne (fun z => h (by exact_mod_cast z))
theorem eqv_arc (a b : Arc) : PyData.eqv (arcD a) (arcD b) = decide (a = b) := by
  show (((a.1 : Int) == (b.1 : Int)) && ((SX.S a.2.1 == SX.S b.2.1) && (((a.2.2 : Int) == (b.2.2 : Int)) && true))) = _
  rw [nat_beq, nat_beq, str_beq]
  obtain ⟨a1, a2, a3⟩ := a
  obtain ⟨b1, b2, b3⟩ := b
  rw [Bool.eq_iff_iff]
  simp
theorem eqv_arcs : ∀ as bs : List Arc, PyData.eqvAll (as.map arcD) (bs.map arcD) = decide (as = bs)
  | [], [] => rfl
  | [], b :: bs => by rw [decide_eq_false (by simp)]; rfl
  | a :: as, [] => by rw [decide_eq_false (by simp)]; rfl
  | a :: as, b :: bs => by
    show (PyData.eqv (arcD a) (arcD b) && PyData.eqvAll (as.map arcD) (bs.map arcD)) = _
    rw [eqv_arc, eqv_arcs as bs, Bool.eq_iff_iff]
    simp
def txtD (ws : List (List Nat)) : List PyData := ws.map fun u => .str (SX.S u)
theorem dp_txts {K : PySem.W.Frag} {H : Hp} : ∀ ws : List (List Nat), DpAll K H (txts ws) (txtD ws)
  | [] => .nil
  | _ :: r => .cons (.str _) (dp_txts r)
theorem eqv_txts : ∀ as bs : List (List Nat), PyData.eqvAll (txtD as) (txtD bs) = decide (as = bs)
  | [], [] => rfl
  | [], b :: bs => by rw [decide_eq_false (by simp)]; rfl
  | a :: as, [] => by rw [decide_eq_false (by simp)]; rfl
  | a :: as, b :: bs => by
    show ((SX.S a == SX.S b) && PyData.eqvAll (txtD as) (txtD bs)) = _
    rw [str_beq, eqv_txts as bs, Bool.eq_iff_iff]
    simp
theorem str_ok {u : List Nat} (h : ∀ c ∈ u, c < 1114112) : PyData.strOk (SX.S u) = true := by
  unfold PyData.strOk SX.S
  simp only [List.all_toArray, List.all_eq_true, decide_eq_true_eq]
  exact h
theorem word_small {sg u : List Nat} (hs : Signs sg) (h : Word sg u) : ∀ c ∈ u, c < 1114112 := fun c hc => by
  have := (hs.2.2.1 c (h.2.2 c hc)).2
  omega
theorem lay_arcs {sg : List Nat} (hs : Signs sg) : ∀ as : List Arc, (∀ a ∈ as, OkArc sg a) → PyData.canLayAll0 (as.map arcD) = true
  | [], _ => rfl
  | a :: r, h => by
    have e : PyData.strOk (SX.S a.2.1) = true := str_ok (word_small hs (h a (by simp)).2.1)
    have ea : PyData.canLay0 (arcD a) = true := by
      show (true && (PyData.strOk (SX.S a.2.1) && (true && true))) = true
      rw [e]; rfl
    show (PyData.canLay0 (arcD a) && PyData.canLayAll0 (r.map arcD)) = true
    rw [ea, lay_arcs hs r fun b hb => h b (by simp [hb])]
    rfl
theorem deep_arcs : ∀ as : List Arc, PyData.depthAll (as.map arcD) ≤ 1
  | [] => by simp [PyData.depthAll]
  | a :: r => by
    show max (PyData.depth (arcD a)) (PyData.depthAll (r.map arcD)) ≤ 1
    have e : PyData.depth (arcD a) = 1 := by simp [arcD, PyData.depth, PyData.depthAll]
    have := deep_arcs r
    omega
theorem shaped_arcsL {sg : List Nat} {as : List Arc} (hs : Signs sg) (h : ∀ a ∈ as, OkArc sg a) : SeqAt.shaped (.tuple (as.map arcD)) = true ∧ SeqAt.shaped (.list (as.map arcD)) = true := by
  have e1 := lay_arcs hs as h
  have e2 : PyData.depthAll (as.map arcD) + 1 ≤ 64 := by
    have := deep_arcs as
    omega
  constructor
  · have q1 : PyData.canLay0 (.tuple (as.map arcD)) = true := e1
    have q2 : PyData.depth (.tuple (as.map arcD)) ≤ 64 := e2
    unfold SeqAt.shaped
    rw [q1, decide_eq_true q2]
    rfl
  · have q1 : PyData.canLay0 (.list (as.map arcD)) = true := e1
    have q2 : PyData.depth (.list (as.map arcD)) ≤ 64 := e2
    unfold SeqAt.shaped
    rw [q1, decide_eq_true q2]
    rfl
theorem lay_txts : ∀ ws : List (List Nat), (∀ u ∈ ws, ∀ c ∈ u, c < 1114112) → PyData.canLayAll0 (txtD ws) = true
  | [], _ => rfl
  | u :: r, h => by
    show (PyData.strOk (SX.S u) && PyData.canLayAll0 (txtD r)) = true
    rw [str_ok (h u (by simp)), lay_txts r fun v hv => h v (by simp [hv])]
    rfl
theorem deep_txts : ∀ ws : List (List Nat), PyData.depthAll (txtD ws) = 0
  | [] => by simp [txtD, PyData.depthAll]
  | u :: r => by
    show max (PyData.depth (.str (SX.S u))) (PyData.depthAll (txtD r)) = 0
    rw [deep_txts r]
    simp [PyData.depth]
theorem shaped_txts {ws : List (List Nat)} (h : ∀ u ∈ ws, ∀ c ∈ u, c < 1114112) : SeqAt.shaped (.list (txtD ws)) = true := by
  have q1 : PyData.canLay0 (.list (txtD ws)) = true := lay_txts ws h
  have q2 : PyData.depth (.list (txtD ws)) ≤ 64 := by
    show PyData.depthAll (txtD ws) + 1 ≤ 64
    rw [deep_txts]
    decide
  unfold SeqAt.shaped
  rw [q1, decide_eq_true q2]
  rfl
/-- two looms, and whether they are the same -/
def Eql (C : Addr) (a b : Addr) (r : Bool) (H : Hp) : Prop := ∃ sg us as sg' us' as', LoomAt C H a sg us as ∧ LoomAt C H b sg' us' as' ∧ r = decide (sg = sg' ∧ as = as')
section
variable {P : Program} {w : World} {K : PySem.W.Frag} {mg : Str → Option Value} {base : Heap}
theorem ok_Loom_eq (T : Tx K mg) : FnOk P w K mg base CX0 1 T.f_Loom_eq T.fd_Loom_eq P_Loom_eq (spEqB (Eql T.C_Loom)) := by
  refine T.F_Loom_eq.ok sc_Loom_eq (fun vs H Q E h => ?_) (fun cdv A outer s H vs Q E hr h => ?_)
  · obtain ⟨a, b, r, rfl, _⟩ := h
    rfl
  · obtain ⟨a, b, r, rfl, ⟨sg, us, as, sg', us', as', ⟨dx, TT, hq, hT, harc, hok, hsg⟩, ⟨dx', TT', hq', hT', harc', hok', hsg'⟩, rfl⟩, k⟩ := h
    refine ⟨_, (pss_one (ps_ret (pe_and (pe_callB (call_isiZ (K := K) rfl) rfl T.n_isinstance (by decide +kernel) (pa_cons (pv 1) (pa_cons (pe_glob (v := V.ref T.C_Loom) rfl T.g_Loom rfl) pa_nil))) (pe_and (pe_cmpR op_eq (pe_fld (pv 0) rfl) (pe_fld (pv 1) rfl) (nomark _)) (pe_one (pe_cmpR (op_eqD hr.units) (pe_fld (pv 0) rfl) (pe_fld (pv 1) rfl) (nomark _))))))), ?_⟩
    refine ⟨_, rfl, _, _, _, _, true, rfl, .own _, .x (.base (.ins hq' T.cl_Loom T.ic_Loom T.ig T.it T.im_Loom)), kit_self _, true, rfl, ?_⟩
    refine ⟨_, rfl, a, _, dx, _, _, rfl, hq, T.cl_Loom, T.na_Loom_signs, lf_signs _ _, ?_⟩
    refine ⟨_, rfl, b, _, dx', _, _, rfl, hq', T.cl_Loom, T.na_Loom_signs, lf_signs _ _, ?_⟩
    refine ⟨rfl, _, rfl, ?_⟩
    refine ite2 (fun c => ?_) (fun c => ?_)
    · have e0 := of_decide_eq_true c
      injection e0 with e0
      have e1 : sg = sg' := S_inj e0
      subst e1
      refine ⟨_, rfl, a, _, dx, _, _, rfl, hq, T.cl_Loom, T.na_Loom_arcs, lf_arcs _ _, ?_⟩
      refine ⟨_, rfl, b, _, dx', _, _, rfl, hq', T.cl_Loom, T.na_Loom_arcs, lf_arcs _ _, ?_⟩
      refine ⟨_, _, .tup (SqT.of hT) (dp_arcs harc), .tup (SqT.of hT') (dp_arcs harc'), (shaped_arcsL hsg hok.2.2).1, (shaped_arcsL hsg hok'.2.2).1, ?_⟩
      have e2 : PyData.eqv (.tuple (as.map arcD)) (.tuple (as'.map arcD)) = decide (sg = sg ∧ as = as') := by
        show PyData.eqvAll (as.map arcD) (as'.map arcD) = _
        rw [eqv_arcs]
        simp
      rw [e2]
      exact k H Ext.rfl'
    · have n : ¬ (sg = sg' ∧ as = as') := fun z => c (decide_eq_true (by rw [z.1]))
      rw [decide_eq_false n] at k
      exact k H Ext.rfl'
end
end J


set_option Elab.async false
set_option linter.all false
set_option maxRecDepth 100000
set_option maxHeartbeats 4000000
namespace J
open PySem L2
/-! ### numbers as texts, lines, pages -/
def nt (n : Nat) : List Nat := (Str.ofString (toString (n : Int))).cps.toList
theorem nt_S (n : Nat) : Str.ofString (toString (n : Int)) = SX.S (nt n) := rfl
theorem nt_facts : ∀ n, n < 200 → (nt n).foldl (fun a c => 10 * a + (c - 48)) 0 = n ∧ (∀ c ∈ nt n, 48 ≤ c ∧ c ≤ 57) ∧ 1 ≤ (nt n).length ∧ (nt n).length ≤ 3 := by decide +kernel
theorem nt_inj {a b : Nat} (ha : a < 200) (hb : b < 200) (h : nt a = nt b) : a = b := by
  rw [← (nt_facts a ha).1, ← (nt_facts b hb).1, h]
theorem val_range (f : Nat → Key) (g : Nat → V) : ∀ (n i : Nat), i < n → (∀ a, a < n → f a = f i → a = i) → valV ((List.range n).map fun j => (f j, g j)) (f i) = some (g i)
  | 0, i, h, _ => absurd h (Nat.not_lt_zero _)
  | n + 1, i, h, inj => by
    rw [List.range_succ, List.map_append]
    unfold valV
    rw [List.find?_append]
    by_cases e : i < n
    · have q := val_range f g n i e (fun a ha => inj a (by omega))
      unfold valV at q
      obtain ⟨kv, h1, h2⟩ := Option.map_eq_some_iff.mp q
      rw [h1]
      exact congrArg some h2
    · have e2 : i = n := by omega
      subst e2
      have q : (List.find? (fun kv : Key × V => decide (kv.1 = f i)) ((List.range i).map fun j => (f j, g j))) = none := by
        rw [List.find?_eq_none]
        intro x hx
        obtain ⟨a, ha, rfl⟩ := List.mem_map.mp hx
        have hai := List.mem_range.mp ha
        simp only [decide_eq_true_eq]
        intro z
        have := inj a (by omega) z
        omega
      rw [q]
      simp
theorem val_none (f : Nat → Key) (g : Nat → V) (n : Nat) (k : Key) (h : ∀ a, a < n → f a ≠ k) : valV ((List.range n).map fun j => (f j, g j)) k = none := by
  unfold valV
  have q : (List.find? (fun kv : Key × V => decide (kv.1 = k)) ((List.range n).map fun j => (f j, g j))) = none := by
    rw [List.find?_eq_none]
    intro x hx
    obtain ⟨a, ha, rfl⟩ := List.mem_map.mp hx
    simp only [decide_eq_true_eq]
    exact h a (List.mem_range.mp ha)
  rw [q]
  rfl
/-- the numbers below n by their texts -/
def nd (n : Nat) : List (Key × V) := (List.range n).map fun j => ((.inr (SX.S (nt j)) : Key), V.int (j : Int))
theorem nd_len (n : Nat) : (nd n).length = n := by simp [nd]
theorem key_inj {u v : List Nat} (h : (.inr (SX.S u) : Key) = .inr (SX.S v)) : u = v := by
  injection h with h
  exact SX.S_inj h
theorem nd_get {n i : Nat} (h : i < n) (hn : n ≤ 200) : valV (nd n) (.inr (SX.S (nt i))) = some (.int (i : Int)) :=
  val_range (fun j => (.inr (SX.S (nt j)) : Key)) (fun j => V.int (j : Int)) n i h fun a ha e => nt_inj (by omega) (by omega) (key_inj e)
theorem nd_put {n : Nat} (h : n < 200) : putK (nd n) (.inr (SX.S (nt n))) (.int (n : Int)) = nd (n + 1) := by
  unfold putK
  have q : ((nd n).any fun kv => decide (kv.1 = (.inr (SX.S (nt n)) : Key))) = false := by
    rw [List.any_eq_false]
    intro x hx
    obtain ⟨a, ha, rfl⟩ := List.mem_map.mp hx
    have hai := List.mem_range.mp ha
    simp only [decide_eq_true_eq]
    intro z
    have := nt_inj (by omega) h (key_inj z)
    omega
  rw [q, if_neg (by decide)]
  unfold nd
  rw [List.range_succ, List.map_append]
  rfl
/-- the line of signs, the line of an arc, a page -/
def sgl (sg : List Nat) : List Nat := TL.joinL [32] [[115, 105, 103, 110, 115], sg]
def arl (a : Arc) : List Nat := TL.joinL [32] [[97, 114, 99], nt a.1, a.2.1, nt a.2.2]
def lns (sg : List Nat) (as : List Arc) : List (List Nat) := sgl sg :: as.map arl
def page (sg : List Nat) (as : List Arc) : List Nat := ((lns sg as).map (· ++ [10])).flatten
theorem join_nl : ∀ ls : List (List Nat), TL.joinL [10] (ls ++ [[]]) = (ls.map (· ++ [10])).flatten
  | [] => rfl
  | [a] => by simp [TL.joinL]
  | a :: b :: r => by
    show a ++ ([10] ++ TL.joinL [10] ((b :: r) ++ [[]])) = _
    rw [join_nl (b :: r)]
    simp
theorem word_no {sg u : List Nat} (hs : Signs sg) (hw : ∀ c ∈ u, c ∈ sg) {c : Nat} (hc : c < 97) : c ∉ u := fun h => by
  have := (hs.2.2.1 c (hw c h)).1
  omega
theorem nt_no {n c : Nat} (hn : n < 200) (hc : c < 48) : c ∉ nt n := fun h => by
  have := ((nt_facts n hn).2.1 c h).1
  omega
theorem arl_split {sg : List Nat} {a : Arc} (hs : Signs sg) (h : OkArc sg a) : TL.spl [32] 0 [] (arl a) = [[97, 114, 99], nt a.1, a.2.1, nt a.2.2] := by
  refine SX.spl_join (by simp) fun p hp => ?_
  have h1 := h.1
  have h2 := h.2.2
  simp only [List.mem_cons, List.not_mem_nil, or_false] at hp
  rcases hp with rfl | rfl | rfl | rfl
  · decide
  · exact nt_no (by omega) (by decide)
  · exact word_no hs h.2.1.2.2 (by decide)
  · exact nt_no (by omega) (by decide)
theorem sgl_split {sg : List Nat} (hs : Signs sg) : TL.spl [32] 0 [] (sgl sg) = [[115, 105, 103, 110, 115], sg] := by
  refine SX.spl_join (by simp) fun p hp => ?_
  simp only [List.mem_cons, List.not_mem_nil, or_false] at hp
  rcases hp with rfl | rfl
  · decide
  · exact word_no hs (fun c hc => hc) (by decide)
theorem sgl_eq (sg : List Nat) : sgl sg = [115, 105, 103, 110, 115, 32] ++ sg := rfl
theorem arl_eq (a : Arc) : arl a = [97, 114, 99, 32] ++ (nt a.1 ++ ([32] ++ (a.2.1 ++ ([32] ++ nt a.2.2)))) := rfl
theorem arl_len {sg : List Nat} {a : Arc} (h : OkArc sg a) : (arl a).length ≤ 30 := by
  have h1 := h.1
  have h2 := h.2.2
  have q1 := (nt_facts a.1 (by omega)).2.2.2
  have q2 := (nt_facts a.2.2 (by omega)).2.2.2
  have q3 := h.2.1.2.1
  rw [arl_eq]
  simp only [List.length_append, List.length_cons, List.length_nil]
  omega
theorem sgl_len {sg : List Nat} (hs : Signs sg) : (sgl sg).length ≤ 30 := by
  have := hs.2.1
  rw [sgl_eq]
  simp only [List.length_append, List.length_cons, List.length_nil]
  omega
theorem lns_len {sg : List Nat} {as : List Arc} (hs : Signs sg) (h : ∀ a ∈ as, OkArc sg a) : ∀ l ∈ lns sg as, l.length ≤ 30 := fun l hl => by
  rcases List.mem_cons.mp hl with rfl | hl
  · exact sgl_len hs
  · obtain ⟨a, ha, rfl⟩ := List.mem_map.mp hl
    exact arl_len (h a ha)
theorem lns_no {sg : List Nat} {as : List Arc} (hs : Signs sg) (h : ∀ a ∈ as, OkArc sg a) : ∀ l ∈ lns sg as, 10 ∉ l := fun l hl => by
  rcases List.mem_cons.mp hl with rfl | hl
  · rw [sgl_eq]
    intro z
    rcases List.mem_append.mp z with z | z
    · revert z; decide
    · exact word_no hs (fun c hc => hc) (by decide) z
  · obtain ⟨a, ha, rfl⟩ := List.mem_map.mp hl
    obtain ⟨h1, h2, h3⟩ := h a ha
    rw [arl_eq]
    intro z
    simp only [List.mem_append] at z
    rcases z with z | z | z | z | z | z
    · revert z; decide
    · exact nt_no (by omega) (by decide) z
    · revert z; decide
    · exact word_no hs h2.2.2 (by decide) z
    · revert z; decide
    · exact nt_no (by omega) (by decide) z
theorem flat_len : ∀ ls : List (List Nat), (∀ l ∈ ls, l.length ≤ 30) → ((ls.map (· ++ [10])).flatten).length ≤ 31 * ls.length
  | [], _ => by simp
  | a :: r, h => by
    have h1 := h a (by simp)
    have h2 := flat_len r fun l hl => h l (by simp [hl])
    simp only [List.map_cons, List.flatten_cons, List.length_append, List.length_cons, List.length_nil]
    omega
theorem page_len {sg : List Nat} {as : List Arc} (hs : Signs sg) (h : OkW sg as) : (page sg as).length ≤ 6231 := by
  have q := flat_len (lns sg as) (lns_len hs h.2.2)
  have e : (lns sg as).length = as.length + 1 := by simp [lns]
  have := h.2.1
  unfold page
  omega
theorem page_split {sg : List Nat} {as : List Arc} (hs : Signs sg) (h : ∀ a ∈ as, OkArc sg a) : TL.spl [10] 0 [] (page sg as) = lns sg as ++ [[]] := by
  unfold page
  rw [← join_nl]
  refine SX.spl_join (by simp) fun p hp => ?_
  rcases List.mem_append.mp hp with hp | hp
  · exact lns_no hs h p hp
  · rw [List.mem_singleton.mp hp]
    simp
theorem split_at {a : List Nat} {c : Nat} (hc : c < 256) : Txt.split (SX.S a) (SX.S [c]) = (TL.spl [c] 0 [] a).map SX.S := SX.split_S (by simp) (by simpa using hc)
end J


set_option Elab.async false
set_option linter.all false
set_option maxRecDepth 100000
set_option maxHeartbeats 4000000
namespace J
open PySem L2
theorem dne {x y : V} (h : x = y) : (!decide (x = y)) = false := by rw [decide_eq_true h]; rfl
theorem dne_t {x y : V} (h : x ≠ y) : (!decide (x = y)) = true := by rw [decide_eq_false h]; rfl
def Le (x : Str) (n : Nat) : Prop := x.length ≤ n
theorem Le.app {x y : Str} {m n : Nat} (h : Le x m) (g : Le y n) : Le (x ++ y) (m + n) := by
  unfold Le at *
  rw [Str.length_append]
  omega
theorem Le.size {x : Str} {n : Nat} (h : Le x n) (g : n ≤ 100000) : x.length ≤ sizeLine := le_size (Nat.le_trans h g)
theorem line_S (a : Arc) : (((((Str.empty ++ Str.ofString "arc ") ++ Str.ofString (toString (a.1 : Int))) ++ Str.ofString " ") ++ SX.S a.2.1) ++ Str.ofString " ") ++ Str.ofString (toString (a.2.2 : Int)) = SX.S (arl a) := by
  show (((((SX.S [] ++ SX.S [97, 114, 99, 32]) ++ SX.S (nt a.1)) ++ SX.S [32]) ++ SX.S a.2.1) ++ SX.S [32]) ++ SX.S (nt a.2.2) = SX.S (arl a)
  rw [SX.S_cat, SX.S_cat, SX.S_cat, SX.S_cat, SX.S_cat, SX.S_cat, arl_eq]
  simp
theorem sign_S (sg : List Nat) : (Str.empty ++ Str.ofString "signs ") ++ SX.S sg = SX.S (sgl sg) := by
  show (SX.S [] ++ SX.S [115, 105, 103, 110, 115, 32]) ++ SX.S sg = _
  rw [SX.S_cat, SX.S_cat, sgl_eq]
  simp
def ltx (ls : List (List Nat)) : List V := ls.map fun l => V.str (SX.S l)
theorem ltx_str (ls : List (List Nat)) : ltx ls = (ls.map SX.S).map V.str := by simp [ltx]
theorem ltx_take (ls : List (List Nat)) {i : Nat} {l : List Nat} (h : ls[i]? = some l) : ltx (ls.take i) ++ [V.str (SX.S l)] = ltx (ls.take (i + 1)) := by
  rw [List.take_add_one, h]
  simp [ltx]
theorem ltx_at {ls : List (List Nat)} {i : Nat} {y : V} (h : (ltx ls)[i]? = some y) : ∃ l, ls[i]? = some l ∧ y = .str (SX.S l) := by
  rw [ltx, List.getElem?_map] at h
  obtain ⟨u, hu, e⟩ := Option.map_eq_some_iff.mp h
  exact ⟨u, hu, e.symm⟩
theorem ltx_len (ls : List (List Nat)) : (ltx ls).length = ls.length := List.length_map _
theorem sum_le (ls : List (List Nat)) (n : Nat) (h : ∀ l ∈ ls, l.length ≤ n) : ((ls.map SX.S).map (·.length)).sum ≤ n * ls.length := by
  induction ls with
  | nil => simp
  | cons a r ih =>
    have h1 := h a (by simp)
    have h2 := ih fun l hl => h l (by simp [hl])
    simp only [List.map_cons, List.sum_cons, SX.S_len, List.length_cons, Nat.mul_add, Nat.mul_one]
    omega
theorem cut_from (xs : List V) (n : Nat) : cutV xs (some (n : Int)) none = xs.drop n := by
  unfold cutV
  rw [HT.sIx_nat, HT.sIx_none, List.take_of_length_le (by rw [List.length_drop]; exact Nat.le_refl _)]
  by_cases h : n ≤ xs.length
  · rw [Nat.min_eq_left h]
  · rw [Nat.min_eq_right (by omega), List.drop_length, List.drop_eq_nil_of_le (by omega)]
theorem cut_to (xs : List V) (n : Nat) : cutV xs none (some (n : Int)) = xs.take n := by
  unfold cutV
  rw [HT.sIx_nat, HT.sIx_none, List.drop_zero, Nat.sub_zero]
  by_cases h : n ≤ xs.length
  · rw [Nat.min_eq_left h]
  · rw [Nat.min_eq_right (by omega), List.take_length, List.take_of_length_le (by omega)]
def spNums : Sp := fun vs H Q _ => ∃ n : Nat, vs = [.int (n : Int)] ∧ n < 200 ∧ ∀ H' (p : Addr), Same H H' → H p = none → H' p = some (.dK (nd (n + 1))) → Q (.ref p) H'
def spSignsIn : Sp := fun vs H Q _ => ∃ sg : List Nat, vs = [.str (SX.S (sgl sg))] ∧ Signs sg ∧ ∀ H', Same H H' → Q (.str (SX.S sg)) H'
def spArcIn : Sp := fun vs H Q _ => ∃ (sg : List Nat) (a : Arc), vs = [.str (SX.S sg), .str (SX.S (arl a))] ∧ Signs sg ∧ OkArc sg a ∧ ∀ H' (t : Addr), Same H H' → H t = none → H' t = some (arcHO a) → Q (.ref t) H'
def spWrite (C : Addr) : Sp := fun vs H Q _ => ∃ (q : Addr) (sg : List Nat) (us : List V) (as : List Arc), vs = [.ref q] ∧ LoomAt C H q sg us as ∧ ∀ H', Same H H' → Q (.str (SX.S (page sg as))) H'
def spRead (C : Addr) : Sp := fun vs H Q _ => ∃ (sg : List Nat) (as : List Arc), vs = [.str (SX.S (page sg as))] ∧ Signs sg ∧ OkW sg as ∧ ∀ H' (q : Addr) us, Same H H' → H q = none → LoomAt C H' q sg us as → Q (.ref q) H'
section
variable {P : Program} {w : World} {K : PySem.W.Frag} {mg : Str → Option Value} {base : Heap}
theorem ok_numbers_up_to (T : Tx K mg) : FnOk P w K mg base CX0 1 T.f_numbers_up_to T.fd_numbers_up_to P_numbers_up_to spNums := by
  refine T.F_numbers_up_to.ok sc_numbers_up_to (fun vs H Q E h => ?_) (fun cdv A outer s H vs Q E hr h => ?_)
  · obtain ⟨n, rfl, _⟩ := h
    rfl
  · obtain ⟨n, rfl, hn, k⟩ := h
    refine ⟨_, (pss_one (ps_ret (pe_dc (own := [("number", 1)]) (g := (gName 1)) rfl sc_numbers_up_to.nd (pi_range1 rfl T.n_range (pa_cons (pe_op op_add (pv 0) pe_int) pa_nil)) (blkOk_by (N := N_numbers_up_to) (sc := defScope s_numbers_up_to) (by decide +kernel)) (fun _ _ _ _ _ => (pg_name (i := 1) sc_numbers_up_to.nd rfl (Or.inl rfl))) (fun _ _ _ _ _ => pts_nil) (fun _ _ _ _ _ => (pe_callTy call_str_int rfl T.n_str (by decide +kernel) (pa_cons (pv 1) pa_nil))) (fun _ _ _ _ _ => (pv 1))))), ?_⟩
    refine ⟨_, rfl, _, _, rfl, rfl, _, rfl, by omega, by omega, fun D hD => ?_⟩
    refine dc_it (walk_range (lo := 0) (n := ((n : Int) + 1).toNat)) (fun i H' => H' D = some (.dK (nd i)) ∧ Same H H') ⟨upd_same, Same.new _ hD⟩ (fun _ _ _ _ => trivial) ?_ ?_
    · rintro i x H1 H2 hi ⟨hDl, sm⟩ ⟨rfl, rfl⟩
      have e0 : (0 : Int) + (i : Int) = (i : Int) := by omega
      refine ⟨rfl, ?_⟩
      show ∃ x, _
      refine ⟨_, rfl, _, rfl, ?_, _, rfl, nd i, .inr (SX.S (nt i)), ?_, hDl, lt_size (by rw [nd_len]; omega), ?_, sm.updNew hD⟩
      · rw [e0]
        exact Nat.lt_of_le_of_lt (Nat.log2_le_self _) (by omega)
      · rw [e0]
        rfl
      · rw [upd_same]
        show some (HO.dK (putK (nd i) (.inr (SX.S (nt i))) (V.int (0 + (i : Int))))) = _
        rw [e0, nd_put (by omega)]
    · rintro H1 ⟨hDl, sm⟩
      exact k H1 D sm hD (by rw [hDl]; rfl)
theorem ok_write_loom (T : Tx K mg) : FnOk P w K mg base CX0 1 T.f_write_loom T.fd_write_loom P_write_loom (spWrite T.C_Loom) := by
  refine T.F_write_loom.ok sc_write_loom (fun vs H Q E h => ?_) (fun cdv A outer s H vs Q E hr h => ?_)
  · obtain ⟨q, sg, us, as, rfl, _⟩ := h
    rfl
  · obtain ⟨q, sg, us, as, rfl, ⟨dx, TT, hq, hT, harc, hok, hsg⟩, k⟩ := h
    refine ⟨_, (pss_cons (ps_set (i := 1) sc_write_loom.nd rfl (Or.inl rfl) (pe_op op_cat (pe_lst (pa_cons (pe_joinT (PJ.cons pe_str (PJ.cons (pe_fmt (pe_fld (pv 0) rfl)) PJ.nil))) pa_nil)) (pe_lc (own := [("state", 2), ("word", 3), ("goal", 4)]) (g := (gTup K 3 (gCons (gName 2) (gCons (gName 3) (gCons (gName 4) gNil))))) rfl sc_write_loom.nd (pi_tup (pe_fld (pv 0) rfl)) (blkOk_by (N := N_write_loom) (sc := defScope s_write_loom) (by decide +kernel)) (fun _ _ _ _ _ => (pg_tup rfl (pgs_cons (pg_name (i := 2) sc_write_loom.nd rfl (Or.inl rfl)) (pgs_cons (pg_name (i := 3) sc_write_loom.nd rfl (Or.inl rfl)) (pgs_cons (pg_name (i := 4) sc_write_loom.nd rfl (Or.inl rfl)) pgs_nil))))) (fun _ _ _ _ _ => pts_nil) (fun _ _ _ _ _ => (pe_joinT (PJ.cons pe_str (PJ.cons (pe_fmt (pv 2)) (PJ.cons pe_str (PJ.cons (pe_fmt (pv 3)) (PJ.cons pe_str (PJ.cons (pe_fmt (pv 4)) PJ.nil)))))))))))
        (pss_one (ps_ret (pe_join pe_str (pe_lc (own := [("line", 5)]) (g := (gName 5)) rfl sc_write_loom.nd (pi_list (pv 1)) (blkOk_by (N := N_write_loom) (sc := defScope s_write_loom) (by decide +kernel)) (fun _ _ _ _ _ => (pg_name (i := 5) sc_write_loom.nd rfl (Or.inl rfl))) (fun _ _ _ _ _ => pts_nil) (fun _ _ _ _ _ => (pe_op op_add_str (pv 5) pe_str))))))), ?_⟩
    have hl := sgl_len hsg
    have l0 : Le Str.empty 0 := Nat.le_refl 0
    have l1 : Le (Str.ofString "signs ") 6 := Nat.le_refl 6
    have l2 : Le (SX.S sg) 4 := by unfold Le; rw [SX.S_len]; exact hsg.2.1
    refine ⟨_, rfl, (l0.app l1).size (by decide), _, rfl, q, _, dx, _, _, rfl, hq, T.cl_Loom, T.na_Loom_signs, lf_signs _ _, .inl ⟨_, rfl, l2.size (by decide), _, rfl, ((l0.app l1).app l2).size (by decide), ?_⟩⟩
    refine ⟨le_size (by simp), fun p1 hp1 => ?_⟩
    rw [sign_S]
    have s1 : Same H (upd H p1 (.lst [V.str (SX.S (sgl sg))])) := Same.new _ hp1
    have g1 : upd H p1 (.lst [V.str (SX.S (sgl sg))]) p1 = some (.lst (ltx [sgl sg])) := upd_same
    generalize upd H p1 (.lst [V.str (SX.S (sgl sg))]) = H1 at *
    refine ⟨_, rfl, q, _, dx, _, _, rfl, s1 _ _ hq, T.cl_Loom, T.na_Loom_arcs, lf_arcs _ _, TT, rfl, ⟨_, SqT.of (s1 _ _ hT)⟩, fun D hD => lc_tup (K := K) (a := TT) (xs := us) (fun i H' => H' D = some (.lst (ltx ((as.map arl).take i))) ∧ Same H1 H') ⟨upd_same, Same.new _ hD⟩ (fun i H' _ ⟨_, sm⟩ => SqT.of (sm _ _ (s1 _ _ hT))) ?_ ?_⟩
    · rintro i y H2 hy ⟨hDl, sm⟩
      have hi : i < as.length := by rw [← harc.1]; exact (List.getElem?_eq_some_iff.mp hy).1
      obtain ⟨t, hut, htt⟩ := harc.2 i as[i] (List.getElem?_eq_getElem hi)
      rw [hut] at hy
      cases hy
      have hoa := hok.2.2 _ (List.getElem_mem hi)
      have ei : as[i]? = some as[i] := List.getElem?_eq_getElem hi
      generalize as[i] = a at *
      have hl2 := hok.2.1
      have b1 := hoa.1
      have b2 := hoa.2.2
      have q1 := (nt_facts a.1 (by omega)).2.2.2
      have q2 := (nt_facts a.2.2 (by omega)).2.2.2
      have q3 := hoa.2.1.2.1
      have m1 : Le (Str.ofString "arc ") 4 := Nat.le_refl 4
      have m2 : Le (Str.ofString (toString (a.1 : Int))) 3 := by unfold Le; rw [nt_S, SX.S_len]; exact q1
      have m3 : Le (Str.ofString " ") 1 := Nat.le_refl 1
      have m4 : Le (SX.S a.2.1) 12 := by unfold Le; rw [SX.S_len]; exact q3
      have m5 : Le (Str.ofString (toString (a.2.2 : Int))) 3 := by unfold Le; rw [nt_S, SX.S_len]; exact q2
      refine ⟨t, _, rfl, SqT.of (sm _ _ (s1 _ _ htt)), rfl, _, _, rfl, _, _, rfl, _, _, rfl, rfl, ?_⟩
      have k1 := l0.app m1
      have k2 := k1.app m2
      have k3 := k2.app m3
      have k4 := k3.app m4
      have k5 := k4.app m3
      have k6 := k5.app m5
      refine ⟨rfl, _, rfl, k1.size (by decide), ?_⟩
      refine ⟨_, rfl, .inr ⟨_, rfl, Nat.lt_of_le_of_lt (Nat.log2_le_self _) (by omega), _, rfl, k2.size (by decide), ?_⟩⟩
      refine ⟨_, rfl, k3.size (by decide), ?_⟩
      refine ⟨_, rfl, .inl ⟨_, rfl, m4.size (by decide), _, rfl, k4.size (by decide), ?_⟩⟩
      refine ⟨_, rfl, k5.size (by decide), ?_⟩
      refine ⟨_, rfl, .inr ⟨_, rfl, Nat.lt_of_le_of_lt (Nat.log2_le_self _) (by omega), _, rfl, k6.size (by decide), ?_⟩⟩
      refine ⟨_, hDl, lt_size (by rw [ltx_len, List.length_take]; omega), ?_, sm.updNew hD⟩
      rw [upd_same, line_S, ltx_take (l := arl a) _ (by rw [List.getElem?_map, ei]; rfl)]
    · rintro H2 ⟨hDl, sm⟩
      rw [harc.1, List.take_of_length_le (by rw [List.length_map]; exact Nat.le_refl _)] at hDl
      refine ⟨_, _, _, _, rfl, rfl, sm _ _ g1, hDl, le_size (by rw [ltx_len, ltx_len, List.length_map]; have := hok.2.1; simp; omega), fun p2 hp2 => ?_⟩
      have e1 : ltx [sgl sg] ++ ltx (as.map arl) = ltx (lns sg as) := rfl
      rw [e1]
      have s3 : Same H (upd H2 p2 (.lst (ltx (lns sg as)))) := (s1.trans sm).trans (Same.new _ hp2)
      have g3 : upd H2 p2 (.lst (ltx (lns sg as))) p2 = some (.lst (ltx (lns sg as))) := upd_same
      generalize upd H2 p2 (.lst (ltx (lns sg as))) = H3 at *
      have hll := lns_len hsg hok.2.2
      have hln : (lns sg as).length ≤ 201 := by
        have := hok.2.1
        simp only [lns, List.length_cons, List.length_map]
        omega
      refine ⟨⟨_, rfl⟩, _, rfl, p2, rfl, ⟨_, SqL.of g3⟩, fun D2 hD2 => lc_list (K := K) (a := p2) (xs := ltx (lns sg as)) (fun i H' => H' D2 = some (.lst (ltx (((lns sg as).map (· ++ [10])).take i))) ∧ Same H3 H') ⟨upd_same, Same.new _ hD2⟩ (fun i H' _ ⟨_, sm⟩ => SqL.of (sm _ _ g3)) ?_ ?_⟩
      · rintro i y H4 hy ⟨hDl4, sm4⟩
        obtain ⟨l, hl2, rfl⟩ := ltx_at hy
        have hi := (List.getElem?_eq_some_iff.mp hl2).1
        have hl3 := hll l (List.mem_of_getElem? hl2)
        refine ⟨rfl, _, rfl, _, _, rfl, rfl, le_size (by rw [SX.S_len]; show l.length + 1 ≤ _; omega), ?_⟩
        refine ⟨_, hDl4, lt_size (by rw [ltx_len, List.length_take]; omega), ?_, sm4.updNew hD2⟩
        have e2 : SX.S l ++ Str.ofString "\n" = SX.S (l ++ [10]) := SX.S_cat l [10]
        rw [upd_same, e2, ltx_take (l := l ++ [10]) _ (by rw [List.getElem?_map, hl2]; rfl)]
      · rintro H4 ⟨hDl4, sm4⟩
        rw [ltx_len, List.take_of_length_le (by rw [List.length_map]; exact Nat.le_refl _), ltx_str] at hDl4
        refine ⟨_, _, _, rfl, rfl, .inl (SqL.of hDl4), ?_, ?_⟩
        · have q := sum_le ((lns sg as).map (· ++ [10])) 31 (fun l hl => by
            obtain ⟨l', hl', rfl⟩ := List.mem_map.mp hl
            have := hll l' hl'
            simp only [List.length_append, List.length_cons, List.length_nil]
            omega)
          have z : (Str.ofString "").length = 0 := rfl
          rw [z, Nat.mul_zero]
          rw [List.length_map] at q
          omega
        · rw [emptyS, join_flat]
          exact k _ (s3.trans sm4)
end
end J


set_option Elab.async false
set_option linter.all false
set_option maxRecDepth 100000
set_option maxHeartbeats 4000000
namespace J
open PySem L2
theorem pi_or {X : Cx} {tg l : Expr} {ti tj : TI} (h1 : PI X tg l ti) (h2 : PI X tg l tj) : PI X tg l (fun σ H R => ti σ H R ∨ tj σ H R) := ⟨fun pins s σ H R I h => h.elim (h1.run pins s σ H R I) (h2.run pins s σ H R I)⟩
theorem TyZ_same {K : PySem.W.Frag} {H H' : Hp} {x : V} {t : Value} (h : TyZ K H x t) (s : Same H H') : TyZ K H' x t := by
  cases h with
  | x h =>
    refine .x ?_
    cases h with
    | base h =>
      refine .base ?_
      cases h with
      | non => exact .non
      | bl b => exact .bl b
      | int i => exact .int i
      | str z => exact .str z
      | flt z => exact .flt z
      | lst e => exact .lst (s _ _ e)
      | frz e => exact .frz (s _ _ e)
      | tup e => exact .tup (s _ _ e)
      | dK e => exact .dK (s _ _ e)
      | dT e => exact .dT (s _ _ e)
      | ins e cl ha hn htk hm => exact .ins (s _ _ e) cl ha hn htk hm
    | byt b => exact .byt b
    | set e => exact .set (s _ _ e)
    | kList e c => exact .kList e c
    | kTuple e c => exact .kTuple e c
    | kDict e c => exact .kDict e c
    | fTuple e => exact .fTuple (s _ _ e)
    | fDict e => exact .fDict (s _ _ e)
  | exo e c => exact .exo (s _ _ e) c
  | exd e ed c => exact .exd (s _ _ e) (s _ _ ed) c
/-- what may stand in a row -/
inductive It (K : PySem.W.Frag) (H : Hp) : V → Prop
  | int (i : Int) : It K H (.int i)
  | bl (b : Bool) : It K H (.bl b)
  | other {x : V} {t : Value} (h : TyZ K H x t) (n : PySem.W.kitOne K t (.type "int") = some false) (ni : ∀ i, x ≠ .int i) : It K H x
theorem It.same {K : PySem.W.Frag} {H H' : Hp} {x : V} (h : It K H x) (s : Same H H') : It K H' x := by
  cases h with
  | int i => exact .int i
  | bl b => exact .bl b
  | other h n ni => exact .other (TyZ_same h s) n ni
/-- things: sequences of such items, and what is none -/
inductive Thg (K : PySem.W.Frag) (H : Hp) : V → Option (List V) → Prop
  | seq {a : Addr} {xs : List V} (h : Seq H a xs) (hi : ∀ x ∈ xs, It K H x) (hl : xs.length ≤ 100000) : Thg K H (.ref a) (some xs)
  | non {x : V} {t : Value} (h : TyZ K H x t) (n : PySem.W.kitAny K t [.type "list", .type "tuple"] = some false) : Thg K H x none
theorem Thg.same {K : PySem.W.Frag} {H H' : Hp} {x : V} {d : Option (List V)} (h : Thg K H x d) (s : Same H H') : Thg K H' x d := by
  cases h with
  | seq h hi hl => exact .seq (h.same s) (fun x hx => (hi x hx).same s) hl
  | non h n => exact .non (TyZ_same h s) n
def spNumG (K : PySem.W.Frag) : Sp := fun vs H Q _ => ∃ (x : V) (hi : Int), vs = [x, .int 0, .int hi] ∧ It K H x ∧ ∀ b : Bool, (b = true ↔ ∃ i, x = .int i ∧ 0 ≤ i ∧ i ≤ hi) → Q (.bl b) H
def spSeqG (K : PySem.W.Frag) : Sp := fun vs H Q _ => ∃ (x : V) (d : Option (List V)) (hi : Int), vs = [x, .int 0, .int hi] ∧ Thg K H x d ∧ ∀ (H' : Hp) (b : Bool), Same H H' → (b = true ↔ ∃ xs, d = some xs ∧ (xs.length : Int) ≤ hi) → Q (.bl b) H'
section
variable {P : Program} {w : World} {K : PySem.W.Frag} {mg : Str → Option Value} {base : Heap}
theorem ok_is_numberG (T : Tx K mg) : FnOk P w K mg base CX0 1 T.f_is_number T.fd_is_number P_is_number (spNumG K) := by
  refine T.F_is_number.ok sc_is_number (fun vs H Q E h => ?_) (fun cdv A outer s H vs Q E hr h => ?_)
  · obtain ⟨x, hi, rfl, _⟩ := h
    rfl
  · obtain ⟨x, hi, rfl, ho, k⟩ := h
    refine ⟨_, (pss_one (ps_ret (pe_and (pe_callB (call_isiZ (K := K) rfl) rfl T.n_isinstance (by decide +kernel) (pa_cons (pv 0) (pa_cons (pe_bltn (v := V.ty "int") (u := .type "int") rfl T.n_int (by decide +kernel) rfl) pa_nil))) (pe_and (pe_not (pe_callB (call_isiZ (K := K) rfl) rfl T.n_isinstance (by decide +kernel) (pa_cons (pv 0) (pa_cons (pe_bltn (v := V.ty "bool") (u := .type "bool") rfl T.n_bool (by decide +kernel) rfl) pa_nil)))) (pe_one (pe_chain op_le op_le (pv 1) (pv 0) (pv 2))))))), ?_⟩
    cases ho with
    | other h n ni => exact ⟨_, rfl, _, _, _, _, false, rfl, .ty "int", h, n, false, rfl, k false ⟨fun z => Bool.noConfusion z, fun ⟨i, e, _⟩ => absurd e (ni i)⟩⟩
    | bl b =>
      refine ⟨_, rfl, _, _, _, _, true, rfl, .ty "int", .x (.base (.bl b)), kit_ty (by decide +kernel), true, rfl, ?_⟩
      exact ⟨_, rfl, _, _, _, _, true, rfl, .ty "bool", .x (.base (.bl b)), kit_ty (by decide +kernel), true, rfl, false, rfl, k false ⟨fun z => Bool.noConfusion z, fun ⟨i, e, _⟩ => nomatch e⟩⟩
    | int i =>
      refine ⟨_, rfl, _, _, _, _, true, rfl, .ty "int", .x (.base (.int i)), kit_ty (by decide +kernel), true, rfl, ?_⟩
      refine ⟨_, rfl, _, _, _, _, false, rfl, .ty "bool", .x (.base (.int i)), kit_ty (by decide +kernel), false, rfl, true, rfl, ?_⟩
      refine ⟨_, rfl, _, rfl, _, _, rfl, rfl, _, rfl, ?_⟩
      refine ite2 (fun c => ?_) (fun c => ?_)
      · refine ⟨_, rfl, _, _, rfl, rfl, k _ ?_⟩
        have c1 := of_decide_eq_true c
        constructor
        · intro h; exact ⟨i, rfl, c1, of_decide_eq_true h⟩
        · rintro ⟨j, e, _, h⟩; cases e; exact decide_eq_true h
      · refine k _ ?_
        constructor
        · intro h; cases h
        · rintro ⟨j, e, h, _⟩; cases e; exact absurd (decide_eq_true h) c
theorem ok_is_sequenceG (T : Tx K mg) : FnOk P w K mg base CX0 1 T.f_is_sequence T.fd_is_sequence P_is_sequence (spSeqG K) := by
  refine T.F_is_sequence.ok sc_is_sequence (fun vs H Q E h => ?_) (fun cdv A outer s H vs Q E hr h => ?_)
  · obtain ⟨x, d, hi, rfl, _⟩ := h
    rfl
  · obtain ⟨x, d, hi, rfl, ho, k⟩ := h
    refine ⟨_, (pss_one (ps_ret (pe_and (pe_callB (call_isiTZ (K := K) rfl) rfl T.n_isinstance (by decide +kernel) (pa_cons (pv 0) (pa_cons (pe_tup (pa_cons (pe_bltn (v := V.ty "list") (u := .type "list") rfl T.n_list (by decide +kernel) rfl) (pa_cons (pe_bltn (v := V.ty "tuple") (u := .type "tuple") rfl T.n_tuple (by decide +kernel) rfl) pa_nil))) pa_nil))) (pe_one (pe_chain op_le op_le (pv 1) (pe_callB (call_len_seqK (K := K) rfl) rfl T.n_len (by decide +kernel) (pa_cons (pv 0) pa_nil)) (pv 2)))))), ?_⟩
    refine ⟨_, rfl, le_size (by decide), fun t ht => ?_⟩
    have st := Same.new (.tup [V.ty "list", V.ty "tuple"]) ht
    cases ho with
    | non h n =>
      exact ⟨_, _, _, _, [.type "list", .type "tuple"], false, rfl, upd_same, .cons (.ty _) (.cons (.ty _) .nil), TyZ_same h st, n, false, rfl, k _ false st ⟨fun z => Bool.noConfusion z, fun ⟨xs, e, _⟩ => nomatch e⟩⟩
    | @seq a xs h hit hl =>
      have two : ∃ tv, TyZ K (upd H t (.tup [V.ty "list", V.ty "tuple"])) (.ref a) tv ∧ PySem.W.kitAny K tv [.type "list", .type "tuple"] = some true := by
        rcases h with ha | ha
        · exact ⟨_, .x (.base (.lst (st _ _ ha))), kitAny_cons (b := true) (kit_ty (by decide +kernel)) (fun q => nomatch q) (fun _ => rfl)⟩
        · exact ⟨_, .x (.base (.tup (st _ _ ha))), kitAny_cons (b := false) (kit_ty (by decide +kernel)) (fun _ => kitAny_cons (b := true) (kit_ty (by decide +kernel)) (fun q => nomatch q) (fun _ => rfl)) (fun q => nomatch q)⟩
      have one : SqL K (upd H t (.tup [V.ty "list", V.ty "tuple"])) a xs ∨ SqT K (upd H t (.tup [V.ty "list", V.ty "tuple"])) a xs := (h.same st).elim (fun z => .inl (SqL.of z)) fun z => .inr (SqT.of z)
      obtain ⟨tv, htv, hkt⟩ := two
      refine ⟨_, _, _, _, [.type "list", .type "tuple"], true, rfl, upd_same, .cons (.ty _) (.cons (.ty _) .nil), htv, hkt, true, rfl, ?_⟩
      refine ⟨_, rfl, _, rfl, a, xs, rfl, one, _, _, rfl, rfl, _, rfl, ?_⟩
      refine ite2 (fun c => ?_) (fun c => ?_)
      · refine ⟨_, rfl, _, _, rfl, rfl, k _ _ st ?_⟩
        constructor
        · intro h; exact ⟨xs, rfl, of_decide_eq_true h⟩
        · rintro ⟨ys, e, h⟩; cases e; exact decide_eq_true h
      · exact absurd (decide_eq_true (by omega)) c
end
end J


set_option Elab.async false
set_option linter.all false
set_option maxRecDepth 100000
set_option maxHeartbeats 4000000
namespace PySem
namespace ExX
section
variable {prog : Program} {w : World} {A : Around} {E : Value → Shared → Prop} {R : Result → Shared → Prop} {s : Shared} {K : W.Frag} {mg : Str → Option Value} {C fI : Addr}
open PySem.W PySem.Calls PyProof.Rows PySem.HandSPX
theorem init_InvalidPage (T : ExcT K mg C fI "InvalidPage" ["line"] "InvalidPage.__init__" J.s_InvalidPage_init) {x t0 : Addr} {v0 : Value} (X : K.In s.heap) (hlim : s.heap.NoLimit) (hx : s.heap.get? x = some (excO C t0)) (hnx : K.lookup x = none) (hroom : A.depth < recursionLimit)
    (hq : ∀ h' tk dx, (∀ b o, b ≠ x → s.heap.get? b = some o → h'.get? b = some o) → h'.get? x = some { cls := .ref C, dict := some dx, data := .fields #[.ref t0, .none, .none, .none, .bool false, .none] } → s.heap.objs.size ≤ dx → dx ≠ x →
      h'.Ns1 dx (fun y => if y = "line" then some v0 else none) → R (.ok (.ret .none)) { s with heap := h', toks := tk }) :
    codeAny (model prog w) A (.call (.ref fI) ⟨[.ref x, v0], []⟩) R s := by
  obtain ⟨oc, od, kV, doc, pm, an, cdv, ct, osl, ho, hcd⟩ := T.fn
  obtain ⟨nm, q, N, bs, bm, sn, sub, ab, col, dd, k0, k1, k2, k3, k5, hC, hbm⟩ := T.cls
  have hcl : clsIn K C = some { name := nm, bases := bs, mro := .ref C :: bm, ns := N, qualname := q, hasDict := true, slotNames := sn, subclasses := sub, abstract := ab, collection := col, hasDel := false } := by unfold clsIn; rw [hC] <;> rfl
  refine Att.call_fn (binds := [("self", .ref x), ("line", v0)]) X hlim ho hcd hroom (BindsTo.of_eq (by first | rfl | with_unfolding_all rfl)) (by first | rfl | decide | with_unfolding_all rfl) (fun s₁ IC => ?_) rfl rfl rfl
  obtain ⟨h₁, tk₁, rfl⟩ := IC.toInCall.same
  have k : ∀ b o, s.heap.get? b = some o → h₁.get? b = some o := IC.toInCall.keep
  have hn := IC.toInCall.ns
  have hxL : s.heap.objs.size ≠ x := Nat.ne_of_gt (Heap.lt_size hx)
  have X₁ : K.In h₁ := X.keeps k
  have hx₁ := k _ _ hx
  have z : s.heap.objs.size < h₁.objs.size := hn.lt
  show wpAny _ _ (execs _ _) _ _ _
  refine wpAny_execs_cons (plainObj_wpAny_Assign_Attribute ?_)
  refine ldC (v := v0) hn (by first | rfl | with_unfolding_all rfl | kernel_rfl) (ldC (v := .ref x) hn (by first | rfl | with_unfolding_all rfl | kernel_rfl) ?_)
  refine set_plain X₁ (ox := excO C t0) (od := none) ⟨hx₁, rfl, rfl, trivial⟩ T.sa ?_
  refine osa_new X₁ hx₁ hcl (show refsEX (.ref C :: bm) = true from hbm) rfl (T.no "line" (by simp)) (fun h₃ tk₃ dx k₃ dn dne hx₃ hn₃ => ?_)
  show wpAny _ _ (execs _ _) _ _ _
  exact wpAny_execs_nil (hq h₃ tk₃ dx (fun b o hb e => k₃ b o hb (k b o e)) hx₃ (Nat.le_of_lt (Nat.lt_of_lt_of_le z dn)) dne hn₃)
theorem made_InvalidPage (T : ExcT K mg C fI "InvalidPage" ["line"] "InvalidPage.__init__" J.s_InvalidPage_init) {v0 : Value} (X : K.In s.heap) (hlim : s.heap.NoLimit) (hroom : A.depth + 1 < recursionLimit)
    (hq : ∀ h' tk e d, OwnMade s.heap h' e C d (fun y => if y = "line" then some v0 else none) → R (.ok (.ret (.ref e))) { s with heap := h', toks := tk }) :
    codeAny (model prog w) A (.call (.ref C) ⟨[v0], []⟩) R s := by
  obtain ⟨nm, q, N, bs, bm, sn, sub, ab, col, dd, k0, k1, k2, k3, k5, hC, hbm⟩ := T.cls
  obtain ⟨hp, g, dr, tk, os⟩ := s
  have k : ∀ b o, hp.get? b = some o → ((hp.push (kdv_tup [v0])).push (excO C hp.objs.size)).get? b = some o := fun b o e => Heap.get?_push_of_some _ (Heap.get?_push_of_some _ e)
  have hget : ((hp.push (kdv_tup [v0])).push (excO C hp.objs.size)).get? (hp.objs.size + 1) = some (excO C hp.objs.size) := by heap_get
  have hnx : K.lookup (hp.objs.size + 1) = none := by
    cases e : K.lookup (hp.objs.size + 1) with
    | none => rfl
    | some o =>
      have z : hp.get? (hp.objs.size + 1) = some o := X _ _ e
      exact absurd (Nat.lt_of_succ_lt (Heap.lt_size z)) (Nat.lt_irrefl _)
  refine call_own F.excBase_Exception (fun X => refsEX_contains X bm hbm) (X _ _ hC) (looks_findIn X T.iC) (fun self => bind_fn X self T.tC) (by show 1 ≤ sizeLine; rw [sizeLine_eq]; decide) ?_
  refine init_InvalidPage (s := ⟨(hp.push (kdv_tup [v0])).push (excO C hp.objs.size), g, dr, tk, os⟩) T (X.keeps k) (hlim.keeps k) hget hnx ?_ fun h' tk' dx k' hx dn dne hns => ?_
  · show A.depth + 1 < recursionLimit
    exact hroom
  · have old : ∀ b o, hp.get? b = some o → h'.get? b = some o := fun b o e => k' b o (Nat.ne_of_lt (Nat.lt_succ_of_lt (Heap.lt_size e))) (k b o e)
    have z : hp.objs.size + 1 + 1 ≤ dx := by
      first
        | (simpa only [Heap.size_push] using dn)
        | exact dn
        | (have q := dn; rw [Heap.size_push, Heap.size_push] at q; exact q)
    exact ⟨rfl, hq h' tk' (hp.objs.size + 1) dx ⟨old, Nat.le_succ _, ⟨_, _, hx, rfl, rfl, rfl, rfl⟩, Nat.le_trans (Nat.le_trans (Nat.le_succ _) (Nat.le_succ _)) z, dne, hns⟩⟩
end
end ExX
end PySem
namespace L2
open PySem PySem.Spec PyProof.Rows PySem.ExX
def fs_InvalidPage (x0 : V) : List (Str × V) := [(("line" : Str), x0)]
theorem rel_InvalidPage {x0 : V} {v0 : Value} (r0 : RelV x0 v0) (f : Str) : RelO (List.lookup f (fs_InvalidPage x0)) ((fun y : Str => if y = "line" then some v0 else none) f) := by
  unfold fs_InvalidPage
  exact (fun g => relO_put (f := "line") (fs := []) (mA := fun _ => none) r0 (fun _ => trivial) g) f
section
variable {X : Cx} {C fI : Addr} {es : List Expr} {e : Expr} {ta : TA} {p pos : Pos} {k : Nat}
def tV_InvalidPage (C : Addr) (ta : TA) : TE := fun σ H Q => ta σ H fun vs H1 => ∃ x0, vs = [x0] ∧ ∀ e d, H1 e = none → H1 d = none → d ≠ e → Q (.ref e) (upd (upd H1 d (.xd (fs_InvalidPage x0))) e (ExD C d e))
/-- InvalidPage(..) as a value -/
theorem pe_InvalidPage (T : ExcT X.K X.mg C fI "InvalidPage" ["line"] "InvalidPage.__init__" J.s_InvalidPage_init) (hr : Room k X.A) (ha : PA X (e :: es) ta) (hg : Gl X "InvalidPage" := by rfl)
    (he : starEach (e :: es) X.env = (false, eval e X.env) :: starEach es X.env := by rfl) (hpl : (backTo pos (starEach es X.env)).any (·.1) = false := by rfl) :
    PE X (.Call (.Name "InvalidPage" p) (e :: es) [] pos) (tV_InvalidPage C ta) := by
  refine ⟨fun pins s σ H Q I h => ?_⟩
  refine wpAny_Call_Name_kw (ld_glob I hg T.gC ?_)
  refine PySem.W.callWith_K (h₀ := X.base) I.ok.mod.kin T.kC (thn (ha.run pos pins s σ H _ I h) fun us s1 hh => ?_) he hpl
  obtain ⟨vs, H1, I1, r1, x0, ev, q1⟩ := hh
  subst ev
  refine ⟨I1.kIn, ?_⟩
  cases r1 with
  | cons r0 rn =>
  cases rn
  have hlim := I1.nolimit
  obtain ⟨hp, g, dr, tk, os⟩ := s1
  refine wpAny_call (made_InvalidPage T I1.kIn hlim (by have := hr.dp; omega) fun h' tk' e d M => ?_)
  exact ⟨.ref e, _, own_value (tk' := tk') I1 M (rel_InvalidPage r0), rfl, q1 e d (I1.hok.fresh M.new) (I1.hok.fresh M.dbig) M.dne⟩
def tMk_InvalidPage (C : Addr) (ta : TA) : St → Hp → XK → Prop := fun σ H Q => ta σ H fun vs H1 => ∃ x0, vs = [x0] ∧ ∀ d, H1 d = none → Q (.ref C) (some d) (upd H1 d (.xd (fs_InvalidPage x0)))
/-- InvalidPage(..) to be raised -/
theorem pmk_InvalidPage (T : ExcT X.K X.mg C fI "InvalidPage" ["line"] "InvalidPage.__init__" J.s_InvalidPage_init) (hr : Room k X.A) (ha : PA X (e :: es) ta) (hg : Gl X "InvalidPage" := by rfl)
    (he : starEach (e :: es) X.env = (false, eval e X.env) :: starEach es X.env := by rfl) (hpl : (backTo pos (starEach es X.env)).any (·.1) = false := by rfl) :
    PMk X (.Call (.Name "InvalidPage" p) (e :: es) [] pos) (tMk_InvalidPage C ta) := by
  intro pins s σ H Q I h
  refine wpAny_Call_Name_kw (ld_glob I hg T.gC ?_)
  refine PySem.W.callWith_K (h₀ := X.base) I.ok.mod.kin T.kC (thn (ha.run pos pins s σ H _ I h) fun us s1 hh => ?_) he hpl
  obtain ⟨vs, H1, I1, r1, x0, ev, q1⟩ := hh
  subst ev
  refine ⟨I1.kIn, ?_⟩
  cases r1 with
  | cons r0 rn =>
  cases rn
  have hlim := I1.nolimit
  obtain ⟨hp, g, dr, tk, os⟩ := s1
  refine wpAny_call (made_InvalidPage T I1.kIn hlim (by have := hr.dp; omega) fun h' tk' e d M => ?_)
  exact own_raise (tk' := tk') I1 M (rel_InvalidPage r0) (raises_own T.exC T.tyC) q1
end
end L2

set_option Elab.async false
set_option linter.all false
set_option maxRecDepth 100000
set_option maxHeartbeats 4000000
namespace J
open PySem L2
/-- a thing: a string, or what is none -/
inductive Wd (K : PySem.W.Frag) (H : Hp) : V → Option (List Nat) → Prop
  | str (u : List Nat) (hl : u.length ≤ 2000000) : Wd K H (.str (SX.S u)) (some u)
  | non {x : V} {t : Value} (h : TyZ K H x t) (n : PySem.W.kitOne K t (.type "str") = some false) : Wd K H x none
theorem Wd.same {K : PySem.W.Frag} {H H' : Hp} {x : V} {u : Option (List Nat)} (h : Wd K H x u) (s : Same H H') : Wd K H' x u := by
  cases h with
  | str u hl => exact .str u hl
  | non h n => exact .non (TyZ_same h s) n
theorem le_sizeM {n : Nat} (h : n ≤ 5000000) : n ≤ sizeLine := Nat.le_trans h (by decide)
theorem lt_sizeM {n : Nat} (h : n ≤ 5000000) : n < sizeLine := Nat.lt_of_le_of_lt h (by decide)
def lowB (c : Nat) : Bool := decide (97 ≤ c) && decide (c ≤ 122)
def ascB (p : Nat × Nat) : Bool := decide (p.1 < p.2)
def sgB (sg : List Nat) : Bool := decide (1 ≤ sg.length) && (decide (sg.length ≤ 4) && (sg.all lowB && (sg.zip (sg.drop 1)).all ascB))
def sgO : Option (List Nat) → Bool
  | none => false
  | some sg => sgB sg
def wdB (sg u : List Nat) (lo hi : Int) : Bool := decide (lo ≤ u.length) && (decide ((u.length : Int) ≤ hi) && u.all fun c => decide (c ∈ sg))
def wdO (sg : List Nat) (lo hi : Int) : Option (List Nat) → Bool
  | none => false
  | some u => wdB sg u lo hi
theorem all_map {α : Type} (f : α → Bool) (l : List α) : (l.map f).all id = l.all f := by
  rw [List.all_map]
  rfl
theorem take_bl {α : Type} (f : α → Bool) (l : List α) {i : Nat} {c : α} (h : l[i]? = some c) : ((l.take i).map fun c => V.bl (f c)) ++ [V.bl (f c)] = (l.take (i + 1)).map fun c => V.bl (f c) := by
  rw [← take_snoc h, List.map_append]
  rfl
def spSgX (K : PySem.W.Frag) : Sp := fun vs H Q _ => ∃ x u, vs = [x] ∧ Wd K H x u ∧ ∀ H', Same H H' → Q (.bl (sgO u)) H'
def spOverX (K : PySem.W.Frag) : Sp := fun vs H Q _ => ∃ (sg : List Nat) (x : V) (u : Option (List Nat)) (lo hi : Int), vs = [.str (SX.S sg), x, .int lo, .int hi] ∧ hi ≤ 2000 ∧ Wd K H x u ∧ ∀ H', Same H H' → Q (.bl (wdO sg lo hi u)) H'
def spWordX (K : PySem.W.Frag) : Sp := fun vs H Q _ => ∃ (sg : List Nat) (x : V) (u : Option (List Nat)), vs = [.str (SX.S sg), x] ∧ Wd K H x u ∧ ∀ H', Same H H' → Q (.bl (wdO sg 1 12 u)) H'
section
variable {P : Program} {w : World} {K : PySem.W.Frag} {mg : Str → Option Value} {base : Heap}
theorem ok_is_string_overX (T : Tx K mg) : FnOk P w K mg base CX0 1 T.f_is_string_over T.fd_is_string_over P_is_string_over (spOverX K) := by
  refine T.F_is_string_over.ok sc_is_string_over (fun vs H Q E h => ?_) (fun cdv A outer s H vs Q E hr h => ?_)
  · obtain ⟨sg, x, u, lo, hi, rfl, _⟩ := h
    rfl
  · obtain ⟨sg, x, u, lo, hi, rfl, hhi, hw, k⟩ := h
    refine ⟨_, (pss_cons (ps_if (PW.pt (pw_or (pt_not (pt_val (pe_callB (call_isiZ (K := K) rfl) rfl T.n_isinstance (by decide +kernel) (pa_cons (pv 1) (pa_cons (pe_bltn (v := V.ty "str") (u := .type "str") rfl T.n_str (by decide +kernel) rfl) pa_nil))))) (pw_or1 (pt_not (pt_chain op_le op_le (pv 2) (pe_callB call_len_str rfl T.n_len (by decide +kernel) (pa_cons (pv 1) pa_nil)) (pv 3)))))) (pss_one (ps_ret pe_bl)) pss_nil)
        (pss_one (ps_ret (pe_callB (cr_allK (K := K) rfl rfl) rfl T.n_all (by decide +kernel) (pa_cons (pe_lc (own := [("sign", 4)]) (g := (gName 4)) rfl sc_is_string_over.nd (pi_str (pv 1)) (blkOk_by (N := N_is_string_over) (sc := defScope s_is_string_over) (by decide +kernel)) (fun _ _ _ _ _ => (pg_name (i := 4) sc_is_string_over.nd rfl (Or.inl rfl))) (fun _ _ _ _ _ => pts_nil) (fun _ _ _ _ _ => (pe_cmpR op_in_sign (pv 4) (pv 0) rfl))) pa_nil))))), ?_⟩
    cases hw with
    | non h n => exact ⟨_, rfl, _, _, _, _, false, rfl, .ty "str", h, n, false, rfl, iteT (iteT (k _ (Same.refl _)))⟩
    | str u hl0 =>
      have hl : (SX.S u).length ≤ sizeLine := le_sizeM (by rw [SX.S_len]; omega)
      refine ⟨_, rfl, _, _, _, _, true, rfl, .ty "str", .x (.base (.str _)), kit_ty (by decide +kernel), true, rfl, iteF ?_⟩
      have e : ((SX.S u).length : Int) = u.length := by rw [SX.S_len]
      refine ⟨_, rfl, _, rfl, _, rfl, hl, _, _, rfl, rfl, _, rfl, ?_⟩
      refine ite2 (fun c1 => ?_) (fun c1 => ?_)
      · have d1 := of_decide_eq_true c1
        rw [e] at d1
        refine ⟨_, rfl, _, _, rfl, rfl, _, rfl, ?_⟩
        by_cases d2 : ((SX.S u).length : Int) ≤ hi
        · rw [decide_eq_true d2]
          refine iteF ?_
          refine ⟨_, rfl, _, rfl, fun D hD => lc_it (walk_str (z := SX.S u)) (fun i H' => H' D = some (.lst ((u.take i).map fun c => V.bl (decide (c ∈ sg)))) ∧ Same H H') ⟨upd_same, Same.new _ hD⟩ (fun _ _ _ _ => trivial) ?_ ?_⟩
          · rintro i x H1 H2 hi ⟨hDl, sm⟩ ⟨rfl, c, hc, rfl⟩
            have hcu : u[i]? = some c := by simpa using hc
            refine ⟨rfl, _, rfl, _, rfl, c, _, rfl, rfl, _, hDl, lt_size (by rw [List.length_map, List.length_take]; omega), ?_, sm.updNew hD⟩
            rw [upd_same]
            have q : decide (c ∈ (SX.S sg).cps.toList) = decide (c ∈ sg) := by simp
            rw [q, take_bl (fun c => decide (c ∈ sg)) u hcu]
          · rintro H1 ⟨hDl, sm⟩
            have z := k H1 sm
            refine ⟨D, u.map fun c => decide (c ∈ sg), rfl, ?_, ?_⟩
            · rw [List.map_map]
              have q : (SX.S u).cps.size = u.length := by simp
              rw [q, List.take_length] at hDl
              exact SqL.of hDl
            · rw [all_map]
              dsimp only [wdO, wdB] at z
              rw [decide_eq_true d1, decide_eq_true (by rw [← e]; exact d2 : (u.length : Int) ≤ hi), Bool.true_and, Bool.true_and] at z
              exact z
        · rw [decide_eq_false d2]
          have z := k H (Same.refl _)
          dsimp only [wdO, wdB] at z
          rw [decide_eq_false (by rw [← e]; exact d2 : ¬ (u.length : Int) ≤ hi), Bool.false_and, Bool.and_false] at z
          exact iteT z
      · have z := k H (Same.refl _)
        dsimp only [wdO, wdB] at z
        rw [decide_eq_false (fun q => c1 (decide_eq_true (by rw [e]; exact q))), Bool.false_and] at z
        exact ⟨false, rfl, iteT z⟩
theorem ok_is_wordX (T : Tx K mg) : FnOk P w K mg base CX0 2 T.f_is_word T.fd_is_word P_is_word (spWordX K) := by
  have G_is_string_over : FnOk P w K mg base CX0 1 T.f_is_string_over T.fd_is_string_over P_is_string_over (spOverX K) := ok_is_string_overX T
  refine T.F_is_word.ok sc_is_word (fun vs H Q E h => ?_) (fun cdv A outer s H vs Q E hr h => ?_)
  · obtain ⟨sg, x, u, rfl, _⟩ := h
    rfl
  · obtain ⟨sg, x, u, rfl, hw, k⟩ := h
    refine ⟨_, (pss_one (ps_ret (pe_call G_is_string_over (hr.mono (by decide)) rfl T.m_is_string_over T.F_is_string_over.kp T.b_is_string_over .nil pass0 (pa_cons (pv 0) (pa_cons (pv 1) (pa_cons pe_int (pa_cons (pe_glob (v := V.int 12) rfl T.g_LONGEST_WORD ⟨_, rfl⟩) pa_nil))))))), ?_⟩
    exact ⟨_, rfl, _, rfl, sg, x, u, 1, 12, rfl, by decide, hw, k⟩
theorem ok_is_signsX (T : Tx K mg) : FnOk P w K mg base CX0 1 T.f_is_signs T.fd_is_signs P_is_signs (spSgX K) := by
  refine T.F_is_signs.ok sc_is_signs (fun vs H Q E h => ?_) (fun cdv A outer s H vs Q E hr h => ?_)
  · obtain ⟨x, u, rfl, _⟩ := h
    rfl
  · obtain ⟨x, u, rfl, hw, k⟩ := h
    refine ⟨_, (pss_cons (ps_if (PW.pt (pw_or (pt_not (pt_val (pe_callB (call_isiZ (K := K) rfl) rfl T.n_isinstance (by decide +kernel) (pa_cons (pv 0) (pa_cons (pe_bltn (v := V.ty "str") (u := .type "str") rfl T.n_str (by decide +kernel) rfl) pa_nil))))) (pw_or1 (pt_not (pt_chain op_le op_le pe_int (pe_callB call_len_str rfl T.n_len (by decide +kernel) (pa_cons (pv 0) pa_nil)) (pe_glob (v := V.int 4) rfl T.g_MOST_SIGNS ⟨_, rfl⟩)))))) (pss_one (ps_ret pe_bl)) pss_nil)
        (pss_cons (ps_set (i := 1) sc_is_signs.nd rfl (Or.inl rfl) (pe_callB (cr_allK (K := K) rfl rfl) rfl T.n_all (by decide +kernel) (pa_cons (pe_lc (own := [("sign", 2)]) (g := (gName 2)) rfl sc_is_signs.nd (pi_str (pv 0)) (blkOk_by (N := N_is_signs) (sc := defScope s_is_signs) (by decide +kernel)) (fun _ _ _ _ _ => (pg_name (i := 2) sc_is_signs.nd rfl (Or.inl rfl))) (fun _ _ _ _ _ => pts_nil) (fun _ _ _ _ _ => (pe_chain op_le_str op_le_str pe_str (pv 2) pe_str))) pa_nil)))
        (pss_one (ps_ret (pe_and (pv 1) (pe_one (pe_callB (cr_allK (K := K) rfl rfl) rfl T.n_all (by decide +kernel) (pa_cons (pe_lc (own := [("one", 3), ("other", 4)]) (g := (gTup K 2 (gCons (gName 3) (gCons (gName 4) gNil)))) rfl sc_is_signs.nd (pi_zipS rfl T.n_zip (pa_cons (pv 0) (pa_cons (pe_slice sl_str (pv 0) (po_some pe_int) po_none) pa_nil))) (blkOk_by (N := N_is_signs) (sc := defScope s_is_signs) (by decide +kernel)) (fun _ _ _ _ _ => (pg_tup rfl (pgs_cons (pg_name (i := 3) sc_is_signs.nd rfl (Or.inl rfl)) (pgs_cons (pg_name (i := 4) sc_is_signs.nd rfl (Or.inl rfl)) pgs_nil)))) (fun _ _ _ _ _ => pts_nil) (fun _ _ _ _ _ => (pe_cmpR op_lt_str (pv 3) (pv 4) (nomark _)))) pa_nil)))))))), ?_⟩
    cases hw with
    | non h n => exact ⟨_, rfl, _, _, _, _, false, rfl, .ty "str", h, n, false, rfl, iteT (iteT (k _ (Same.refl _)))⟩
    | str sg hl0 =>
      have hl : (SX.S sg).length ≤ sizeLine := le_sizeM (by rw [SX.S_len]; omega)
      have e : ((SX.S sg).length : Int) = sg.length := by rw [SX.S_len]
      refine ⟨_, rfl, _, _, _, _, true, rfl, .ty "str", .x (.base (.str _)), kit_ty (by decide +kernel), true, rfl, iteF ?_⟩
      refine ⟨_, rfl, _, rfl, hl, _, _, rfl, rfl, _, rfl, ?_⟩
      refine ite2 (fun c1 => ?_) (fun c1 => ?_)
      · have d1 := of_decide_eq_true c1
        rw [e] at d1
        refine ⟨_, _, rfl, rfl, _, rfl, ?_⟩
        by_cases d2 : ((SX.S sg).length : Int) ≤ 4
        · rw [decide_eq_true d2]
          refine iteF ?_
          refine ⟨_, rfl, _, rfl, fun D hD => lc_it (walk_str (z := SX.S sg)) (fun i H' => H' D = some (.lst ((sg.take i).map fun c => V.bl (lowB c))) ∧ Same H H') ⟨upd_same, Same.new _ hD⟩ (fun _ _ _ _ => trivial) ?_ ?_⟩
          · rintro i x H1 H2 hi ⟨hDl, sm⟩ ⟨rfl, c, hc, rfl⟩
            have hcu : sg[i]? = some c := by simpa using hc
            refine ⟨rfl, _, rfl, _, _, rfl, rfl, ?_⟩
            have l1 : (!decide ([c] < ([97] : List Nat))) = decide (97 ≤ c) := by
              rw [Bool.eq_iff_iff]; simp [one_lt]
            have l2 : (!decide (([122] : List Nat) < [c])) = decide (c ≤ 122) := by
              rw [Bool.eq_iff_iff]; simp [one_lt]
            by_cases q : 97 ≤ c
            · refine ⟨true, congrArg V.bl (l1.trans (decide_eq_true q)), iteT ?_⟩
              refine ⟨_, _, rfl, rfl, _, hDl, lt_size (by rw [List.length_map, List.length_take]; omega), ?_, sm.updNew hD⟩
              rw [upd_same]
              show some (HO.lst (_ ++ [V.bl (!decide (([122] : List Nat) < [c]))])) = _
              have q2 : lowB c = decide (c ≤ 122) := by unfold lowB; rw [decide_eq_true q, Bool.true_and]
              rw [l2, ← q2, take_bl lowB sg hcu]
            · refine ⟨false, congrArg V.bl (l1.trans (decide_eq_false q)), iteF ?_⟩
              refine ⟨_, hDl, lt_size (by rw [List.length_map, List.length_take]; omega), ?_, sm.updNew hD⟩
              rw [upd_same]
              have q2 : lowB c = false := by unfold lowB; rw [decide_eq_false q, Bool.false_and]
              rw [← q2, take_bl lowB sg hcu]
          · rintro H1 ⟨hDl, sm⟩
            have sz : (SX.S sg).cps.size = sg.length := by simp
            rw [sz, List.take_length] at hDl
            refine ⟨D, sg.map lowB, rfl, by rw [List.map_map]; exact SqL.of hDl, ?_⟩
            rw [all_map]
            refine ⟨_, rfl, _, rfl, ?_⟩
            refine ite2 (fun c3 => ?_) (fun c3 => ?_)
            · refine ⟨_, rfl, _, rfl, _, rfl, _, rfl, hl, ?_⟩
              rw [C8.cutS_slice, SX.slice_from (by decide)]
              refine ⟨_, _, rfl, fun D2 hD2 => lc_it (walk_zipS (x := SX.S sg) (y := SX.S (sg.drop 1))) (fun i H' => H' D2 = some (.lst (((sg.zip (sg.drop 1)).take i).map fun c => V.bl (ascB c))) ∧ Same H H') ⟨upd_same, sm.trans (Same.new _ hD2)⟩ (fun _ _ _ _ => trivial) ?_ ?_⟩
              · rintro i x H2 H3 hi ⟨hDl2, sm2⟩ ⟨t, c, d, rfl, ht, rfl, hc, hd⟩
                have hcu : sg[i]? = some c := by simpa using hc
                have hdu : (sg.drop 1)[i]? = some d := by simpa using hd
                have hz : (sg.zip (sg.drop 1))[i]? = some (c, d) := by
                  rw [List.getElem?_zip_eq_some]
                  exact ⟨hcu, hdu⟩
                have nt : D2 ≠ t := fun z => hp_ne hDl2 ht z.symm
                refine ⟨t, _, rfl, SqT.of upd_same, rfl, _, _, rfl, _, _, rfl, rfl, rfl, _, rfl, _, rfl, _, _, rfl, rfl, _, by rw [upd_ne nt]; exact hDl2, lt_size (by rw [List.length_map, List.length_take, List.length_zip]; omega), ?_, (sm2.trans (Same.new _ ht)).updNew (sm.free hD2)⟩
                rw [upd_same]
                show some (HO.lst (_ ++ [V.bl (decide ([c] < [d]))])) = _
                have q3 : decide ([c] < ([d] : List Nat)) = ascB (c, d) := by
                  unfold ascB
                  rw [Bool.eq_iff_iff]
                  simp [one_lt]
                rw [q3, take_bl ascB _ hz]
              · rintro H2 ⟨hDl2, sm2⟩
                have z := k H2 sm2
                have szz : min (SX.S sg).cps.size (SX.S (sg.drop 1)).cps.size = (sg.zip (sg.drop 1)).length := by simp
                rw [szz, List.take_length] at hDl2
                refine ⟨D2, (sg.zip (sg.drop 1)).map ascB, rfl, by rw [List.map_map]; exact SqL.of hDl2, ?_⟩
                rw [all_map]
                dsimp only [sgO, sgB] at z
                rw [decide_eq_true (by omega : 1 ≤ sg.length), decide_eq_true (by omega : sg.length ≤ 4), c3, Bool.true_and, Bool.true_and, Bool.true_and] at z
                exact z
            · have z := k H1 sm
              dsimp only [sgO, sgB] at z
              rw [eq_false_of_ne_true c3, Bool.false_and, Bool.and_false, Bool.and_false] at z
              exact z
        · rw [decide_eq_false d2]
          have z := k H (Same.refl _)
          dsimp only [sgO, sgB] at z
          rw [decide_eq_false (by omega : ¬ sg.length ≤ 4), Bool.false_and, Bool.and_false] at z
          exact iteT z
      · have z := k H (Same.refl _)
        dsimp only [sgO, sgB] at z
        rw [decide_eq_false (fun q => c1 (decide_eq_true (by rw [e]; omega)) : ¬ 1 ≤ sg.length), Bool.false_and] at z
        exact ⟨false, rfl, iteT z⟩
end
end J


set_option Elab.async false
set_option linter.all false
set_option maxRecDepth 100000
set_option maxHeartbeats 4000000
namespace J
open PySem L2
def stOf (u : List Nat) : Option Nat := (List.range 64).find? fun n => decide (nt n = u)
theorem stOf_some {u : List Nat} {n : Nat} (h : stOf u = some n) : n < 64 ∧ nt n = u := by
  have h1 := List.find?_some h
  have h2 := List.mem_of_find?_eq_some h
  exact ⟨List.mem_range.mp h2, of_decide_eq_true h1⟩
theorem stOf_none {u : List Nat} (h : stOf u = none) : ∀ a, a < 64 → nt a ≠ u := fun a ha e => by
  have := List.find?_eq_none.mp h a (List.mem_range.mpr ha)
  exact this (decide_eq_true e)
theorem nd_val (u : List Nat) : valV (nd 64) (.inr (SX.S u)) = (stOf u).map fun n : Nat => V.int (n : Int) := by
  cases e : stOf u with
  | none => exact val_none (fun j => (.inr (SX.S (nt j)) : Key)) (fun j => V.int (j : Int)) 64 _ fun a ha z => stOf_none e a ha (key_inj z)
  | some m =>
    obtain ⟨h1, h2⟩ := stOf_some e
    rw [← h2, nd_get h1 (by decide)]
    rfl
def partsOf (l : List Nat) : List (List Nat) := TL.spl [32] 0 [] l
def linesOf (l : List Nat) : List (List Nat) := TL.spl [10] 0 [] l
theorem join_spl (c : Nat) (hc : c < 256) (l : List Nat) : TL.joinL [c] (TL.spl [c] 0 [] l) = l := by
  have e := StrLaws.join_split (SX.S l) (SX.S [c])
  rw [split_at hc] at e
  have q := SX.join_S [c] (TL.spl [c] 0 [] l)
  have e2 : Str.join (SX.S [c]) ((TL.spl [c] 0 [] l).map SX.S) = Txt.join (SX.S [c]) ((TL.spl [c] 0 [] l).map SX.S) := (TL.join_eq _ _).symm
  rw [e2, q] at e
  exact SX.S_inj e
/-- the signs that a line tells -/
def sgOf (line : List Nat) : Option (List Nat) := match partsOf line with
  | [a, b] => if a = [115, 105, 103, 110, 115] ∧ sgB b = true then some b else none
  | _ => none
/-- the arc that a line tells -/
def arcOf (sg line : List Nat) : Option Arc := match partsOf line with
  | [a, b, c, d] => if a = [97, 114, 99] ∧ (stOf b).isSome = true ∧ (stOf d).isSome = true ∧ wdB sg c 1 12 = true then some ((stOf b).getD 0, c, (stOf d).getD 0) else none
  | _ => none
/-- the first line that is no arc's, or one too many -/
def badL (sg : List Nat) : List (List Nat) → Nat → Option Nat
  | [], _ => none
  | l :: r, k => if (arcOf sg l).isSome = true ∧ k ≠ 200 then badL sg r (k + 1) else some k
def dueL (ls : List (List Nat)) : Option Nat := match ls.dropLast with
  | [] => some 1
  | h :: r => match sgOf h with
    | none => some 1
    | some sg => match badL sg r 0 with
      | some k => some (k + 2)
      | none => if ls.getLast? = some [] ∧ r ≠ [] then none else some ls.length
theorem sgB_iff (b : List Nat) : sgB b = true ↔ Signs b := by
  have key : (b.zip (b.drop 1)).all ascB = true ↔ b.Pairwise (· < ·) := by
    induction b with
    | nil => simp
    | cons x r ih =>
      cases r with
      | nil => simp
      | cons y t =>
        have e : ((x :: y :: t).zip ((x :: y :: t).drop 1)) = (x, y) :: ((y :: t).zip ((y :: t).drop 1)) := rfl
        rw [e, List.all_cons, Bool.and_eq_true, ih]
        constructor
        · rintro ⟨h1, h2⟩
          have hxy : x < y := of_decide_eq_true h1
          refine List.Pairwise.cons (fun z hz => ?_) h2
          rcases List.mem_cons.mp hz with rfl | hz
          · exact hxy
          · exact Nat.lt_trans hxy ((List.pairwise_cons.mp h2).1 z hz)
        · intro h
          obtain ⟨h1, h2⟩ := List.pairwise_cons.mp h
          exact ⟨decide_eq_true (h1 y (by simp)), h2⟩
  unfold sgB Signs
  rw [Bool.and_eq_true, Bool.and_eq_true, Bool.and_eq_true, key, decide_eq_true_eq, decide_eq_true_eq, List.all_eq_true]
  refine and_congr_right fun _ => and_congr_right fun _ => and_congr_left fun _ => forall_congr' fun c => imp_congr_right fun _ => ?_
  unfold lowB
  rw [Bool.and_eq_true, decide_eq_true_eq, decide_eq_true_eq]
theorem wdB_iff (sg u : List Nat) : wdB sg u 1 12 = true ↔ Word sg u := by
  unfold wdB Word
  rw [Bool.and_eq_true, Bool.and_eq_true, decide_eq_true_eq, decide_eq_true_eq, List.all_eq_true]
  constructor
  · rintro ⟨h1, h2, h3⟩
    exact ⟨by omega, by omega, fun c hc => of_decide_eq_true (h3 c hc)⟩
  · rintro ⟨h1, h2, h3⟩
    exact ⟨by omega, by omega, fun c hc => decide_eq_true (h3 c hc)⟩
theorem sgOf_some {line sg : List Nat} (h : sgOf line = some sg) : line = sgl sg ∧ Signs sg := by
  have j := join_spl 32 (by decide) line
  unfold sgOf partsOf at h
  split at h
  · rename_i a b e
    split at h
    · rename_i z
      cases h
      rw [e] at j
      refine ⟨?_, (sgB_iff _).mp z.2⟩
      rw [← j, z.1]
      rfl
    · cases h
  · cases h
theorem arcOf_some {sg line : List Nat} {a : Arc} (h : arcOf sg line = some a) : line = arl a ∧ OkArc sg a := by
  have j := join_spl 32 (by decide) line
  unfold arcOf partsOf at h
  split at h
  · rename_i x b c d e
    split at h
    · rename_i z
      obtain ⟨z1, z2, z3, z4⟩ := z
      cases h
      obtain ⟨m, hm⟩ := Option.isSome_iff_exists.mp z2
      obtain ⟨n, hn⟩ := Option.isSome_iff_exists.mp z3
      obtain ⟨m1, m2⟩ := stOf_some hm
      obtain ⟨n1, n2⟩ := stOf_some hn
      rw [e] at j
      refine ⟨?_, ?_, (wdB_iff _ _).mp z4, ?_⟩
      · rw [← j, z1, hm, hn]
        show _ = TL.joinL [32] [[97, 114, 99], nt m, c, nt n]
        rw [m2, n2]
      · rw [hm]; show m ≤ 63; omega
      · rw [hn]; show n ≤ 63; omega
    · cases h
  · cases h
theorem badL_none {sg : List Nat} : ∀ {r : List (List Nat)} {k : Nat}, badL sg r k = none → k ≤ 200 → (∀ l ∈ r, (arcOf sg l).isSome = true) ∧ r.length + k ≤ 200
  | [], k, _, hk => ⟨fun l hl => (nomatch hl), by simpa using hk⟩
  | l :: r, k, h, hk => by
    unfold badL at h
    split at h
    · rename_i z
      obtain ⟨h1, h2⟩ := badL_none h (by omega)
      refine ⟨fun m hm => ?_, by simp; omega⟩
      rcases List.mem_cons.mp hm with rfl | hm
      · exact z.1
      · exact h1 m hm
    · cases h
/-- what a page that is none the worse for it tells, and that it is the page of that -/
theorem due_none {l : List Nat} (h : dueL (linesOf l) = none) : ∃ (sg : List Nat) (as : List Arc) (hd : List Nat) (r : List (List Nat)), (linesOf l).dropLast = hd :: r ∧ sgOf hd = some sg ∧ badL sg r 0 = none ∧ r.map (arcOf sg) = as.map some ∧ (linesOf l).getLast? = some [] ∧ r ≠ [] ∧ Signs sg ∧ OkW sg as ∧ l = page sg as := by
  unfold dueL at h
  split at h
  · cases h
  · rename_i hd r e
    split at h
    · cases h
    · rename_i sg es
      split at h
      · cases h
      · rename_i eb
        split at h
        · rename_i z
          obtain ⟨b1, b2⟩ := badL_none eb (by decide)
          obtain ⟨hs1, hs2⟩ := sgOf_some es
          have all : ∀ r : List (List Nat), (∀ l ∈ r, (arcOf sg l).isSome = true) → ∃ as : List Arc, r.map (arcOf sg) = as.map some ∧ r = as.map arl ∧ as.length = r.length ∧ ∀ a ∈ as, OkArc sg a := by
            intro r
            induction r with
            | nil => exact fun _ => ⟨[], rfl, rfl, rfl, fun a ha => (nomatch ha)⟩
            | cons m t ih =>
              intro hm
              obtain ⟨a, ha⟩ := Option.isSome_iff_exists.mp (hm m (by simp))
              obtain ⟨as, h1, h2, h3, h4⟩ := ih fun l hl => hm l (by simp [hl])
              obtain ⟨g1, g2⟩ := arcOf_some ha
              refine ⟨a :: as, by simp [ha, h1], by simp [← g1, ← h2], by simp [h3], fun b hb => ?_⟩
              rcases List.mem_cons.mp hb with rfl | hb
              · exact g2
              · exact h4 b hb
          obtain ⟨as, a1, a2, a3, a4⟩ := all r b1
          have rl : 1 ≤ r.length := by
            cases r with
            | nil => exact absurd rfl z.2
            | cons _ _ => simp
          refine ⟨sg, as, hd, r, e, es, eb, a1, z.1, z.2, hs2, ⟨by omega, by omega, a4⟩, ?_⟩
          have j := join_spl 10 (by decide) l
          have ne : linesOf l ≠ [] := by
            intro q
            rw [q] at e
            cases e
          have sp : linesOf l = lns sg as ++ [[]] := by
            have q1 := List.dropLast_concat_getLast ne
            have q2 : (linesOf l).getLast ne = [] := by
              have := List.getLast?_eq_some_getLast ne
              rw [this] at z
              exact Option.some.inj z.1
            rw [← q1, e, q2, hs1, a2]
            rfl
          rw [← j]
          show TL.joinL [10] (linesOf l) = _
          rw [sp, join_nl]
          rfl
        · cases h
end J


set_option Elab.async false
set_option linter.all false
set_option maxRecDepth 100000
set_option maxHeartbeats 4000000
namespace J
open PySem L2
theorem sgOf_ne {l : List Nat} (h : (partsOf l).length ≠ 2) : sgOf l = none := by
  unfold sgOf
  split
  · rename_i a b e
    rw [e] at h
    exact absurd rfl h
  · rfl
theorem sgOf_two {l a b : List Nat} (e : partsOf l = [a, b]) : sgOf l = if a = [115, 105, 103, 110, 115] ∧ sgB b = true then some b else none := by
  unfold sgOf
  rw [e]
theorem arcOf_ne {sg l : List Nat} (h : (partsOf l).length ≠ 4) : arcOf sg l = none := by
  unfold arcOf
  split
  · rename_i a b c d e
    rw [e] at h
    exact absurd rfl h
  · rfl
theorem arcOf_four {sg l a b c d : List Nat} (e : partsOf l = [a, b, c, d]) : arcOf sg l = if a = [97, 114, 99] ∧ (stOf b).isSome = true ∧ (stOf d).isSome = true ∧ wdB sg c 1 12 = true then some ((stOf b).getD 0, c, (stOf d).getD 0) else none := by
  unfold arcOf
  rw [e]
theorem two_of {α : Type} {l : List α} (h : l.length = 2) : ∃ a b, l = [a, b] := by
  match l, h with
  | [a, b], _ => exact ⟨a, b, rfl⟩
theorem four_of {α : Type} {l : List α} (h : l.length = 4) : ∃ a b c d, l = [a, b, c, d] := by
  match l, h with
  | [a, b, c, d], _ => exact ⟨a, b, c, d, rfl⟩
theorem spl_len1 (c : Nat) : ∀ (l acc : List Nat), (TL.spl [c] 0 acc l).length ≤ l.length + 1 ∧ ∀ u ∈ TL.spl [c] 0 acc l, u.length ≤ acc.length + l.length
  | [], acc => by
    rw [TL.spl_nil]
    exact ⟨by simp, fun u hu => by rw [List.mem_singleton.mp hu]; simp⟩
  | a :: r, acc => by
    have e : TL.spl [c] 0 acc (a :: r) = if TL.pre [c] (a :: r) = true then acc :: TL.spl [c] 0 [] r else TL.spl [c] 0 (acc ++ [a]) r := rfl
    rw [e]
    split
    · obtain ⟨h1, h2⟩ := spl_len1 c r []
      refine ⟨by simp; omega, fun u hu => ?_⟩
      rcases List.mem_cons.mp hu with rfl | hu
      · simp
      · have := h2 u hu
        simp at this ⊢
        omega
    · obtain ⟨h1, h2⟩ := spl_len1 c r (acc ++ [a])
      refine ⟨by simp; omega, fun u hu => ?_⟩
      have := h2 u hu
      simp at this ⊢
      omega
theorem part_len {l u : List Nat} (h : u ∈ partsOf l) : u.length ≤ l.length := by
  have := (spl_len1 32 l []).2 u h
  simpa using this
theorem line_len {l u : List Nat} (h : u ∈ linesOf l) : u.length ≤ l.length := by
  have := (spl_len1 10 l []).2 u h
  simpa using this
theorem lines_len (l : List Nat) : (linesOf l).length ≤ l.length + 1 := (spl_len1 10 l []).1
def oS : Option (List Nat) → V
  | none => .non
  | some sg => .str (SX.S sg)
def spSignsInX : Sp := fun vs H Q _ => ∃ l : List Nat, vs = [.str (SX.S l)] ∧ l.length ≤ 2000000 ∧ ∀ H', Same H H' → Q (oS (sgOf l)) H'
def spArcInX : Sp := fun vs H Q _ => ∃ sg l : List Nat, vs = [.str (SX.S sg), .str (SX.S l)] ∧ l.length ≤ 2000000 ∧
  (arcOf sg l = none → ∀ H', Same H H' → Q .non H') ∧ (∀ a, arcOf sg l = some a → ∀ H' (t : Addr), Same H H' → H t = none → H' t = some (arcHO a) → Q (.ref t) H')
def spReadX (K : PySem.W.Frag) (C CP : Addr) : Sp := fun vs H Q E => ∃ x : V, vs = [x] ∧ ((∃ l : List Nat, x = .str (SX.S l) ∧ l.length ≤ 2000000 ∧
  ((dueL (linesOf l) = none ∧ ∀ sg as H' (q : Addr) us, l = page sg as → Signs sg → OkW sg as → Same H H' → H q = none → LoomAt C H' q sg us as → Q (.ref q) H') ∨
   (∃ n : Nat, dueL (linesOf l) = some n ∧ ∀ H' e, Same H H' → H' e = some (.xd (fs_InvalidPage (.int (n : Int)))) → E (.ref CP) (some e) H'))) ∨
  (∃ t, TyZ K H x t ∧ PySem.W.kitOne K t (.type "str") = some false ∧ ∀ H' e, Same H H' → H' e = some (.xd (fs_InvalidPage (.int 0))) → E (.ref CP) (some e) H'))
section
variable {P : Program} {w : World} {K : PySem.W.Frag} {mg : Str → Option Value} {base : Heap}
theorem ok_signs_inX (T : Tx K mg) : FnOk P w K mg base CX0 2 T.f_signs_in T.fd_signs_in P_signs_in spSignsInX := by
  have G_is_signs : FnOk P w K mg base CX0 1 T.f_is_signs T.fd_is_signs P_is_signs (spSgX K) := ok_is_signsX T
  refine T.F_signs_in.ok sc_signs_in (fun vs H Q E h => ?_) (fun cdv A outer s H vs Q E hr h => ?_)
  · obtain ⟨l, rfl, _⟩ := h
    rfl
  · obtain ⟨l, rfl, hl, k⟩ := h
    refine ⟨_, (pss_cons (ps_set (i := 1) sc_signs_in.nd rfl (Or.inl rfl) (pe_bm PySem.F.plainAttrs_str PySem.F.slot_str_split PySem.F.type_str_split mt_split (pv 0) (pa_cons pe_str pa_nil)))
        (pss_one (ps_ret (pe_ifExp (PW.pt (pw_and (pt_cmpR op_eq (pe_callB (call_len_seqK (K := K) rfl) rfl T.n_len (by decide +kernel) (pa_cons (pv 1) pa_nil)) pe_int (nomark _)) (pw_and (pt_cmpR op_eq (pe_ix (ix_listK (K := K) rfl) (pv 1) pe_int (fun _ _ => rfl)) pe_str (nomark _)) (pw_and1 (pt_val (pe_call G_is_signs (hr.mono (by decide)) rfl T.m_is_signs T.F_is_signs.kp T.b_is_signs .nil pass0 (pa_cons (pe_ix (ix_listK (K := K) rfl) (pv 1) pe_int (fun _ _ => rfl)) pa_nil))))))) (pe_ix (ix_listK (K := K) rfl) (pv 1) pe_int (fun _ _ => rfl)) pe_non)))), ?_⟩
    refine ⟨_, rfl, rfl, _, _, rfl, rfl, rfl, le_sizeM (by rw [SX.S_len]; omega), fun q hq => ?_⟩
    have e0 : Txt.split (SX.S l) (Str.ofString " ") = (partsOf l).map SX.S := split_at (c := 32) (by decide)
    rw [e0, ← ltx_str]
    have sm : Same H (upd H q (.lst (ltx (partsOf l)))) := Same.new _ hq
    have gq : upd H q (.lst (ltx (partsOf l))) q = some (.lst (ltx (partsOf l))) := upd_same
    generalize upd H q (.lst (ltx (partsOf l))) = H1 at *
    by_cases h2 : (partsOf l).length = 2
    · obtain ⟨a, b, e⟩ := two_of h2
      have hb := part_len (l := l) (u := b) (by rw [e]; simp)
      rw [sgOf_two e] at k
      rw [e] at gq
      refine ⟨_, rfl, q, _, rfl, .inl (SqL.of gq), rfl, true, rfl, ?_⟩
      refine ⟨_, rfl, q, _, _, _, rfl, rfl, SqL.of gq, rfl, rfl, _, rfl, ?_⟩
      refine ite2 (fun c => ?_) (fun c => ?_)
      · have c1 : a = [115, 105, 103, 110, 115] := by
          have z := of_decide_eq_true c
          injection z with z
          exact SX.S_inj z
        refine ⟨_, rfl, q, _, _, _, rfl, rfl, SqL.of gq, rfl, _, _, rfl, .str b (by omega), fun H2 s2 => ⟨_, rfl, ?_⟩⟩
        show if sgB b = true then _ else _
        refine ite2 (fun c2 => ?_) (fun c2 => ?_)
        · have z := k H2 (sm.trans s2)
          rw [if_pos ⟨c1, c2⟩] at z
          exact ⟨_, rfl, q, _, _, _, rfl, rfl, SqL.of (s2 _ _ gq), rfl, z⟩
        · have z := k H2 (sm.trans s2)
          rw [if_neg (fun y => c2 y.2)] at z
          exact z
      · have z := k H1 sm
        rw [if_neg (fun y => c (decide_eq_true (by rw [y.1]; rfl)))] at z
        exact z
    · have z := k H1 sm
      rw [sgOf_ne h2] at z
      refine ⟨_, rfl, q, _, rfl, .inl (SqL.of gq), rfl, false, congrArg V.bl (decide_eq_false (fun y => h2 ?_)), z⟩
      injection y with y
      rw [ltx_len] at y
      omega
theorem ok_arc_inX (T : Tx K mg) : FnOk P w K mg base CX0 3 T.f_arc_in T.fd_arc_in P_arc_in spArcInX := by
  have G_is_word : FnOk P w K mg base CX0 2 T.f_is_word T.fd_is_word P_is_word (spWordX K) := ok_is_wordX T
  have G_numbers_up_to : FnOk P w K mg base CX0 1 T.f_numbers_up_to T.fd_numbers_up_to P_numbers_up_to spNums := ok_numbers_up_to T
  refine T.F_arc_in.ok sc_arc_in (fun vs H Q E h => ?_) (fun cdv A outer s H vs Q E hr h => ?_)
  · obtain ⟨sg, l, rfl, _⟩ := h
    rfl
  · obtain ⟨sg, l, rfl, hl, kn, ka⟩ := h
    refine ⟨_, (pss_cons (ps_set (i := 2) sc_arc_in.nd rfl (Or.inl rfl) (pe_bm PySem.F.plainAttrs_str PySem.F.slot_str_split PySem.F.type_str_split mt_split (pv 1) (pa_cons pe_str pa_nil)))
        (pss_cons (ps_set (i := 3) sc_arc_in.nd rfl (Or.inl rfl) (pe_call G_numbers_up_to (hr.mono (by decide)) rfl T.m_numbers_up_to T.F_numbers_up_to.kp T.b_numbers_up_to .nil pass0 (pa_cons (pe_glob (v := V.int 63) rfl T.g_LAST_STATE ⟨_, rfl⟩) pa_nil)))
        (pss_cons (ps_if (PW.pt (pw_or (pt_cmpR op_ne (pe_callB (call_len_seqK (K := K) rfl) rfl T.n_len (by decide +kernel) (pa_cons (pv 2) pa_nil)) pe_int (nomark _)) (pw_or (pt_cmpR op_ne (pe_ix (ix_listK (K := K) rfl) (pv 2) pe_int (fun _ _ => rfl)) pe_str (nomark _)) (pw_or (pt_cmp (pc_dnotin (hu_of hr) (pe_ix (ix_listK (K := K) rfl) (pv 2) pe_int (fun _ _ => rfl)) (pv 3))) (pw_or1 (pt_cmp (pc_dnotin (hu_of hr) (pe_ix (ix_listK (K := K) rfl) (pv 2) pe_int (fun _ _ => rfl)) (pv 3)))))))) (pss_one (ps_ret pe_non)) pss_nil)
        (pss_one (ps_ret (pe_ifExp (pt_val (pe_call G_is_word (hr.mono (by decide)) rfl T.m_is_word T.F_is_word.kp T.b_is_word .nil pass0 (pa_cons (pv 0) (pa_cons (pe_ix (ix_listK (K := K) rfl) (pv 2) pe_int (fun _ _ => rfl)) pa_nil)))) (pe_tup (pa_cons (pe_dget (hu_of hr) (pv 3) (pe_ix (ix_listK (K := K) rfl) (pv 2) pe_int (fun _ _ => rfl)) (fun _ _ => rfl)) (pa_cons (pe_ix (ix_listK (K := K) rfl) (pv 2) pe_int (fun _ _ => rfl)) (pa_cons (pe_dget (hu_of hr) (pv 3) (pe_ix (ix_listK (K := K) rfl) (pv 2) pe_int (fun _ _ => rfl)) (fun _ _ => rfl)) pa_nil)))) pe_non)))))), ?_⟩
    refine ⟨_, rfl, rfl, _, _, rfl, rfl, rfl, le_sizeM (by rw [SX.S_len]; omega), fun q hq => ?_⟩
    have e0 : Txt.split (SX.S l) (Str.ofString " ") = (partsOf l).map SX.S := split_at (c := 32) (by decide)
    rw [e0, ← ltx_str]
    have sm : Same H (upd H q (.lst (ltx (partsOf l)))) := Same.new _ hq
    have gq : upd H q (.lst (ltx (partsOf l))) q = some (.lst (ltx (partsOf l))) := upd_same
    generalize upd H q (.lst (ltx (partsOf l))) = H1 at *
    refine ⟨63, rfl, by decide, fun H2 d s2 d0 hd => ?_⟩
    replace gq := s2 _ _ gq
    have s02 := sm.trans s2
    by_cases h4 : (partsOf l).length = 4
    case neg =>
      refine ⟨_, rfl, q, _, rfl, .inl (SqL.of gq), rfl, true, congrArg V.bl (dne_t (fun y => h4 ?_)), iteT (kn (arcOf_ne h4) H2 s02)⟩
      injection y with y
      rw [ltx_len] at y
      omega
    obtain ⟨a, b, c, d', e⟩ := four_of h4
    rw [arcOf_four e] at kn ka
    have hc := part_len (l := l) (u := c) (by rw [e]; simp)
    rw [e] at gq
    have dg : ∀ {H' : Hp} (u : List Nat), Same H2 H' → DGet H' d (.str (SX.S u)) ((stOf u).map fun n : Nat => V.int (n : Int)) := fun u sm => .inl ⟨_, .inr (SX.S u), .inl (sm _ _ hd), rfl, (nd_val u).symm⟩
    have r0 : Same H2 H2 := fun _ _ x => x
    refine ⟨_, rfl, q, _, rfl, .inl (SqL.of gq), rfl, false, rfl, ?_⟩
    by_cases ha : a = [97, 114, 99]
    case neg =>
      refine ⟨_, rfl, q, _, _, _, rfl, rfl, SqL.of gq, rfl, rfl, true, congrArg V.bl (dne_t (fun y => ha ?_)), iteT (kn (if_neg (fun z => ha z.1)) H2 s02)⟩
      injection y with y
      exact SX.S_inj y
    refine ⟨_, rfl, q, _, _, _, rfl, rfl, SqL.of gq, rfl, rfl, false, congrArg V.bl (dne (by rw [ha]; rfl)), ?_⟩
    cases eb : stOf b with
    | none =>
      have g := dg b r0
      rw [eb] at g
      exact ⟨_, rfl, q, _, _, _, rfl, rfl, SqL.of gq, rfl, _, rfl, d, _, rfl, g, true, rfl, iteT (kn (if_neg (fun z => by have := z.2.1; rw [eb] at this; cases this)) H2 s02)⟩
    | some m =>
      have g := dg b r0
      rw [eb] at g
      refine ⟨_, rfl, q, _, _, _, rfl, rfl, SqL.of gq, rfl, _, rfl, d, _, rfl, g, false, rfl, ?_⟩
      cases ed : stOf d' with
      | none =>
        have g2 := dg d' r0
        rw [ed] at g2
        exact ⟨_, rfl, q, _, _, _, rfl, rfl, SqL.of gq, rfl, _, rfl, d, _, rfl, g2, true, rfl, iteT (kn (if_neg (fun z => by have := z.2.2.1; rw [ed] at this; cases this)) H2 s02)⟩
      | some n =>
        have g2 := dg d' r0
        rw [ed] at g2
        refine ⟨_, rfl, q, _, _, _, rfl, rfl, SqL.of gq, rfl, _, rfl, d, _, rfl, g2, false, rfl, iteF ?_⟩
        refine ⟨_, rfl, _, rfl, q, _, _, _, rfl, rfl, SqL.of gq, rfl, sg, _, _, rfl, .str c (by omega), fun H3 s3 => ⟨_, rfl, ?_⟩⟩
        show if wdB sg c 1 12 = true then _ else _
        refine ite2 (fun cw => ?_) (fun cw => ?_)
        · have gq3 := s3 _ _ gq
          have g1 := dg b s3
          have g2 := dg d' s3
          rw [eb] at g1
          rw [ed] at g2
          refine ⟨_, rfl, _, rfl, q, _, _, _, rfl, rfl, SqL.of gq3, rfl, d, _, rfl, g1, ?_⟩
          refine ⟨_, rfl, q, _, _, _, rfl, rfl, SqL.of gq3, rfl, ?_⟩
          refine ⟨_, rfl, _, rfl, q, _, _, _, rfl, rfl, SqL.of gq3, rfl, d, _, rfl, g2, le_size (by simp), fun t ht => ?_⟩
          refine ka (m, c, n) ?_ _ t ((s02.trans s3).trans (Same.new _ ht)) ((s02.trans s3).free ht) upd_same
          rw [if_pos ⟨ha, by rw [eb]; rfl, by rw [ed]; rfl, cw⟩, eb, ed]
          rfl
        · exact kn (if_neg (fun z => cw z.2.2.2)) H3 (s02.trans s3)
end
end J


set_option Elab.async false
set_option linter.all false
set_option maxRecDepth 100000
set_option maxHeartbeats 4000000
namespace J
open PySem L2
theorem map_some_inj {α : Type} : ∀ {a b : List α}, a.map some = b.map some → a = b
  | [], [], _ => rfl
  | [], _ :: _, h => by cases h
  | _ :: _, [], h => by cases h
  | x :: r, y :: t, h => by
    simp only [List.map_cons, List.cons.injEq, Option.some.injEq] at h
    rw [h.1, map_some_inj h.2]
theorem lines_ne (l : List Nat) : linesOf l ≠ [] := by
  have h : ∀ (l acc : List Nat), TL.spl [10] 0 acc l ≠ [] := by
    intro l
    induction l with
    | nil => intro acc; rw [TL.spl_nil]; simp
    | cons a r ih =>
      intro acc
      have e : TL.spl [10] 0 acc (a :: r) = if TL.pre [10] (a :: r) = true then acc :: TL.spl [10] 0 [] r else TL.spl [10] 0 (acc ++ [a]) r := rfl
      rw [e]
      split
      · simp
      · exact ih _
  exact h l []
theorem badL_drop {sg : List Nat} {r : List (List Nat)} {i : Nat} {m : List Nat} (h : r[i]? = some m) : badL sg (r.drop i) i = if (arcOf sg m).isSome = true ∧ i ≠ 200 then badL sg (r.drop (i + 1)) (i + 1) else some i := by
  have hi := (List.getElem?_eq_some_iff.mp h).1
  have e : r.drop i = m :: r.drop (i + 1) := by
    rw [List.drop_eq_getElem_cons hi]
    congr 1
    exact Option.some.inj ((List.getElem?_eq_getElem hi).symm.trans h)
  rw [e]
  rfl
section
variable {P : Program} {w : World} {K : PySem.W.Frag} {mg : Str → Option Value} {base : Heap}
theorem ok_read_loomX (T : Tx K mg) : FnOk P w K mg base (L2.CX P w) 6 T.f_read_loom T.fd_read_loom P_read_loom (spReadX K T.C_Loom T.C_InvalidPage) := by
  have G_signs_in : FnOk P w K mg base CX0 2 T.f_signs_in T.fd_signs_in P_signs_in spSignsInX := ok_signs_inX T
  have G_arc_in : FnOk P w K mg base CX0 3 T.f_arc_in T.fd_arc_in P_arc_in spArcInX := ok_arc_inX T
  have G_Loom_init : FnOk P w K mg base CX0 4 T.f_Loom_init T.fd_Loom_init P_Loom_init (spInit T.C_Loom) := ok_Loom_init T
  refine T.F_read_loom.okX sc_read_loom (fun vs H Q E h => ?_) (fun cdv A outer s H vs Q E hr h => ?_)
  · obtain ⟨x, rfl, _⟩ := h
    rfl
  · obtain ⟨x, rfl, h⟩ := h
    refine ⟨_, (pss_cons (ps_if (pt_not (pt_val (pe_callB (call_isiZ (K := K) rfl) rfl T.n_isinstance (by decide +kernel) (pa_cons (pv 0) (pa_cons (pe_bltn (v := V.ty "str") (u := .type "str") rfl T.n_str (by decide +kernel) rfl) pa_nil))))) (pss_one (ps_raise rfl (takes_of rfl rfl rfl rfl) (pmk_InvalidPage (k := 3) T.X_InvalidPage (hr.mono (by decide)) (pa_cons pe_int pa_nil)))) pss_nil)
        (pss_cons (ps_set (i := 1) sc_read_loom.nd rfl (Or.inl rfl) (pe_bm PySem.F.plainAttrs_str PySem.F.slot_str_split PySem.F.type_str_split mt_split (pv 0) (pa_cons pe_str pa_nil)))
        (pss_cons (ps_set (i := 2) sc_read_loom.nd rfl (Or.inl rfl) (pe_bm0 PySem.F.plainAttrs_list PySem.F.slot_list_pop PySem.F.type_list_pop mt_pop (pv 1)))
        (pss_cons (ps_set (i := 3) sc_read_loom.nd rfl (Or.inl rfl) (pe_ifExp (pt_truth (pv 1) (by intro _; rfl)) (pe_call G_signs_in (hr.mono (by decide)) rfl T.m_signs_in T.F_signs_in.kp T.b_signs_in .nil pass0 (pa_cons (pe_ix (ix_listK (K := K) rfl) (pv 1) pe_int (fun _ _ => rfl)) pa_nil)) pe_non))
        (pss_cons (ps_if (pt_cmpR op_isN (pv 3) pe_non (nomark _)) (pss_one (ps_raise rfl (takes_of rfl rfl rfl rfl) (pmk_InvalidPage (k := 3) T.X_InvalidPage (hr.mono (by decide)) (pa_cons pe_int pa_nil)))) pss_nil)
        (pss_cons (ps_set (i := 4) sc_read_loom.nd rfl (Or.inl rfl) (pe_lst pa_nil))
        (pss_cons (ps_for (passes_of rfl) rfl (pi_enum rfl T.n_enumerate (pa_cons (pe_slice (sl_listK (K := K) rfl) (pv 1) (po_some pe_int) po_none) pa_nil)) (pg_tup rfl (pgs_cons (pg_name (i := 5) sc_read_loom.nd rfl (Or.inl rfl)) (pgs_cons (pg_name (i := 6) sc_read_loom.nd rfl (Or.inl rfl)) pgs_nil))) (pss_cons (ps_set (i := 7) sc_read_loom.nd rfl (Or.inl rfl) (pe_call G_arc_in (hr.mono (by decide)) rfl T.m_arc_in T.F_arc_in.kp T.b_arc_in .nil pass0 (pa_cons (pv 3) (pa_cons (pv 6) pa_nil))))
        (pss_cons (ps_if (PW.pt (pw_or (pt_cmpR op_isN (pv 7) pe_non (nomark _)) (pw_or1 (pt_cmpR op_eq (pv 5) (pe_glob (v := V.int 200) rfl T.g_MOST_ARCS ⟨_, rfl⟩) (nomark _))))) (pss_one (ps_raise rfl (takes_of rfl rfl rfl rfl) (pmk_InvalidPage (k := 3) T.X_InvalidPage (hr.mono (by decide)) (pa_cons (pe_op op_add (pv 5) pe_int) pa_nil)))) pss_nil)
        (pss_one (ps_expr (pe_bm PySem.F.plainAttrs_list PySem.F.slot_list_append PySem.F.type_list_append mt_append (pv 4) (pa_cons (pv 7) pa_nil)))))))
        (pss_cons (ps_if (PW.pt (pw_or (pt_cmpR op_ne (pv 2) pe_str (nomark _)) (pw_or1 (pt_cmpR op_eq (pe_callB (call_len_seqK (K := K) rfl) rfl T.n_len (by decide +kernel) (pa_cons (pv 4) pa_nil)) pe_int (nomark _))))) (pss_one (ps_raise rfl (takes_of rfl rfl rfl rfl) (pmk_InvalidPage (k := 3) T.X_InvalidPage (hr.mono (by decide)) (pa_cons (pe_op op_add (pe_callB (call_len_seqK (K := K) rfl) rfl T.n_len (by decide +kernel) (pa_cons (pv 1) pa_nil)) pe_int) pa_nil)))) pss_nil)
        (pss_one (ps_ret (pe_make T.M_Loom G_Loom_init (hr.mono (by decide)) rfl T.g_Loom T.b_Loom_init .nil pass0 (pa_cons (pv 3) (pa_cons (pv 4) pa_nil))))))))))))), ?_⟩
    rcases h with ⟨l, rfl, hl, h⟩ | ⟨t, ht, hk, k⟩
    case inr =>
      refine ⟨_, rfl, _, _, _, _, false, rfl, .ty "str", ht, hk, false, rfl, iteT ?_⟩
      refine ⟨_, rfl, fun e he => ?_⟩
      exact k _ e (Same.new _ he) upd_same
    refine ⟨_, rfl, _, _, _, _, true, rfl, .ty "str", .x (.base (.str _)), kit_ty (by decide +kernel), true, rfl, iteF ?_⟩
    refine ⟨_, rfl, rfl, _, _, rfl, rfl, rfl, le_sizeM (by rw [SX.S_len]; omega), fun q hq => ?_⟩
    have e0 : Txt.split (SX.S l) (Str.ofString "\n") = (linesOf l).map SX.S := split_at (c := 10) (by decide)
    rw [e0, ← ltx_str]
    have hln := lines_len l
    have hne := lines_ne l
    have hlm : ∀ u ∈ linesOf l, u.length ≤ l.length := fun u hu => line_len hu
    have hdn : dueL (linesOf l) = none → ∃ (sg : List Nat) (as : List Arc) (hd : List Nat) (r : List (List Nat)), (linesOf l).dropLast = hd :: r ∧ sgOf hd = some sg ∧ badL sg r 0 = none ∧ r.map (arcOf sg) = as.map some ∧ (linesOf l).getLast? = some [] ∧ r ≠ [] ∧ Signs sg ∧ OkW sg as ∧ l = page sg as := due_none
    have err : ∀ n : Nat, dueL (linesOf l) = some n → ∀ H' e, Same H H' → H' e = some (.xd (fs_InvalidPage (.int (n : Int)))) → E (.ref T.C_InvalidPage) (some e) H' := fun n hn => by
      rcases h with ⟨z, _⟩ | ⟨m, hm, k⟩
      · rw [z] at hn; cases hn
      · rw [hm] at hn; cases hn; exact k
    have fine : dueL (linesOf l) = none → ∀ sg as H' (q : Addr) us, l = page sg as → Signs sg → OkW sg as → Same H H' → H q = none → LoomAt T.C_Loom H' q sg us as → Q (.ref q) H' := fun hn => by
      rcases h with ⟨_, k⟩ | ⟨m, hm, _⟩
      · exact k
      · rw [hm] at hn; cases hn
    clear h e0
    generalize linesOf l = ls at *
    obtain ⟨ini, u, rfl⟩ : ∃ ini u, ls = ini ++ [u] := ⟨ls.dropLast, ls.getLast hne, (List.dropLast_concat_getLast hne).symm⟩
    rw [List.dropLast_concat, List.getLast?_concat] at hdn
    have edu : dueL (ini ++ [u]) = match ini with
        | [] => some 1
        | h :: r => match sgOf h with
          | none => some 1
          | some sg => match badL sg r 0 with
            | some k => some (k + 2)
            | none => if u = [] ∧ r ≠ [] then none else some (ini.length + 1) := by
      unfold dueL
      rw [List.dropLast_concat, List.getLast?_concat]
      cases ini with
      | nil => rfl
      | cons h r =>
        dsimp only
        cases sgOf h with
        | none => rfl
        | some sg =>
          dsimp only
          cases badL sg r 0 with
          | some k => rfl
          | none => simp
    rw [List.length_append] at hln
    refine ⟨_, rfl, .inl ⟨rfl, _, SqL.of upd_same⟩, q, _, .str (SX.S u), rfl, rfl, upd_same, ?_, ?_⟩
    · rw [ltx_len, ltx, List.getElem?_map, List.length_append]
      simp
    have e1 : (ltx (ini ++ [u])).dropLast = ltx ini := by
      rw [ltx, List.map_append, List.map_cons, List.map_nil, List.dropLast_concat]
      rfl
    rw [e1]
    have sm : Same H (upd (upd H q (.lst (ltx (ini ++ [u])))) q (.lst (ltx ini))) := (Same.new _ hq).updNew hq
    have gq : upd (upd H q (.lst (ltx (ini ++ [u])))) q (.lst (ltx ini)) q = some (.lst (ltx ini)) := upd_same
    generalize upd (upd H q (.lst (ltx (ini ++ [u])))) q (.lst (ltx ini)) = H1 at *
    refine ⟨_, rfl, _, .inl ⟨_, SqL.of gq, rfl⟩, ?_⟩
    cases ini with
    | nil =>
      show _
      refine ⟨_, rfl, rfl, true, congrArg V.bl (decide_eq_true rfl), iteT ?_⟩
      refine ⟨_, rfl, fun e he => ?_⟩
      exact err 1 edu _ e (sm.trans (Same.new _ he)) upd_same
    | cons hd r =>
      dsimp only at edu
      have hhd : hd.length ≤ 2000000 := by have := hlm hd (by simp); omega
      have g0 : atI (ltx (hd :: r)) 0 = some (.str (SX.S hd)) := atI_nat (xs := ltx (hd :: r)) (j := 0) rfl
      refine ⟨_, rfl, q, _, _, _, rfl, rfl, SqL.of gq, g0, hd, rfl, hhd, fun H2 s2 => ?_⟩
      have gq2 := s2 _ _ gq
      have s12 := sm.trans s2
      cases esg : sgOf hd with
      | none =>
        rw [esg] at edu
        refine ⟨_, rfl, rfl, true, congrArg V.bl (decide_eq_true rfl), iteT ?_⟩
        refine ⟨_, rfl, fun e he => ?_⟩
        exact err 1 edu _ e (s12.trans (Same.new _ he)) upd_same
      | some sg =>
        rw [esg] at edu
        dsimp only at edu
        refine ⟨_, rfl, rfl, false, congrArg V.bl (decide_eq_false (fun z => nomatch z)), iteF ?_⟩
        refine ⟨le_size (by simp), fun Ar hA => ?_⟩
        have s3 : Same H2 (upd H2 Ar (.lst [])) := Same.new _ hA
        have g3 : upd H2 Ar (.lst []) Ar = some (.lst []) := upd_same
        have hA0 : H Ar = none := s12.free hA
        generalize upd H2 Ar (.lst []) = H3 at *
        have sm3 : Same H H3 := s12.trans s3
        refine ⟨_, rfl, _, rfl, q, _, rfl, SqL.of (s3 _ _ gq2), fun q2 hq2 => ?_⟩
        have e2 : cutV (ltx (hd :: r)) (some 1) none = ltx r := cut_from _ 1
        rw [e2]
        have s4 : Same H3 (upd H3 q2 (.lst (ltx r))) := Same.new _ hq2
        have g4 : upd H3 q2 (.lst (ltx r)) q2 = some (.lst (ltx r)) := upd_same
        have nAq : q2 ≠ Ar := hp_ne g3 hq2
        have nAqq : q ≠ Ar := fun z => by rw [z, hA] at gq2; cases gq2
        replace g3 := s4 _ _ g3
        have gq4 := s4 _ _ (s3 _ _ gq2)
        generalize upd H3 q2 (.lst (ltx r)) = H4 at *
        have sm4 : Same H H4 := sm3.trans s4
        refine ⟨q2, _, rfl, SqL.of g4, for_it (walk_enum (xs := ltx r)) (fun i σ H' => ∃ (us : List V) (as : List Arc) (v5 v6 v7 : Option V), σ = [some (.str (SX.S l)), some (.ref q), some (.str (SX.S u)), some (.str (SX.S sg)), some (.ref Ar), v5, v6, v7] ∧ H' Ar = some (.lst us) ∧ Arcs H' us as ∧ (r.take i).map (arcOf sg) = as.map some ∧ badL sg r 0 = badL sg (r.drop i) i ∧ Same H H' ∧ H' q2 = some (.lst (ltx r)) ∧ H' q = some (.lst (ltx (hd :: r)))) ?_ ?_ ?_ ?_⟩
        · exact ⟨[], [], none, none, none, rfl, g3, Arcs.nil _, rfl, rfl, sm4, g4, gq4⟩
        · rintro i σ H' _ ⟨us, as, v5, v6, v7, rfl, _, _, _, _, _, gq', _⟩
          exact SqL.of gq'
        · rintro i x σ H5 H6 hi ⟨us, as, v5, v6, v7, rfl, gAr, harc, hma, hbd, sm5, gq5, gqq5⟩ ⟨tp, x1, y1, rfl, ht, rfl, hx1, hy1⟩
          cases hx1
          replace hy1 : (ltx r)[i]? = some y1 := hy1
          obtain ⟨m, hm, rfl⟩ := ltx_at hy1
          have hir := (List.getElem?_eq_some_iff.mp hm).1
          have hmm : m.length ≤ 2000000 := by have := hlm m (by simp [List.mem_of_getElem? hm]); omega
          have asl : as.length = i := by
            have := congrArg List.length hma
            rw [List.length_map, List.length_map, List.length_take] at this
            omega
          rw [badL_drop hm] at hbd
          have sn := Same.new (.tup [V.int (i : Int), .str (SX.S m)]) ht
          refine ⟨tp, _, rfl, SqT.of upd_same, rfl, _, _, rfl, _, _, rfl, rfl, ?_⟩
          generalize upd H5 tp (.tup [V.int (i : Int), .str (SX.S m)]) = H6 at *
          have stop : ¬ ((arcOf sg m).isSome = true ∧ i ≠ 200) → ∀ H' e, Same H H' → H' e = some (.xd (fs_InvalidPage (.int ((i : Int) + 2)))) → E (.ref T.C_InvalidPage) (some e) H' := fun hb H' e hs he => by
            rw [if_neg hb] at hbd
            rw [hbd] at edu
            exact err (i + 2) edu H' e hs (by rw [he]; rfl)
          refine ⟨_, rfl, _, rfl, sg, m, rfl, hmm, fun en H7 s7 => ?_, fun a ea H7 t s7 ht7 gt => ?_⟩
          · refine ⟨_, rfl, rfl, true, congrArg V.bl (decide_eq_true rfl), iteT ?_⟩
            refine ⟨_, rfl, _, _, rfl, rfl, _, rfl, fun e he => ?_⟩
            exact stop (fun z => by rw [en] at z; exact Bool.noConfusion z.1) _ e (((sm5.trans sn).trans s7).trans (Same.new _ he)) upd_same
          · have s57 : Same H5 H7 := sn.trans s7
            refine ⟨_, rfl, rfl, false, congrArg V.bl (decide_eq_false (fun z => nomatch z)), ?_⟩
            refine ⟨_, rfl, rfl, _, rfl, ?_⟩
            refine ite2 (fun c => ?_) (fun c => ?_)
            · have ci : i = 200 := by
                have z := of_decide_eq_true c
                injection z with z
                omega
              refine ⟨_, rfl, _, _, rfl, rfl, _, rfl, fun e he => ?_⟩
              exact stop (fun z => z.2 ci) _ e ((sm5.trans s57).trans (Same.new _ he)) upd_same
            · have ci : i ≠ 200 := fun z => c (decide_eq_true (by rw [z]; rfl))
              rw [if_pos ⟨by rw [ea]; rfl, ci⟩] at hbd
              refine ⟨_, rfl, .inl ⟨rfl, _, SqL.of (s57 _ _ gAr)⟩, _, rfl, Ar, us, _, rfl, rfl, s57 _ _ gAr, lt_sizeM (by rw [harc.1, asl]; simp at hln; omega), ?_⟩
              refine ⟨us ++ [.ref t], as ++ [a], _, _, _, rfl, upd_same, ((harc.same s57).snoc gt).updL (s57 _ _ gAr), ?_, hbd, (sm5.trans s57).updNew hA0, ?_, ?_⟩
              · rw [← take_snoc hm, List.map_append, List.map_append, hma]
                show _ ++ [arcOf sg m] = _
                rw [ea]
                rfl
              · rw [upd_ne nAq]
                exact s57 _ _ gq5
              · rw [upd_ne nAqq]
                exact s57 _ _ gqq5
        · rintro σ H5 ⟨us, as, v5, v6, v7, rfl, gAr, harc, hma, hbd, sm5, gq5, gqq5⟩
          rw [ltx_len] at hma hbd
          rw [List.take_length] at hma
          rw [List.drop_length] at hbd
          have hbn : badL sg r 0 = none := hbd
          rw [hbn] at edu
          dsimp only at edu
          have asl : as.length = r.length := by
            have := congrArg List.length hma
            rw [List.length_map, List.length_map] at this
            omega
          have stop : ¬ (u = [] ∧ r ≠ []) → ∀ H' e, Same H H' → H' e = some (.xd (fs_InvalidPage (.int (((ltx (hd :: r)).length : Int) + 1)))) → E (.ref T.C_InvalidPage) (some e) H' := fun hb H' e hs he => by
            rw [if_neg hb] at edu
            exact err _ edu H' e hs (by rw [he, ltx_len]; rfl)
          refine ⟨_, rfl, rfl, _, rfl, ?_⟩
          refine ite2 (fun c => ?_) (fun c => ?_)
          · refine ⟨_, rfl, q, _, rfl, .inl (SqL.of gqq5), _, _, rfl, rfl, _, rfl, fun e he => ?_⟩
            refine stop (fun z => ?_) _ e (sm5.trans (Same.new _ he)) upd_same
            rw [z.1] at c
            exact absurd c (by decide)
          · have cu : u = [] := by
              by_cases z : u = []
              · exact z
              · exact absurd (dne_t (fun y => z (by injection y with y; exact SX.S_inj y))) c
            refine ⟨_, rfl, Ar, us, rfl, .inl (SqL.of gAr), rfl, _, rfl, ?_⟩
            refine ite2 (fun c2 => ?_) (fun c2 => ?_)
            · have cr : r = [] := by
                have z := of_decide_eq_true c2
                injection z with z
                rw [harc.1, asl] at z
                exact List.eq_nil_of_length_eq_zero (by omega)
              refine ⟨_, rfl, q, _, rfl, .inl (SqL.of gqq5), _, _, rfl, rfl, _, rfl, fun e he => ?_⟩
              exact stop (fun z => z.2 cr) _ e (sm5.trans (Same.new _ he)) upd_same
            · have cr : r ≠ [] := fun z => c2 (decide_eq_true (by rw [harc.1, asl, z]; rfl))
              rw [if_pos ⟨cu, cr⟩] at edu
              obtain ⟨sg', as', hd', r', d1, d2, d3, d4, _, _, hsg, hok, hpg⟩ := hdn edu
              cases d1
              obtain rfl : sg = sg' := Option.some.inj (esg.symm.trans d2)
              obtain rfl : as = as' := map_some_inj (hma.symm.trans d4)
              refine ⟨_, rfl, _, rfl, fun x dx hx hd hne => ?_⟩
              have S : Same H5 (upd (upd H5 dx (.own x)) x (.ins T.C_Loom dx [])) := (Same.new _ hd).trans (Same.new _ (by rw [upd_ne hne.symm]; exact hx))
              refine ⟨x, dx, Ar, sg, us, as, rfl, upd_same, S _ _ gAr, harc.same S, hok, hsg, fun H' Tt x3 hT hTus g => ⟨rfl, ?_⟩⟩
              have s9 : Same H5 H' := fun b o e => x3 _ _ (ne_of_none e hx) (S _ _ e)
              exact fine edu sg as H' x us hpg hsg hok (sm5.trans s9) (sm5.free hx) ⟨dx, Tt, g, hTus, harc.same s9, hok, hsg⟩
end
end J


set_option Elab.async false
set_option linter.all false
set_option maxRecDepth 100000
set_option maxHeartbeats 4000000
namespace J
open PySem L2
theorem Arcs.dr {p : Addr} {H H' : Hp} {vs : List V} {as : List Arc} (h : Arcs H vs as) (g : PoolAt H p) (x : Dr p H H') : Arcs H' vs as := by
  obtain ⟨gl, sl, gs, ss, b, c, hp, _⟩ := g
  exact h.ex x.1 hp
def alpha : List Nat := List.range' 97 26
theorem alpha_S : Str.ofString "abcdefghijklmnopqrstuvwxyz" = SX.S alpha := by decide +kernel
theorem alpha_at {n : Nat} (h : n < 26) : alpha[n]? = some (97 + n) := by
  unfold alpha
  rw [List.getElem?_range' (by omega)]
  simp
/-- letters that ascend, all below a bound -/
def Asc (us : List Nat) (b : Nat) : Prop := (∀ c ∈ us, 97 ≤ c ∧ c < b) ∧ us.Pairwise (· < ·)
theorem Asc.snoc {us : List Nat} {b c : Nat} (h : Asc us b) (h1 : b ≤ c) (h2 : 97 ≤ c) {b' : Nat} (h3 : c < b') : Asc (us ++ [c]) b' := by
  refine ⟨fun d hd => ?_, ?_⟩
  · rcases List.mem_append.mp hd with hd | hd
    · have := h.1 d hd
      omega
    · rw [List.mem_singleton.mp hd]
      omega
  · rw [List.pairwise_append]
    refine ⟨h.2, by simp, fun a ha d hd => ?_⟩
    rw [List.mem_singleton.mp hd]
    have := (h.1 a ha).2
    omega
def spSgRow : Sp := fun vs H Q _ => ∃ (p : Addr) (m : Int), vs = [.ref p, .int m] ∧ PoolAt H p ∧ 1 ≤ m ∧ m ≤ 4 ∧ ∀ H' sg, Dr p H H' → Signs sg → m ≤ sg.length → Q (.str (SX.S sg)) H'
def spAnyWord : Sp := fun vs H Q _ => ∃ (p : Addr) (sg : List Nat) (m : Int), vs = [.ref p, .str (SX.S sg), .int m] ∧ PoolAt H p ∧ Signs sg ∧ 1 ≤ m ∧ m ≤ 12 ∧ ∀ H' u, Dr p H H' → Word sg u → (u.length : Int) ≤ m → Q (.str (SX.S u)) H'
section
variable {P : Program} {w : World} {K : PySem.W.Frag} {mg : Str → Option Value} {base : Heap}
theorem ok_l_sign_row (T : Tx K mg) : FnOk P w K mg base CX0 2 T.f_l_sign_row T.fd_l_sign_row P_l_sign_row spSgRow := by
  have G_l_draw : FnOk P w K mg base CX0 1 T.f_l_draw T.fd_l_draw P_l_draw spDraw := ok_l_draw T
  refine T.F_l_sign_row.ok sc_l_sign_row (fun vs H Q E h => ?_) (fun cdv A outer s H vs Q E hr h => ?_)
  · obtain ⟨p, m, rfl, _⟩ := h
    rfl
  · obtain ⟨p, m, rfl, hst, hm1, hm2, k⟩ := h
    refine ⟨_, (C8.pss_cut (ps_set (i := 2) sc_l_sign_row.nd rfl (Or.inl rfl) (pe_ifExp (pt_cmpR op_eq (pe_call G_l_draw (hr.mono (by decide)) rfl T.m_l_draw T.F_l_draw.kp T.b_l_draw .nil pass0 (pa_cons (pv 0) (pa_cons pe_int pa_nil))) pe_int (nomark _)) (pe_op op_add (pv 1) (pe_call G_l_draw (hr.mono (by decide)) rfl T.m_l_draw T.F_l_draw.kp T.b_l_draw .nil pass0 (pa_cons (pv 0) (pa_cons (pe_op op_sub pe_int (pv 1)) pa_nil)))) (pe_callB (call_max2 rfl) rfl T.n_max (by decide +kernel) (pa_cons pe_int (pa_cons (pv 1) pa_nil)))))
        (pss_cons (ps_set (i := 3) sc_l_sign_row.nd rfl (Or.inl rfl) (pe_call G_l_draw (hr.mono (by decide)) rfl T.m_l_draw T.F_l_draw.kp T.b_l_draw .nil pass0 (pa_cons (pv 0) (pa_cons (pe_op op_sub pe_int (pe_op op_mul pe_int (pv 2))) pa_nil))))
        (pss_cons (ps_set (i := 4) sc_l_sign_row.nd rfl (Or.inl rfl) pe_str)
        (pss_cons (ps_for PassesOwn.never rfl (pi_range1 rfl T.n_range (pa_cons (pv 2) pa_nil)) (pg_name (i := 5) sc_l_sign_row.nd rfl (Or.inl rfl)) (pss_cons (ps_set (i := 4) sc_l_sign_row.nd rfl (Or.inl rfl) (pe_op op_add_str (pv 4) (pe_ix ix_str pe_str (pe_op op_add (pv 3) (pv 5)) (fun _ _ => rfl))))
        (pss_one (ps_set (i := 3) sc_l_sign_row.nd rfl (Or.inl rfl) (pe_op op_add (pv 3) (pe_call G_l_draw (hr.mono (by decide)) rfl T.m_l_draw T.F_l_draw.kp T.b_l_draw .nil pass0 (pa_cons (pv 0) (pa_cons pe_int pa_nil))))))))
        (pss_one (ps_ret (pv 4))))))), ?_⟩
    refine ⟨fun σ' H' => ∃ M : Int, σ' = [some (.ref p), some (.int m), some (.int M), none, none, none] ∧ 1 ≤ M ∧ M ≤ 4 ∧ m ≤ M ∧ Dr p H H', ?_, ?_⟩
    · refine ⟨_, rfl, p, 4, rfl, hst, by decide, by decide, fun H1 r1 x1 r10 r11 => ?_⟩
      refine ⟨rfl, _, rfl, ?_⟩
      refine ite2 (fun c => ?_) (fun c => ?_)
      · refine ⟨_, rfl, _, rfl, _, rfl, _, _, rfl, rfl, p, _, rfl, x1.2.1, by omega, by omega, fun H2 r2 x2 r20 r21 => ⟨_, _, rfl, rfl, ?_⟩⟩
        exact ⟨_, rfl, by omega, by omega, by omega, x1.trans x2⟩
      · refine ⟨_, rfl, _, _, rfl, ?_⟩
        refine ⟨_, rfl, ?_, ?_, ?_, x1⟩ <;> split <;> omega
    · rintro σ' H1 ⟨M, rfl, hM1, hM4, hmM, x1⟩
      obtain ⟨n, rfl⟩ := Int.eq_ofNat_of_zero_le (by omega : (0 : Int) ≤ M)
      refine ⟨_, rfl, _, rfl, _, _, rfl, rfl, .inl (by decide), _, _, rfl, rfl, p, _, rfl, x1.2.1, by omega, by omega, fun H2 f0 x2 f00 f01 => ?_⟩
      have x12 := x1.trans x2
      refine ⟨_, rfl, _, rfl, by omega, by omega, for_range (lo := 0) (n := ((n : Int)).toNat) (fun i σ H' => ∃ (us : List Nat) (f : Nat) (v5 : Option V), σ = [some (.ref p), some (.int m), some (.int (n : Int)), some (.int (f : Int)), some (.str (SX.S us)), v5] ∧ us.length = i ∧ f + 2 * n < 26 + i ∧ Asc us (97 + f + i) ∧ Dr p H H') ?_ ?_ ?_⟩
      · obtain ⟨f, rfl⟩ := Int.eq_ofNat_of_zero_le f00
        exact ⟨[], f, none, rfl, rfl, by omega, ⟨fun c hc => (nomatch hc), List.Pairwise.nil⟩, x12⟩
      · rintro i σ H3 hi ⟨us, f, v5, rfl, rfl, hf, hasc, x3⟩
        have e0 : (0 : Int) + (us.length : Int) = (us.length : Int) := by omega
        have hidx : f + us.length < 26 := by omega
        refine ⟨_, rfl, _, rfl, _, rfl, _, _, rfl, rfl, ?_⟩
        rw [alpha_S]
        refine ⟨_, _, 97 + (f + us.length), rfl, rfl, le_size (by decide), ?_, _, _, rfl, rfl, le_size (by rw [SX.S_len, SX.S_len]; show us.length + 1 ≤ _; omega), ?_⟩
        · rw [e0, show (f : Int) + (us.length : Int) = ((f + us.length : Nat) : Int) by omega]
          exact atI_nat (alpha_at hidx)
        refine ⟨_, rfl, _, rfl, p, 2, rfl, x3.2.1, by decide, by decide, fun H4 r x4 r0 r1 => ⟨_, _, rfl, rfl, ?_⟩⟩
        obtain ⟨r', rfl⟩ := Int.eq_ofNat_of_zero_le r0
        rw [SX.S_cat]
        exact ⟨us ++ [97 + (f + us.length)], f + r', _, rfl, by simp, by omega, hasc.snoc (by omega) (by omega) (by omega), x3.trans x4⟩
      · rintro σ H3 ⟨us, f, v5, rfl, hl, hf, hasc, x3⟩
        refine ⟨_, rfl, k H3 us x3 ⟨by omega, by omega, fun c hc => ?_, hasc.2⟩ (by omega)⟩
        have := hasc.1 c hc
        omega
theorem ok_l_any_word (T : Tx K mg) : FnOk P w K mg base CX0 3 T.f_l_any_word T.fd_l_any_word P_l_any_word spAnyWord := by
  have G_l_draw : FnOk P w K mg base CX0 1 T.f_l_draw T.fd_l_draw P_l_draw spDraw := ok_l_draw T
  have G_l_pick : FnOk P w K mg base CX0 2 T.f_l_pick T.fd_l_pick P_l_pick spPickS := ok_l_pickS T
  refine T.F_l_any_word.ok sc_l_any_word (fun vs H Q E h => ?_) (fun cdv A outer s H vs Q E hr h => ?_)
  · obtain ⟨p, sg, m, rfl, _⟩ := h
    rfl
  · obtain ⟨p, sg, m, rfl, hst, hsg, hm, hm2, k⟩ := h
    refine ⟨_, (pss_one (ps_ret (pe_join pe_str (pe_lc (own := [("_law_k", 3)]) (g := (gName 3)) rfl sc_l_any_word.nd (pi_range1 rfl T.n_range (pa_cons (pe_op op_add pe_int (pe_call G_l_draw (hr.mono (by decide)) rfl T.m_l_draw T.F_l_draw.kp T.b_l_draw .nil pass0 (pa_cons (pv 0) (pa_cons (pv 2) pa_nil)))) pa_nil)) (blkOk_by (N := N_l_any_word) (sc := defScope s_l_any_word) (by decide +kernel)) (fun _ _ _ _ _ => (pg_name (i := 3) sc_l_any_word.nd rfl (Or.inl rfl))) (fun _ _ _ _ _ => pts_nil) (fun _ _ _ _ _ => (pe_call G_l_pick (hr.mono (by decide)) rfl T.m_l_pick T.F_l_pick.kp T.b_l_pick .nil pass0 (pa_cons (pv 0) (pa_cons (pv 1) pa_nil)))))))), ?_⟩
    have hlen := hsg.len
    refine ⟨⟨_, rfl⟩, _, rfl, _, rfl, p, m, rfl, hst, by omega, by omega, fun H1 r x1 r0 r1 => ⟨_, _, rfl, rfl, ?_⟩⟩
    refine ⟨_, rfl, by omega, by omega, fun D hD => lc_range (lo := 0) (n := (1 + r).toNat) (fun i H' => ∃ us : List Nat, us.length = i ∧ (∀ c ∈ us, c ∈ sg) ∧ H' D = some (.lst ((us.map fun c => SX.S [c]).map V.str)) ∧ Dr p H1 H' ∧ Off H' p D) ?_ ?_ ?_⟩
    · exact ⟨[], rfl, fun _ h => (nomatch h), upd_same, (Dr.refl x1.2.1).new hD, Off.new x1.2.1 hD⟩
    · rintro i H2 hi ⟨us, rfl, hu, hDs, x2, o2⟩
      refine ⟨rfl, ?_⟩
      refine ⟨_, rfl, _, rfl, p, sg, rfl, x2.2.1, by omega, by omega, fun H3 c x3 hc => ?_⟩
      have o3 := x3.2.2 _ o2
      refine ⟨_, o2.at x3 hDs, lt_size (by simp; omega), us ++ [c], by simp, ?_, ?_, (x2.trans x3).upd hD o3, o3.upd o3⟩
      · intro d hd
        rcases List.mem_append.mp hd with h | h
        · exact hu d h
        · rw [List.mem_singleton.mp h]; exact hc
      · rw [upd_same]; simp
    · rintro H2 ⟨us, hl, hu, hDs, x2, o2⟩
      have hf : ∀ l : List Nat, (l.map fun c => [c]).flatten = l := fun l => by induction l with
        | nil => rfl
        | cons a l ih => simpa using ih
      refine ⟨_, _, us.map fun c => SX.S [c], rfl, rfl, .inl (SqL.of hDs), ?_, ?_⟩
      · rw [sum_ones, emptyS, SX.S_len]
        simp
        omega
      · have e : us.map (fun c => SX.S [c]) = (us.map fun c => [c]).map SX.S := by rw [List.map_map]; rfl
        rw [e, emptyS, join_flat, hf]
        exact k _ us (x1.trans x2) ⟨by omega, by omega, hu⟩ (by omega)
end
end J


set_option Elab.async false
set_option linter.all false
set_option maxRecDepth 100000
set_option maxHeartbeats 4000000
namespace J
open PySem L2
def nsV (ls : List Nat) : List V := ls.map fun n : Nat => V.int (n : Int)
theorem nsV_len (ls : List Nat) : (nsV ls).length = ls.length := List.length_map _
theorem nsV_mem {ls : List Nat} {b : Nat} (h : ∀ n ∈ ls, n ≤ b) {v : V} (hv : v ∈ nsV ls) : ∃ n : Nat, v = .int (n : Int) ∧ n ≤ b := by
  obtain ⟨n, hn, rfl⟩ := List.mem_map.mp hv
  exact ⟨n, rfl, h n hn⟩
def spAnyArcs : Sp := fun vs H Q _ => ∃ (p : Addr) (sg : List Nat) (m l : Int), vs = [.ref p, .str (SX.S sg), .int m, .int l] ∧ PoolAt H p ∧ Signs sg ∧ 1 ≤ m ∧ m ≤ 200 ∧ 1 ≤ l ∧ l ≤ 12 ∧
  ∀ H' (q : Addr) us as, Dr p H H' → H q = none → Off H' p q → H' q = some (.lst us) → Arcs H' us as → OkW sg as → (as.length : Int) ≤ m → Q (.ref q) H'
def spPage (K : PySem.W.Frag) : Sp := fun vs H Q _ => ∃ (sg : List Nat) (a : Addr) (us : List V) (as : List Arc), vs = [.str (SX.S sg), .ref a] ∧ SqL K H a us ∧ Arcs H us as ∧ OkW sg as ∧ Signs sg ∧ Q (.str (SX.S (page sg as))) H
def arls (as : List Arc) : List Nat := (as.map fun a => arl a ++ [10]).flatten
theorem page_eq (sg : List Nat) (as : List Arc) : page sg as = sgl sg ++ [10] ++ arls as := by
  unfold page lns arls
  simp only [List.map_cons, List.flatten_cons, List.map_map]
  rfl
theorem arls_snoc (as : List Arc) (a : Arc) : arls (as ++ [a]) = arls as ++ (arl a ++ [10]) := by
  unfold arls
  simp
theorem arls_len {sg : List Nat} : ∀ as : List Arc, (∀ a ∈ as, OkArc sg a) → (arls as).length ≤ 31 * as.length
  | [], _ => by simp [arls]
  | a :: r, h => by
    have h1 := arl_len (h a (by simp))
    have h2 := arls_len r fun b hb => h b (by simp [hb])
    unfold arls at *
    simp only [List.map_cons, List.flatten_cons, List.length_append, List.length_cons, List.length_nil]
    omega
theorem Le.plus {x y : Str} {m n : Nat} (h : Le x m) (g : Le y n) (z : m + n ≤ 100000) : x.length + y.length ≤ sizeLine := by
  unfold Le at *
  exact le_size (by omega)
section
variable {P : Program} {w : World} {K : PySem.W.Frag} {mg : Str → Option Value} {base : Heap}
theorem ok_l_any_arcs (T : Tx K mg) : FnOk P w K mg base CX0 4 T.f_l_any_arcs T.fd_l_any_arcs P_l_any_arcs spAnyArcs := by
  have G_l_draw : FnOk P w K mg base CX0 1 T.f_l_draw T.fd_l_draw P_l_draw spDraw := ok_l_draw T
  have G_l_pick : FnOk P w K mg base CX0 2 T.f_l_pick T.fd_l_pick P_l_pick spPick := ok_l_pick T
  have G_l_any_word : FnOk P w K mg base CX0 3 T.f_l_any_word T.fd_l_any_word P_l_any_word spAnyWord := ok_l_any_word T
  refine T.F_l_any_arcs.ok sc_l_any_arcs (fun vs H Q E h => ?_) (fun cdv A outer s H vs Q E hr h => ?_)
  · obtain ⟨p, sg, m, l, rfl, _⟩ := h
    rfl
  · obtain ⟨p, sg, m, l, rfl, hst, hsg, hm1, hm2, hl1, hl2, k⟩ := h
    refine ⟨_, (pss_cons (ps_set (i := 4) sc_l_any_arcs.nd rfl (Or.inl rfl) (pe_op op_cat (pe_lst (pa_cons pe_int pa_nil)) (pe_lc (own := [("_law_k", 6)]) (g := (gName 6)) rfl sc_l_any_arcs.nd (pi_range1 rfl T.n_range (pa_cons (pe_call G_l_draw (hr.mono (by decide)) rfl T.m_l_draw T.F_l_draw.kp T.b_l_draw .nil pass0 (pa_cons (pv 0) (pa_cons pe_int pa_nil))) pa_nil)) (blkOk_by (N := N_l_any_arcs) (sc := defScope s_l_any_arcs) (by decide +kernel)) (fun _ _ _ _ _ => (pg_name (i := 6) sc_l_any_arcs.nd rfl (Or.inl rfl))) (fun _ _ _ _ _ => pts_nil) (fun _ _ _ _ _ => (pe_op op_add pe_int (pe_call G_l_draw (hr.mono (by decide)) rfl T.m_l_draw T.F_l_draw.kp T.b_l_draw .nil pass0 (pa_cons (pv 0) (pa_cons pe_int pa_nil))))))))
        (pss_cons (ps_set (i := 5) sc_l_any_arcs.nd rfl (Or.inl rfl) (pe_lst pa_nil))
        (pss_cons (ps_for PassesOwn.never rfl (pi_range1 rfl T.n_range (pa_cons (pe_op op_add pe_int (pe_call G_l_draw (hr.mono (by decide)) rfl T.m_l_draw T.F_l_draw.kp T.b_l_draw .nil pass0 (pa_cons (pv 0) (pa_cons (pv 2) pa_nil)))) pa_nil)) (pg_name (i := 6) sc_l_any_arcs.nd rfl (Or.inl rfl)) (pss_one (ps_expr (pe_bm PySem.F.plainAttrs_list PySem.F.slot_list_append PySem.F.type_list_append mt_append (pv 5) (pa_cons (pe_tup (pa_cons (pe_call G_l_pick (hr.mono (by decide)) rfl T.m_l_pick T.F_l_pick.kp T.b_l_pick .nil pass0 (pa_cons (pv 0) (pa_cons (pv 4) pa_nil))) (pa_cons (pe_call G_l_any_word (hr.mono (by decide)) rfl T.m_l_any_word T.F_l_any_word.kp T.b_l_any_word .nil pass0 (pa_cons (pv 0) (pa_cons (pv 1) (pa_cons (pv 3) pa_nil)))) (pa_cons (pe_call G_l_pick (hr.mono (by decide)) rfl T.m_l_pick T.F_l_pick.kp T.b_l_pick .nil pass0 (pa_cons (pv 0) (pa_cons (pv 4) pa_nil))) pa_nil)))) pa_nil)))))
        (pss_one (ps_ret (pv 5)))))), ?_⟩
    refine ⟨le_size (by simp), fun a1 h1 => ?_⟩
    have x1 : Dr p H (upd H a1 (.lst [.int 0])) := (Dr.refl hst).new h1
    have o1 : Off (upd H a1 (.lst [.int 0])) p a1 := Off.new hst h1
    have g1 : upd H a1 (.lst [.int 0]) a1 = some (.lst (nsV [0])) := upd_same
    generalize upd H a1 (.lst [.int 0]) = H1 at *
    refine ⟨_, rfl, p, 3, rfl, x1.2.1, by decide, by decide, fun H2 r x2 r0 r1 => ?_⟩
    replace g1 := o1.at x2 g1
    replace o1 := x2.2.2 _ o1
    replace x2 := x1.trans x2
    refine ⟨_, rfl, by omega, by omega, fun D hD => lc_range (lo := 0) (n := r.toNat) (fun i H' => ∃ ls : List Nat, ls.length = i ∧ (∀ n ∈ ls, n ≤ 63) ∧ H' D = some (.lst (nsV ls)) ∧ Dr p H2 H' ∧ Off H' p D) ?_ ?_ ?_⟩
    · exact ⟨[], rfl, fun _ h => (nomatch h), upd_same, (Dr.refl x2.2.1).new hD, Off.new x2.2.1 hD⟩
    · rintro i H3 hi ⟨ls, rfl, hls, hDs, x3, o3⟩
      refine ⟨rfl, ?_⟩
      refine ⟨_, rfl, p, 63, rfl, x3.2.1, by decide, by decide, fun H4 r4 x4 r40 r41 => ⟨_, _, rfl, rfl, ?_⟩⟩
      obtain ⟨n, rfl⟩ := Int.eq_ofNat_of_zero_le r40
      have o4 := x4.2.2 _ o3
      refine ⟨_, o3.at x4 hDs, lt_size (by rw [nsV_len]; omega), ls ++ [1 + n], by simp, ?_, ?_, (x3.trans x4).upd hD o4, o4.upd o4⟩
      · intro d hd
        rcases List.mem_append.mp hd with h | h
        · exact hls d h
        · rw [List.mem_singleton.mp h]; omega
      · rw [upd_same]; simp [nsV]
    · rintro H3 ⟨ls, hl, hls, hDs, x3, o3⟩
      refine ⟨_, _, _, _, rfl, rfl, o1.at x3 g1, hDs, le_size (by rw [nsV_len, nsV_len]; simp; omega), fun a2 h2 => ?_⟩
      have e1 : nsV [0] ++ nsV ls = nsV (0 :: ls) := rfl
      rw [e1]
      have hls2 : ∀ n ∈ 0 :: ls, n ≤ 63 := fun n hn => by
        rcases List.mem_cons.mp hn with rfl | hn
        · decide
        · exact hls n hn
      have ll2 : (0 :: ls).length < 10 := by simp; omega
      have ll1 : 0 < (0 :: ls).length := by simp
      replace x3 := x2.trans x3
      have x4 : Dr p H (upd H3 a2 (.lst (nsV (0 :: ls)))) := x3.new h2
      have o4 : Off (upd H3 a2 (.lst (nsV (0 :: ls)))) p a2 := Off.new x3.2.1 h2
      have g4 : upd H3 a2 (.lst (nsV (0 :: ls))) a2 = some (.lst (nsV (0 :: ls))) := upd_same
      generalize upd H3 a2 (.lst (nsV (0 :: ls))) = H4 at *
      generalize 0 :: ls = sp at *
      clear x3 g1 o1 hDs o3
      refine ⟨le_size (by simp), fun F hF => ?_⟩
      have hF0 := x4.free hF
      have g5 : upd H4 F (.lst []) F = some (.lst []) := upd_same
      have o5 : Off (upd H4 F (.lst [])) p F := Off.new x4.2.1 hF
      have x5 : Dr p H4 (upd H4 F (.lst [])) := (Dr.refl x4.2.1).new hF
      have nF : F ≠ a2 := fun z => by rw [z, g4] at hF; cases hF
      generalize upd H4 F (.lst []) = H5 at *
      replace g4 := o4.at x5 g4
      replace o4 := x5.2.2 _ o4
      replace x5 := x4.trans x5
      refine ⟨_, rfl, _, rfl, p, m, rfl, x5.2.1, by omega, by omega, fun H6 r6 x6 r60 r61 => ⟨_, _, rfl, rfl, ?_⟩⟩
      refine ⟨_, rfl, by omega, by omega, for_range (lo := 0) (n := (1 + r6).toNat) (fun i σ H' => ∃ (us : List V) (as : List Arc) (v6 : Option V), σ = [some (.ref p), some (.str (SX.S sg)), some (.int m), some (.int l), some (.ref a2), some (.ref F), v6] ∧
        as.length = i ∧ (∀ a ∈ as, OkArc sg a) ∧ H' F = some (.lst us) ∧ Arcs H' us as ∧ Dr p H H' ∧ Off H' p F ∧ Off H' p a2 ∧ H' a2 = some (.lst (nsV sp))) ?_ ?_ ?_⟩
      · exact ⟨[], [], none, rfl, rfl, fun _ h => (nomatch h), o5.at x6 g5, Arcs.nil _, x5.trans x6, x6.2.2 _ o5, x6.2.2 _ o4, o4.at x6 g4⟩
      · rintro i σ H7 hi ⟨us, as, v6, rfl, rfl, hok, gF, harc, x7, oF, oA, gA⟩
        refine ⟨_, rfl, .inl ⟨rfl, _, SqL.of gF⟩, _, rfl, _, rfl, p, a2, nsV sp, rfl, x7.2.1, oA.1, gA, by rw [nsV_len]; exact ll1, by rw [nsV_len]; omega, fun H8 v8 x8 hv8 => ?_⟩
        obtain ⟨s8, rfl, b8⟩ := nsV_mem hls2 hv8
        refine ⟨_, rfl, _, rfl, _, rfl, p, sg, l, rfl, x8.2.1, hsg, hl1, hl2, fun H9 u x9 hw hul => ?_⟩
        have x79 := x8.trans x9
        refine ⟨_, rfl, _, rfl, p, a2, nsV sp, rfl, x9.2.1, oA.1, oA.at x79 gA, by rw [nsV_len]; exact ll1, by rw [nsV_len]; omega, fun H10 v10 x10 hv10 => ?_⟩
        obtain ⟨s10, rfl, b10⟩ := nsV_mem hls2 hv10
        replace x79 := x79.trans x10
        refine ⟨le_size (by simp), fun t ht => ?_⟩
        have s11 : Same H10 (upd H10 t (arcHO (s8, u, s10))) := Same.new _ ht
        have g11 : upd H10 t (arcHO (s8, u, s10)) t = some (arcHO (s8, u, s10)) := upd_same
        have x11 : Dr p H7 (upd H10 t (arcHO (s8, u, s10))) := x79.new ht
        have gF' := oF.at x11 gF
        have oF' := x11.2.2 _ oF
        refine ⟨F, us, _, rfl, rfl, gF', lt_size (by rw [harc.1]; omega), ?_⟩
        refine ⟨us ++ [.ref t], as ++ [(s8, u, s10)], _, rfl, by simp, ?_, upd_same, ?_, (x7.trans x11).upd hF0 oF', oF'.upd oF', (x11.2.2 _ oA).upd oF', ?_⟩
        · intro b hb
          rcases List.mem_append.mp hb with h | h
          · exact hok b h
          · rw [List.mem_singleton.mp h]
            exact ⟨b8, hw, b10⟩
        · exact ((harc.dr x7.2.1 x11).snoc g11).updL gF'
        · rw [upd_ne nF.symm]
          exact oA.at x11 gA
      · rintro σ H7 ⟨us, as, v6, rfl, hl, hok, gF, harc, x7, oF, oA, gA⟩
        exact ⟨_, rfl, k H7 F us as x7 hF0 oF gF harc ⟨by omega, by omega, hok⟩ (by omega)⟩
end
end J


set_option Elab.async false
set_option linter.all false
set_option maxRecDepth 100000
set_option maxHeartbeats 4000000
namespace J
open PySem L2
theorem exm_own {K : PySem.W.Frag} {D : Addr} (b : PySem.W.subIn K (.ref D) (.type "BaseException") = some true) (c : PySem.W.isClsIn K D = true) (t : PySem.W.typeIn K (.ref D) = some (.type "type")) (q : PySem.W.subIn K (.ref D) (.ref D) = some true) :
    PySem.W.exmOne K (.ref D) (.ref D) = some true := by
  have c' : (PySem.W.clsIn K D).isSome = true := c
  unfold PySem.W.exmOne
  simp [b, c', t, q, PySem.W.kitCls]
def Ch (l : List Nat) : Prop := ∀ c ∈ l, c < 1114112
instance (l : List Nat) : Decidable (Ch l) := by unfold Ch; infer_instance
theorem Ch.sub {u x : List Nat} (h : Ch x) (s : ∀ c ∈ u, c ∈ x) : Ch u := fun c hc => h c (s c hc)
theorem Ch.app {u x : List Nat} (h : Ch x) (g : Ch u) : Ch (x ++ u) := fun c hc => (List.mem_append.mp hc).elim (h c) (g c)
theorem spl_sub (S : List Nat) : ∀ (r : List Nat) (k : Nat) (acc : List Nat), ∀ u ∈ TL.spl S k acc r, ∀ c ∈ u, c ∈ acc ∨ c ∈ r
  | [], k, acc, u, hu, c, hc => by
    rw [TL.spl_nil] at hu
    rw [List.mem_singleton.mp hu] at hc
    exact .inl hc
  | a :: r, 0, acc, u, hu, c, hc => by
    unfold TL.spl at hu
    split at hu
    · rcases List.mem_cons.mp hu with rfl | hu
      · exact .inl hc
      · rcases spl_sub S r _ _ u hu c hc with h | h
        · cases h
        · exact .inr (List.mem_cons_of_mem _ h)
    · rcases spl_sub S r _ _ u hu c hc with h | h
      · rcases List.mem_append.mp h with h | h
        · exact .inl h
        · rw [List.mem_singleton.mp h]; exact .inr (List.mem_cons_self ..)
      · exact .inr (List.mem_cons_of_mem _ h)
  | a :: r, k + 1, acc, u, hu, c, hc => by
    unfold TL.spl at hu
    rcases spl_sub S r _ _ u hu c hc with h | h
    · exact .inl h
    · exact .inr (List.mem_cons_of_mem _ h)
theorem parts_ch {l : List Nat} (h : Ch l) : ∀ u ∈ partsOf l, Ch u := fun u hu c hc => by
  rcases spl_sub [32] l 0 [] u hu c hc with z | z
  · cases z
  · exact h c z
theorem lines_ch {l : List Nat} (h : Ch l) : ∀ u ∈ linesOf l, Ch u := fun u hu c hc => by
  rcases spl_sub [10] l 0 [] u hu c hc with z | z
  · cases z
  · exact h c z
/-- the single signs of a text that a test leaves -/
def sgn1 (u : List Nat) : List (List Nat) := u.map fun c => [c]
theorem sgn1_ch {u : List Nat} (h : Ch u) : ∀ w ∈ sgn1 u, ∀ c ∈ w, c < 1114112 := fun w hw c hc => by
  obtain ⟨d, hd, rfl⟩ := List.mem_map.mp hw
  rw [List.mem_singleton.mp hc]
  exact h d hd
theorem ne_empty {K : PySem.W.Frag} {H : Hp} {a b : Addr} {u : List Nat} {Q : VK} (hu : Ch u) (ha : H a = some (.lst (ltx (sgn1 u)))) (hb : H b = some (.lst [])) (q : Q (.bl (!decide (u = []))) H) : rNeD K (.ref a) (.ref b) H Q := by
  refine ⟨_, _, .lst (SqL.of ha) (dp_txts _), .lst (SqL.of hb) .nil, shaped_txts (sgn1_ch hu), rfl, ?_⟩
  have e6 : PyData.eqv (.list (txtD (sgn1 u))) (.list []) = decide (u = []) := by
    show PyData.eqvAll (txtD (sgn1 u)) (txtD []) = _
    rw [eqv_txts]
    simp [sgn1]
  rw [e6]
  exact q
def numD (ls : List Nat) : List PyData := ls.map fun n : Nat => .int (n : Int)
theorem dp_nums {K : PySem.W.Frag} {H : Hp} : ∀ ls : List Nat, DpAll K H (nsV ls) (numD ls)
  | [] => .nil
  | _ :: r => .cons (.int _) (dp_nums r)
theorem lay_nums : ∀ ls : List Nat, PyData.canLayAll0 (numD ls) = true
  | [] => rfl
  | _ :: r => by
    show (true && PyData.canLayAll0 (numD r)) = true
    rw [lay_nums r]
    rfl
theorem deep_nums : ∀ ls : List Nat, PyData.depthAll (numD ls) = 0
  | [] => by simp [numD, PyData.depthAll]
  | u :: r => by
    show max (PyData.depth (.int (u : Int))) (PyData.depthAll (numD r)) = 0
    rw [deep_nums r]
    simp [PyData.depth]
theorem shaped_nums (ls : List Nat) : SeqAt.shaped (.list (numD ls)) = true := by
  have q1 : PyData.canLay0 (.list (numD ls)) = true := lay_nums ls
  have q2 : PyData.depth (.list (numD ls)) ≤ 64 := by
    show PyData.depthAll (numD ls) + 1 ≤ 64
    rw [deep_nums]
    decide
  unfold SeqAt.shaped
  rw [q1, decide_eq_true q2]
  rfl
theorem eq_empty {K : PySem.W.Frag} {H : Hp} {a b : Addr} {u : List Nat} {Q : VK} (ha : H a = some (.lst (nsV u))) (hb : H b = some (.lst [])) (q : Q (.bl (decide (u = []))) H) : rEqD K (.ref a) (.ref b) H Q := by
  refine ⟨_, _, .lst (SqL.of ha) (dp_nums _), .lst (SqL.of hb) .nil, shaped_nums u, rfl, ?_⟩
  have e6 : PyData.eqv (.list (numD u)) (.list []) = decide (u = []) := by
    show PyData.eqvAll (numD u) [] = _
    cases u with
    | nil => rfl
    | cons a r => rw [decide_eq_false (by simp)]; rfl
  rw [e6]
  exact q
theorem low_alpha (c : Nat) : decide (c ∈ (Str.ofString "abcdefghijklmnopqrstuvwxyz").cps.toList) = lowB c := by
  rw [alpha_S]
  show decide (c ∈ alpha) = lowB c
  unfold alpha lowB
  rw [Bool.eq_iff_iff, decide_eq_true_eq, Bool.and_eq_true, decide_eq_true_eq, decide_eq_true_eq, List.mem_range'_1]
  omega
/-- places where signs do not ascend, each told by a 1 -/
def dsc (u : List Nat) (n : Nat) : List Nat := (((u.zip (u.drop 1)).take n).filter fun p => !ascB p).map fun _ => 1
theorem inV_st (u : List Nat) : inV (.str (SX.S u)) (ltx ((List.range 64).map nt)) = (stOf u).isSome := by
  unfold inV stOf ltx
  rw [List.any_map, List.any_map, Bool.eq_iff_iff, List.any_eq_true, List.find?_isSome]
  refine exists_congr fun n => and_congr_right fun _ => ?_
  show (SX.S (nt n) == SX.S u) = true ↔ _
  rw [str_beq]
def spAreSigns : Sp := fun vs H Q _ => ∃ u : List Nat, vs = [.str (SX.S u)] ∧ u.length ≤ 2000000 ∧ Ch u ∧ ∀ H', Same H H' → Q (.bl (sgB u)) H'
def spIsState : Sp := fun vs H Q _ => ∃ u : List Nat, vs = [.str (SX.S u)] ∧ ∀ H', Same H H' → Q (.bl (stOf u).isSome) H'
section
variable {P : Program} {w : World} {K : PySem.W.Frag} {mg : Str → Option Value} {base : Heap}
theorem ok_l_are_signs (T : Tx K mg) : FnOk P w K mg base CX0 1 T.f_l_are_signs T.fd_l_are_signs P_l_are_signs spAreSigns := by
  refine T.F_l_are_signs.ok sc_l_are_signs (fun vs H Q E h => ?_) (fun cdv A outer s H vs Q E hr h => ?_)
  · obtain ⟨u, rfl, _⟩ := h
    rfl
  · obtain ⟨u, rfl, hl0, hch, k⟩ := h
    refine ⟨_, (pss_cons (ps_if (PW.pt (pw_or (pt_not (pt_chain op_le op_le pe_int (pe_callB call_len_str rfl T.n_len (by decide +kernel) (pa_cons (pv 0) pa_nil)) pe_int)) (pw_or1 (pt_cmpR (op_neD hr.units) (pe_lc (own := [("_law_sign", 2)]) (g := (gName 2)) rfl sc_l_are_signs.nd (pi_str (pv 0)) (blkOk_by (N := N_l_are_signs) (sc := defScope s_l_are_signs) (by decide +kernel)) (fun _ _ _ _ _ => (pg_name (i := 2) sc_l_are_signs.nd rfl (Or.inl rfl))) (fun _ _ _ _ _ => (pts_one (pt_cmpR op_notIn_sign (pv 2) pe_str rfl))) (fun _ _ _ _ _ => (pv 2))) (pe_lst pa_nil) (nomark _))))) (pss_one (ps_ret pe_bl)) pss_nil)
        (pss_one (ps_ret (pe_cmpR (op_eqD hr.units) (pe_lc (own := [("_law_k", 1)]) (g := (gName 1)) rfl sc_l_are_signs.nd (pi_range1 rfl T.n_range (pa_cons (pe_op op_sub (pe_callB call_len_str rfl T.n_len (by decide +kernel) (pa_cons (pv 0) pa_nil)) pe_int) pa_nil)) (blkOk_by (N := N_l_are_signs) (sc := defScope s_l_are_signs) (by decide +kernel)) (fun _ _ _ _ _ => (pg_name (i := 1) sc_l_are_signs.nd rfl (Or.inl rfl))) (fun _ _ _ _ _ => (pts_one (pt_not (pt_cmpR op_lt_str (pe_ix ix_str (pv 0) (pv 1) (fun _ _ => rfl)) (pe_ix ix_str (pv 0) (pe_op op_add (pv 1) pe_int) (fun _ _ => rfl)) (nomark _))))) (fun _ _ _ _ _ => pe_int)) (pe_lst pa_nil) (nomark _))))), ?_⟩
    have hl : (SX.S u).length ≤ sizeLine := le_sizeM (by rw [SX.S_len]; omega)
    have e : ((SX.S u).length : Int) = u.length := by rw [SX.S_len]
    have kk : ∀ H', Same H H' → Q (.bl (decide (1 ≤ u.length) && (decide (u.length ≤ 4) && (u.all lowB && (u.zip (u.drop 1)).all ascB)))) H' := k
    refine ⟨_, rfl, _, rfl, hl, _, _, rfl, rfl, _, rfl, ?_⟩
    refine ite2 (fun c1 => ?_) (fun c1 => ?_)
    rotate_left
    · have z := kk H (Same.refl _)
      rw [decide_eq_false (fun q => c1 (decide_eq_true (by rw [e]; omega)) : ¬ 1 ≤ u.length), Bool.false_and] at z
      exact ⟨false, rfl, z⟩
    have d1 := of_decide_eq_true c1
    rw [e] at d1
    refine ⟨_, _, rfl, rfl, _, rfl, ?_⟩
    by_cases d2 : ((SX.S u).length : Int) ≤ 4
    case neg =>
      rw [decide_eq_false d2]
      have z := kk H (Same.refl _)
      rw [decide_eq_false (by omega : ¬ u.length ≤ 4), Bool.false_and, Bool.and_false] at z
      exact z
    rw [decide_eq_true d2]
    rw [e] at d2
    refine ⟨_, rfl, _, rfl, fun D hD => lc_it (walk_str (z := SX.S u)) (fun i H' => H' D = some (.lst (ltx (sgn1 ((u.take i).filter fun c => !lowB c)))) ∧ Same H H') ⟨upd_same, Same.new _ hD⟩ (fun _ _ _ _ => trivial) ?_ ?_⟩
    · rintro i x H1 H2 hi ⟨hDl, sm⟩ ⟨rfl, c, hc, rfl⟩
      have hcu : u[i]? = some c := by simpa using hc
      refine ⟨rfl, _, rfl, c, _, rfl, rfl, _, rfl, ?_⟩
      rw [low_alpha]
      cases el : lowB c with
      | true =>
        refine iteF ⟨?_, sm⟩
        rw [hDl, ← take_snoc hcu, List.filter_append]
        simp [el]
      | false =>
        refine iteT ⟨_, rfl, _, hDl, lt_size (by rw [ltx_len, sgn1, List.length_map]; have := List.length_filter_le (fun c => !lowB c) (u.take i); rw [List.length_take] at this; omega), ?_, sm.updNew hD⟩
        rw [upd_same, ← take_snoc hcu, List.filter_append]
        simp [el, ltx, sgn1]
    · rintro H1 ⟨hDl, sm⟩
      have sz : (SX.S u).cps.size = u.length := by simp
      rw [sz, List.take_length] at hDl
      refine ⟨Nat.zero_le _, fun b hb => ?_⟩
      have s2 : Same H1 (upd H1 b (.lst [])) := Same.new _ hb
      refine ne_empty (hch.sub fun c hc => (List.mem_filter.mp hc).1) (s2 _ _ hDl) upd_same ⟨_, rfl, ?_⟩
      have sm2 := sm.trans s2
      generalize upd H1 b (.lst []) = H2 at *
      have low : (!decide ((u.filter fun c => !lowB c) = [])) = !u.all lowB := by
        congr 1
        rw [Bool.eq_iff_iff]
        simp
      rw [low]
      cases ea : u.all lowB with
      | false =>
        have z := kk H2 sm2
        rw [ea, Bool.false_and, Bool.and_false, Bool.and_false] at z
        exact z
      | true =>
        rw [ea, decide_eq_true (by omega : 1 ≤ u.length), decide_eq_true (by omega : u.length ≤ 4), Bool.true_and, Bool.true_and, Bool.true_and] at kk
        have zl : (u.zip (u.drop 1)).length = u.length - 1 := by rw [List.length_zip, List.length_drop]; omega
        have nt' : (((SX.S u).length : Int) - 1).toNat = u.length - 1 := by rw [e]; omega
        refine ⟨_, rfl, _, rfl, hl, _, _, rfl, rfl, _, rfl, by omega, by omega, fun D2 hD2 => lc_range (lo := 0) (n := (((SX.S u).length : Int) - 1).toNat) (fun i H' => H' D2 = some (.lst (nsV (dsc u i))) ∧ Same H2 H') ⟨upd_same, Same.new _ hD2⟩ ?_ ?_⟩
        · rintro i H3 hi ⟨hDl3, sm3⟩
          rw [nt'] at hi
          have e0 : (0 : Int) + (i : Int) = (i : Int) := by omega
          have hz : (u.zip (u.drop 1))[i]? = some (u[i], (u.drop 1)[i]'(by rw [List.length_drop]; omega)) := by
            rw [List.getElem?_eq_getElem (by rw [zl]; exact hi)]
            simp
          have hc : u[i]? = some u[i] := List.getElem?_eq_getElem (by omega)
          have hd : u[i + 1]? = some ((u.drop 1)[i]'(by rw [List.length_drop]; omega)) := by
            rw [List.getElem_drop, List.getElem?_eq_getElem (by omega)]
            simp [Nat.add_comm]
          generalize u[i] = c at *
          generalize ((u.drop 1)[i]'(by rw [List.length_drop]; omega)) = d at *
          have dl : (dsc u i).length ≤ u.length := by
            unfold dsc
            rw [List.length_map]
            refine Nat.le_trans (List.length_filter_le _ _) ?_
            rw [List.length_take, zl]
            omega
          rw [e0]
          refine ⟨rfl, _, rfl, _, rfl, _, _, c, rfl, rfl, hl, atI_nat hc, _, rfl, _, rfl, _, _, rfl, rfl, _, _, d, rfl, rfl, hl, (by exact_mod_cast atI_nat hd), _, _, rfl, rfl, _, rfl, ?_⟩
          have q3 : decide ([c] < ([d] : List Nat)) = ascB (c, d) := by
            unfold ascB
            rw [Bool.eq_iff_iff]
            simp [one_lt]
          show if (!decide ([c] < ([d] : List Nat))) = true then _ else _
          rw [q3]
          cases ez : ascB (c, d) with
          | true =>
            refine iteF ⟨?_, sm3⟩
            rw [hDl3]
            unfold dsc
            rw [← take_snoc hz, List.filter_append]
            simp [ez]
          | false =>
            refine iteT ⟨_, hDl3, lt_size (by rw [nsV_len]; omega), ?_, sm3.updNew hD2⟩
            rw [upd_same]
            unfold dsc
            rw [← take_snoc hz, List.filter_append]
            simp [ez, nsV]
        · rintro H3 ⟨hDl3, sm3⟩
          refine ⟨Nat.zero_le _, fun b2 hb2 => ?_⟩
          have s4 : Same H3 (upd H3 b2 (.lst [])) := Same.new _ hb2
          refine eq_empty (s4 _ _ hDl3) upd_same ?_
          have e9 : decide (dsc u (((SX.S u).length : Int) - 1).toNat = []) = (u.zip (u.drop 1)).all ascB := by
            unfold dsc
            rw [nt', ← zl, List.take_length, Bool.eq_iff_iff]
            simp
          rw [e9]
          exact kk _ ((sm2.trans sm3).trans s4)
theorem ok_l_is_state (T : Tx K mg) : FnOk P w K mg base CX0 1 T.f_l_is_state T.fd_l_is_state P_l_is_state spIsState := by
  refine T.F_l_is_state.ok sc_l_is_state (fun vs H Q E h => ?_) (fun cdv A outer s H vs Q E hr h => ?_)
  · obtain ⟨u, rfl, _⟩ := h
    rfl
  · obtain ⟨u, rfl, k⟩ := h
    refine ⟨_, (pss_one (ps_ret (pe_cmpR op_in_seq (pv 0) (pe_lc (own := [("_law_k", 1)]) (g := (gName 1)) rfl sc_l_is_state.nd (pi_range1 rfl T.n_range (pa_cons pe_int pa_nil)) (blkOk_by (N := N_l_is_state) (sc := defScope s_l_is_state) (by decide +kernel)) (fun _ _ _ _ _ => (pg_name (i := 1) sc_l_is_state.nd rfl (Or.inl rfl))) (fun _ _ _ _ _ => pts_nil) (fun _ _ _ _ _ => (pe_callTy call_str_int rfl T.n_str (by decide +kernel) (pa_cons (pv 1) pa_nil)))) rfl))), ?_⟩
    refine ⟨_, rfl, 64, rfl, by decide, by decide, fun D hD => lc_range (lo := 0) (n := 64) (fun i H' => H' D = some (.lst (ltx ((List.range i).map nt))) ∧ Same H H') ⟨upd_same, Same.new _ hD⟩ ?_ ?_⟩
    · rintro i H1 hi ⟨hDl, sm⟩
      have e0 : (0 : Int) + (i : Int) = (i : Int) := by omega
      rw [e0]
      refine ⟨rfl, _, rfl, _, rfl, Nat.lt_of_le_of_lt (Nat.log2_le_self _) (by omega), _, hDl, lt_size (by rw [ltx_len, List.length_map, List.length_range]; omega), ?_, sm.updNew hD⟩
      rw [upd_same, List.range_succ, List.map_append]
      simp only [ltx, List.map_append, List.map_cons, List.map_nil, nt_S]
    · rintro H1 ⟨hDl, sm⟩
      refine ⟨D, _, rfl, .inl (SqL.of hDl), rfl, ?_, ?_⟩
      · rw [List.all_eq_true]
        intro v hv
        obtain ⟨w, _, rfl⟩ := List.mem_map.mp hv
        rfl
      · rw [if_neg (by decide), inV_st]
        exact k H1 sm
end
end J


set_option Elab.async false
set_option linter.all false
set_option maxRecDepth 100000
set_option maxHeartbeats 4000000
namespace J
open PySem L2
def spIsLine : Sp := fun vs H Q _ => ∃ sg l : List Nat, vs = [.str (SX.S l), .str (SX.S sg)] ∧ l.length ≤ 2000000 ∧ Ch l ∧ ∀ H', Same H H' → Q (.bl (arcOf sg l).isSome) H'
def dueV : Option Nat → V
  | none => .non
  | some n => .int (n : Int)
def spDueP : Sp := fun vs H Q _ => ∃ l : List Nat, vs = [.str (SX.S l)] ∧ l.length ≤ 2000000 ∧ Ch l ∧ ∀ H', Same H H' → Q (dueV (dueL (linesOf l))) H'
theorem dueL_eq (ini : List (List Nat)) (u : List Nat) : dueL (ini ++ [u]) = match ini with
    | [] => some 1
    | h :: r => match sgOf h with
      | none => some 1
      | some sg => match badL sg r 0 with
        | some k => some (k + 2)
        | none => if u = [] ∧ r ≠ [] then none else some (ini.length + 1) := by
  unfold dueL
  rw [List.dropLast_concat, List.getLast?_concat]
  cases ini with
  | nil => rfl
  | cons h r =>
    dsimp only
    cases sgOf h with
    | none => rfl
    | some sg =>
      dsimp only
      cases badL sg r 0 with
      | some k => rfl
      | none => simp
theorem eq_emptyS {K : PySem.W.Frag} {H : Hp} {a b : Addr} {u : List Nat} {Q : VK} (hu : Ch u) (ha : H a = some (.lst (ltx (sgn1 u)))) (hb : H b = some (.lst [])) (q : Q (.bl (decide (u = []))) H) : rEqD K (.ref a) (.ref b) H Q := by
  refine ⟨_, _, .lst (SqL.of ha) (dp_txts _), .lst (SqL.of hb) .nil, shaped_txts (sgn1_ch hu), rfl, ?_⟩
  have e6 : PyData.eqv (.list (txtD (sgn1 u))) (.list []) = decide (u = []) := by
    show PyData.eqvAll (txtD (sgn1 u)) (txtD []) = _
    rw [eqv_txts]
    simp [sgn1]
  rw [e6]
  exact q
section
variable {P : Program} {w : World} {K : PySem.W.Frag} {mg : Str → Option Value} {base : Heap}
theorem ok_l_is_line (T : Tx K mg) : FnOk P w K mg base CX0 2 T.f_l_is_line T.fd_l_is_line P_l_is_line spIsLine := by
  have G_l_is_state : FnOk P w K mg base CX0 1 T.f_l_is_state T.fd_l_is_state P_l_is_state spIsState := ok_l_is_state T
  refine T.F_l_is_line.ok sc_l_is_line (fun vs H Q E h => ?_) (fun cdv A outer s H vs Q E hr h => ?_)
  · obtain ⟨sg, l, rfl, _⟩ := h
    rfl
  · obtain ⟨sg, l, rfl, hl, hch, k⟩ := h
    refine ⟨_, (pss_cons (ps_set (i := 2) sc_l_is_line.nd rfl (Or.inl rfl) (pe_bm PySem.F.plainAttrs_str PySem.F.slot_str_split PySem.F.type_str_split mt_split (pv 0) (pa_cons pe_str pa_nil)))
        (pss_cons (ps_if (PW.pt (pw_or (pt_cmpR op_ne (pe_callB (call_len_seqK (K := K) rfl) rfl T.n_len (by decide +kernel) (pa_cons (pv 2) pa_nil)) pe_int (nomark _)) (pw_or (pt_cmpR op_ne (pe_ix (ix_listK (K := K) rfl) (pv 2) pe_int (fun _ _ => rfl)) pe_str (nomark _)) (pw_or (pt_not (pt_val (pe_call G_l_is_state (hr.mono (by decide)) rfl T.m_l_is_state T.F_l_is_state.kp T.b_l_is_state .nil pass0 (pa_cons (pe_ix (ix_listK (K := K) rfl) (pv 2) pe_int (fun _ _ => rfl)) pa_nil)))) (pw_or1 (pt_not (pt_val (pe_call G_l_is_state (hr.mono (by decide)) rfl T.m_l_is_state T.F_l_is_state.kp T.b_l_is_state .nil pass0 (pa_cons (pe_ix (ix_listK (K := K) rfl) (pv 2) pe_int (fun _ _ => rfl)) pa_nil))))))))) (pss_one (ps_ret pe_bl)) pss_nil)
        (pss_one (ps_ret (pe_and (pe_chain op_le op_le pe_int (pe_callB call_len_str rfl T.n_len (by decide +kernel) (pa_cons (pe_ix (ix_listK (K := K) rfl) (pv 2) pe_int (fun _ _ => rfl)) pa_nil)) pe_int) (pe_one (pe_cmpR (op_eqD hr.units) (pe_lc (own := [("_law_sign", 3)]) (g := (gName 3)) rfl sc_l_is_line.nd (pi_str (pe_ix (ix_listK (K := K) rfl) (pv 2) pe_int (fun _ _ => rfl))) (blkOk_by (N := N_l_is_line) (sc := defScope s_l_is_line) (by decide +kernel)) (fun _ _ _ _ _ => (pg_name (i := 3) sc_l_is_line.nd rfl (Or.inl rfl))) (fun _ _ _ _ _ => (pts_one (pt_cmpR op_notIn_sign (pv 3) (pv 1) rfl))) (fun _ _ _ _ _ => (pv 3))) (pe_lst pa_nil) (nomark _)))))))), ?_⟩
    refine ⟨_, rfl, rfl, _, _, rfl, rfl, rfl, le_sizeM (by rw [SX.S_len]; omega), fun q hq => ?_⟩
    have e0 : Txt.split (SX.S l) (Str.ofString " ") = (partsOf l).map SX.S := split_at (c := 32) (by decide)
    rw [e0, ← ltx_str]
    have sm : Same H (upd H q (.lst (ltx (partsOf l)))) := Same.new _ hq
    have gq : upd H q (.lst (ltx (partsOf l))) q = some (.lst (ltx (partsOf l))) := upd_same
    generalize upd H q (.lst (ltx (partsOf l))) = H1 at *
    have no : arcOf sg l = none → ∀ H', Same H H' → Q (.bl false) H' := fun e H' s' => by
      have z := k H' s'
      rw [e] at z
      exact z
    by_cases h4 : (partsOf l).length = 4
    case neg =>
      refine ⟨_, rfl, q, _, rfl, .inl (SqL.of gq), rfl, true, congrArg V.bl (dne_t (fun y => h4 ?_)), iteT (no (arcOf_ne h4) H1 sm)⟩
      injection y with y
      rw [ltx_len] at y
      omega
    obtain ⟨a, b, c, d', e⟩ := four_of h4
    have hae := arcOf_four (sg := sg) e
    have hc := part_len (l := l) (u := c) (by rw [e]; simp)
    have hcc : Ch c := parts_ch hch c (by rw [e]; simp)
    rw [e] at gq
    refine ⟨_, rfl, q, _, rfl, .inl (SqL.of gq), rfl, false, rfl, ?_⟩
    by_cases ha : a = [97, 114, 99]
    case neg =>
      refine ⟨_, rfl, q, _, _, _, rfl, rfl, SqL.of gq, rfl, rfl, true, congrArg V.bl (dne_t (fun y => ha ?_)), iteT (no (by rw [hae, if_neg (fun z => ha z.1)]) H1 sm)⟩
      injection y with y
      exact SX.S_inj y
    refine ⟨_, rfl, q, _, _, _, rfl, rfl, SqL.of gq, rfl, rfl, false, congrArg V.bl (dne (by rw [ha]; rfl)), ?_⟩
    refine ⟨_, rfl, q, _, _, _, rfl, rfl, SqL.of gq, rfl, b, rfl, fun H2 s2 => ⟨_, rfl, ?_⟩⟩
    have gq2 := s2 _ _ gq
    cases eb : (stOf b).isSome with
    | false => exact no (by rw [hae, if_neg (fun z => by rw [eb] at z; exact Bool.noConfusion z.2.1)]) H2 (sm.trans s2)
    | true =>
      refine ⟨_, rfl, q, _, _, _, rfl, rfl, SqL.of gq2, rfl, d', rfl, fun H3 s3 => ⟨_, rfl, ?_⟩⟩
      have gq3 := s3 _ _ gq2
      have s03 := (sm.trans s2).trans s3
      cases ed : (stOf d').isSome with
      | false => exact no (by rw [hae, if_neg (fun z => by rw [ed] at z; exact Bool.noConfusion z.2.2.1)]) H3 s03
      | true =>
        have hw : (arcOf sg l).isSome = wdB sg c 1 12 := by
          rw [hae]
          cases ew : wdB sg c 1 12 with
          | true => rw [if_pos ⟨ha, eb, ed, rfl⟩]; rfl
          | false => rw [if_neg (fun z => Bool.noConfusion z.2.2.2)]; rfl
        rw [hw] at k
        unfold wdB at k
        have hlc : (SX.S c).length ≤ sizeLine := le_sizeM (by rw [SX.S_len]; omega)
        have el : ((SX.S c).length : Int) = c.length := by rw [SX.S_len]
        refine ⟨_, rfl, q, _, _, _, rfl, rfl, SqL.of gq3, rfl, _, rfl, hlc, _, _, rfl, rfl, _, rfl, ?_⟩
        refine ite2 (fun c1 => ?_) (fun c1 => ?_)
        rotate_left
        · have z := k H3 s03
          rw [decide_eq_false (fun q => c1 (decide_eq_true (by rw [el]; exact_mod_cast q)) : ¬ (1 : Int) ≤ (c.length : Int)), Bool.false_and] at z
          exact ⟨false, rfl, z⟩
        have d1 := of_decide_eq_true c1
        rw [el] at d1
        refine ⟨_, _, rfl, rfl, _, rfl, ?_⟩
        by_cases d2 : ((SX.S c).length : Int) ≤ 12
        case neg =>
          rw [decide_eq_false d2]
          have z := k H3 s03
          rw [el] at d2
          rw [decide_eq_false d2, Bool.false_and, Bool.and_false] at z
          exact z
        rw [decide_eq_true d2]
        rw [el] at d2
        rw [decide_eq_true d1, decide_eq_true d2, Bool.true_and, Bool.true_and] at k
        refine ⟨_, rfl, q, _, _, _, rfl, rfl, SqL.of gq3, rfl, _, rfl, fun D hD => lc_it (walk_str (z := SX.S c)) (fun i H' => H' D = some (.lst (ltx (sgn1 ((c.take i).filter fun x => !decide (x ∈ sg))))) ∧ Same H3 H') ⟨upd_same, Same.new _ hD⟩ (fun _ _ _ _ => trivial) ?_ ?_⟩
        · rintro i x H4 H5 hi ⟨hDl, sm4⟩ ⟨rfl, y, hy, rfl⟩
          have hcu : c[i]? = some y := by simpa using hy
          refine ⟨rfl, _, rfl, _, rfl, y, _, rfl, rfl, _, rfl, ?_⟩
          show if (!decide (y ∈ sg)) = true then _ else _
          cases ey : decide (y ∈ sg) with
          | true =>
            refine iteF ⟨?_, sm4⟩
            rw [hDl, ← take_snoc hcu, List.filter_append]
            have := of_decide_eq_true ey
            simp [this]
          | false =>
            refine iteT ⟨_, rfl, _, hDl, lt_size (by rw [ltx_len, sgn1, List.length_map]; have := List.length_filter_le (fun x => !decide (x ∈ sg)) (c.take i); rw [List.length_take] at this; omega), ?_, sm4.updNew hD⟩
            rw [upd_same, ← take_snoc hcu, List.filter_append]
            have := of_decide_eq_false ey
            simp [this, ltx, sgn1]
        · rintro H4 ⟨hDl, sm4⟩
          have sz : (SX.S c).cps.size = c.length := by simp
          rw [sz, List.take_length] at hDl
          refine ⟨Nat.zero_le _, fun b2 hb2 => ?_⟩
          have s5 : Same H4 (upd H4 b2 (.lst [])) := Same.new _ hb2
          refine eq_emptyS (hcc.sub fun x hx => (List.mem_filter.mp hx).1) (s5 _ _ hDl) upd_same ?_
          have e9 : decide ((c.filter fun x => !decide (x ∈ sg)) = []) = c.all fun x => decide (x ∈ sg) := by
            rw [Bool.eq_iff_iff]
            simp
          rw [e9]
          exact k _ ((s03.trans sm4).trans s5)
theorem ok_l_due (T : Tx K mg) : FnOk P w K mg base CX0 3 T.f_l_due T.fd_l_due P_l_due spDueP := by
  have G_l_are_signs : FnOk P w K mg base CX0 1 T.f_l_are_signs T.fd_l_are_signs P_l_are_signs spAreSigns := ok_l_are_signs T
  have G_l_is_line : FnOk P w K mg base CX0 2 T.f_l_is_line T.fd_l_is_line P_l_is_line spIsLine := ok_l_is_line T
  refine T.F_l_due.ok sc_l_due (fun vs H Q E h => ?_) (fun cdv A outer s H vs Q E hr h => ?_)
  · obtain ⟨l, rfl, _⟩ := h
    rfl
  · obtain ⟨l, rfl, hl, hch, k⟩ := h
    refine ⟨_, (pss_cons (ps_set (i := 1) sc_l_due.nd rfl (Or.inl rfl) (pe_bm PySem.F.plainAttrs_str PySem.F.slot_str_split PySem.F.type_str_split mt_split (pv 0) (pa_cons pe_str pa_nil)))
        (pss_cons (ps_set (i := 2) sc_l_due.nd rfl (Or.inl rfl) (pe_bm PySem.F.plainAttrs_str PySem.F.slot_str_split PySem.F.type_str_split mt_split (pe_ix (ix_listK (K := K) rfl) (pv 1) pe_int (fun _ _ => rfl)) (pa_cons pe_str pa_nil)))
        (pss_cons (ps_if (PW.pt (pw_or (pt_cmpR op_eq (pe_callB (call_len_seqK (K := K) rfl) rfl T.n_len (by decide +kernel) (pa_cons (pv 1) pa_nil)) pe_int (nomark _)) (pw_or (pt_cmpR op_ne (pe_callB (call_len_seqK (K := K) rfl) rfl T.n_len (by decide +kernel) (pa_cons (pv 2) pa_nil)) pe_int (nomark _)) (pw_or (pt_cmpR op_ne (pe_ix (ix_listK (K := K) rfl) (pv 2) pe_int (fun _ _ => rfl)) pe_str (nomark _)) (pw_or1 (pt_not (pt_val (pe_call G_l_are_signs (hr.mono (by decide)) rfl T.m_l_are_signs T.F_l_are_signs.kp T.b_l_are_signs .nil pass0 (pa_cons (pe_ix (ix_listK (K := K) rfl) (pv 2) pe_int (fun _ _ => rfl)) pa_nil))))))))) (pss_one (ps_ret pe_int)) pss_nil)
        (pss_cons (ps_for PassesOwn.never rfl (pi_range2 rfl T.n_range (pa_cons pe_int (pa_cons (pe_op op_sub (pe_callB (call_len_seqK (K := K) rfl) rfl T.n_len (by decide +kernel) (pa_cons (pv 1) pa_nil)) pe_int) pa_nil))) (pg_name (i := 3) sc_l_due.nd rfl (Or.inl rfl)) (pss_one (ps_if (PW.pt (pw_or (pt_cmpR op_gt (pv 3) pe_int (nomark _)) (pw_or1 (pt_not (pt_val (pe_call G_l_is_line (hr.mono (by decide)) rfl T.m_l_is_line T.F_l_is_line.kp T.b_l_is_line .nil pass0 (pa_cons (pe_ix (ix_listK (K := K) rfl) (pv 1) (pv 3) (fun _ _ => rfl)) (pa_cons (pe_ix (ix_listK (K := K) rfl) (pv 2) pe_int (fun _ _ => rfl)) pa_nil)))))))) (pss_one (ps_ret (pe_op op_add (pv 3) pe_int))) pss_nil)))
        (pss_cons (ps_if (PW.pt (pw_or (pt_cmpR op_ne (pe_ix (ix_listK (K := K) rfl) (pv 1) (pe_un un_neg pe_int) (fun _ _ => rfl)) pe_str (nomark _)) (pw_or1 (pt_cmpR op_eq (pe_callB (call_len_seqK (K := K) rfl) rfl T.n_len (by decide +kernel) (pa_cons (pv 1) pa_nil)) pe_int (nomark _))))) (pss_one (ps_ret (pe_callB (call_len_seqK (K := K) rfl) rfl T.n_len (by decide +kernel) (pa_cons (pv 1) pa_nil)))) pss_nil)
        (pss_one (ps_ret pe_non))))))), ?_⟩
    refine ⟨_, rfl, rfl, _, _, rfl, rfl, rfl, le_sizeM (by rw [SX.S_len]; omega), fun q hq => ?_⟩
    have e0 : Txt.split (SX.S l) (Str.ofString "\n") = (linesOf l).map SX.S := split_at (c := 10) (by decide)
    rw [e0, ← ltx_str]
    have hln := lines_len l
    have hne := lines_ne l
    have hlm : ∀ u ∈ linesOf l, u.length ≤ 2000000 := fun u hu => Nat.le_trans (line_len hu) hl
    have hlc := lines_ch hch
    clear e0
    generalize linesOf l = ls at *
    have sm : Same H (upd H q (.lst (ltx ls))) := Same.new _ hq
    have gq : upd H q (.lst (ltx ls)) q = some (.lst (ltx ls)) := upd_same
    generalize upd H q (.lst (ltx ls)) = H1 at *
    obtain ⟨ini, u, rfl⟩ : ∃ ini u, ls = ini ++ [u] := ⟨ls.dropLast, ls.getLast hne, (List.dropLast_concat_getLast hne).symm⟩
    rw [dueL_eq] at k
    obtain ⟨h0, rs, hrs⟩ : ∃ h0 rs, ini ++ [u] = h0 :: rs := by
      cases ini with
      | nil => exact ⟨u, [], rfl⟩
      | cons a r => exact ⟨a, r ++ [u], rfl⟩
    have g0 : atI (ltx (ini ++ [u])) 0 = some (.str (SX.S h0)) := by
      rw [hrs]
      exact atI_nat (xs := ltx (h0 :: rs)) (j := 0) rfl
    have h0l := hlm h0 (by rw [hrs]; simp)
    have h0c := hlc h0 (by rw [hrs]; simp)
    refine ⟨_, rfl, q, _, _, _, rfl, rfl, SqL.of gq, g0, rfl, _, _, rfl, rfl, rfl, le_sizeM (by rw [SX.S_len]; omega), fun q2 hq2 => ?_⟩
    have e1 : Txt.split (SX.S h0) (Str.ofString " ") = (partsOf h0).map SX.S := split_at (c := 32) (by decide)
    rw [e1, ← ltx_str]
    have s2 : Same H1 (upd H1 q2 (.lst (ltx (partsOf h0)))) := Same.new _ hq2
    have gq2 : upd H1 q2 (.lst (ltx (partsOf h0))) q2 = some (.lst (ltx (partsOf h0))) := upd_same
    replace gq := s2 _ _ gq
    replace sm := sm.trans s2
    generalize upd H1 q2 (.lst (ltx (partsOf h0))) = H2 at *
    have one : sgOf h0 = none ∨ ini = [] → ∀ H', Same H H' → Q (.int 1) H' := fun z H' s' => by
      have kk := k H' s'
      cases ini with
      | nil => exact kk
      | cons a r =>
        have : a = h0 := by injection hrs
        subst this
        rcases z with z | z
        · dsimp only at kk
          rw [z] at kk
          exact kk
        · cases z
    have ll : (ltx (ini ++ [u])).length = ini.length + 1 := by rw [ltx_len, List.length_append]; rfl
    refine ⟨_, rfl, q, _, rfl, .inl (SqL.of gq), rfl, _, rfl, ?_⟩
    refine ite2 (fun c1 => ?_) (fun c1 => ?_)
    · refine one (.inr ?_) H2 sm
      have z := of_decide_eq_true c1
      injection z with z
      rw [ll] at z
      exact List.eq_nil_of_length_eq_zero (by omega)
    by_cases h2 : (partsOf h0).length = 2
    case neg =>
      refine ⟨_, rfl, q2, _, rfl, .inl (SqL.of gq2), rfl, true, congrArg V.bl (dne_t (fun y => h2 ?_)), iteT (one (.inl (sgOf_ne h2)) H2 sm)⟩
      injection y with y
      rw [ltx_len] at y
      omega
    obtain ⟨a, b, e⟩ := two_of h2
    have hse := sgOf_two e
    have hb := part_len (l := h0) (u := b) (by rw [e]; simp)
    have hbc : Ch b := parts_ch h0c b (by rw [e]; simp)
    rw [e] at gq2
    refine ⟨_, rfl, q2, _, rfl, .inl (SqL.of gq2), rfl, false, rfl, ?_⟩
    by_cases ha : a = [115, 105, 103, 110, 115]
    case neg =>
      refine ⟨_, rfl, q2, _, _, _, rfl, rfl, SqL.of gq2, rfl, rfl, true, congrArg V.bl (dne_t (fun y => ha ?_)), iteT (one (.inl (by rw [hse, if_neg (fun z => ha z.1)])) H2 sm)⟩
      injection y with y
      exact SX.S_inj y
    refine ⟨_, rfl, q2, _, _, _, rfl, rfl, SqL.of gq2, rfl, rfl, false, congrArg V.bl (dne (by rw [ha]; rfl)), ?_⟩
    refine ⟨_, rfl, q2, _, _, _, rfl, rfl, SqL.of gq2, rfl, b, rfl, by omega, hbc, fun H3 s3 => ⟨_, rfl, ?_⟩⟩
    replace sm := sm.trans s3
    replace gq := s3 _ _ gq
    replace gq2 := s3 _ _ gq2
    cases es : sgB b with
    | false => exact one (.inl (by rw [hse, if_neg (fun z => by rw [es] at z; exact Bool.noConfusion z.2)])) H3 sm
    | true =>
      have hsg : sgOf h0 = some b := by rw [hse, if_pos ⟨ha, es⟩]
      cases ini with
      | nil => exact absurd (decide_eq_true rfl) c1
      | cons h0' r =>
        obtain rfl : h0' = h0 := by injection hrs
        dsimp only at k
        rw [hsg] at k
        dsimp only at k
        have rl : (ltx ((h0' :: r) ++ [u])).length = r.length + 2 := by rw [ltx_len]; simp
        refine ⟨_, rfl, q, _, rfl, .inl (SqL.of gq), _, _, rfl, rfl, _, _, rfl, ⟨by decide, by decide, by rw [rl]; omega, by rw [rl]; simp at hln; omega⟩, for_range (lo := 1) (n := (((ltx ((h0' :: r) ++ [u])).length : Int) - 1 - 1).toNat) (fun i σ H' => ∃ v3 : Option V, σ = [some (.str (SX.S l)), some (.ref q), some (.ref q2), v3] ∧ badL b r 0 = badL b (r.drop i) i ∧ i ≤ 200 ∧ Same H3 H') ?_ ?_ ?_⟩
        · exact ⟨none, rfl, rfl, Nat.zero_le _, fun _ _ z => z⟩
        · rintro i σ H4 hi ⟨v3, rfl, hbd, hi2, s4⟩
          rw [rl] at hi
          have hir : i < r.length := by omega
          have hm : r[i]? = some r[i] := List.getElem?_eq_getElem hir
          rw [badL_drop hm] at hbd
          have hat : atI (ltx ((h0' :: r) ++ [u])) (1 + (i : Int)) = some (.str (SX.S r[i])) := by
            rw [show (1 : Int) + (i : Int) = ((i + 1 : Nat) : Int) by omega]
            refine atI_nat ?_
            rw [ltx, List.getElem?_map, List.getElem?_append_left (by simp; omega), List.getElem?_cons_succ, hm]
            rfl
          have hml := hlm r[i] (by simp)
          have hmc := hlc r[i] (by simp)
          generalize r[i] = m at *
          have stop : ¬ ((arcOf b m).isSome = true ∧ i ≠ 200) → ∀ H', Same H H' → Q (.int ((1 : Int) + (i : Int) + 1)) H' := fun hb H' hs => by
            have z := k H' hs
            rw [hbd, if_neg hb] at z
            have e5 : (1 : Int) + (i : Int) + 1 = ((i + 2 : Nat) : Int) := by omega
            rw [e5]
            exact z
          refine ⟨_, rfl, _, _, rfl, rfl, _, rfl, ?_⟩
          refine ite2 (fun c5 => ?_) (fun c5 => ?_)
          · have z5 := of_decide_eq_true c5
            exact ⟨_, rfl, _, _, rfl, rfl, stop (fun z => z.2 (by omega)) H4 (sm.trans s4)⟩
          · refine ⟨_, rfl, _, rfl, q, _, _, _, rfl, rfl, SqL.of (s4 _ _ gq), hat, _, rfl, q2, _, _, _, rfl, rfl, SqL.of (s4 _ _ gq2), rfl, b, m, rfl, hml, hmc, fun H5 s5 => ⟨_, rfl, ?_⟩⟩
            cases ea : (arcOf b m).isSome with
            | false => exact ⟨_, rfl, _, _, rfl, rfl, stop (fun z => by rw [ea] at z; exact Bool.noConfusion z.1) H5 ((sm.trans s4).trans s5)⟩
            | true =>
              have ci : i ≠ 200 := fun z => c5 (decide_eq_true (by omega))
              rw [if_pos ⟨ea, ci⟩] at hbd
              exact ⟨_, rfl, hbd, by omega, s4.trans s5⟩
        · rintro σ H4 ⟨v3, rfl, hbd, hi2, s4⟩
          have nr : (((ltx ((h0' :: r) ++ [u])).length : Int) - 1 - 1).toNat = r.length := by rw [rl]; omega
          rw [nr, List.drop_length] at hbd
          have hbn : badL b r 0 = none := hbd
          rw [hbn] at k
          dsimp only at k
          have gq4 := s4 _ _ gq
          have sm4 := sm.trans s4
          have hlast : atI (ltx ((h0' :: r) ++ [u])) (-1) = some (.str (SX.S u)) := by
            rw [ltx, List.map_append]
            exact atI_last _ _
          have stop : ¬ (u = [] ∧ r ≠ []) → Q (.int ((ltx ((h0' :: r) ++ [u])).length : Int)) H4 := fun hb => by
            have z := k H4 sm4
            rw [if_neg hb] at z
            rw [rl]
            exact z
          refine ⟨_, rfl, _, rfl, q, _, _, _, rfl, rfl, SqL.of gq4, hlast, rfl, _, rfl, ?_⟩
          refine ite2 (fun c6 => ?_) (fun c6 => ?_)
          · refine ⟨_, rfl, q, _, rfl, .inl (SqL.of gq4), stop (fun z => ?_)⟩
            rw [z.1] at c6
            exact absurd c6 (by decide)
          · have cu : u = [] := by
              by_cases z : u = []
              · exact z
              · exact absurd (dne_t (fun y => z (by injection y with y; exact SX.S_inj y))) c6
            refine ⟨_, rfl, q, _, rfl, .inl (SqL.of gq4), rfl, _, rfl, ?_⟩
            refine ite2 (fun c7 => ?_) (fun c7 => ?_)
            · have cr : r = [] := by
                have z := of_decide_eq_true c7
                injection z with z
                rw [rl] at z
                exact List.eq_nil_of_length_eq_zero (by omega)
              exact ⟨_, rfl, q, _, rfl, .inl (SqL.of gq4), stop (fun z => z.2 cr)⟩
            · have cr : r ≠ [] := fun z => c7 (decide_eq_true (by rw [rl, z]; rfl))
              have z := k H4 sm4
              rw [if_pos ⟨cu, cr⟩] at z
              exact z
end
end J


set_option Elab.async false
set_option linter.all false
set_option maxRecDepth 100000
set_option maxHeartbeats 4000000
namespace J
open PySem L2
theorem cutS_S (x : List Nat) (lo hi : Option Int) : ∃ u : List Nat, cutS (SX.S x) lo hi = SX.S u ∧ u.length ≤ x.length ∧ ∀ c ∈ u, c ∈ x := by
  refine ⟨(x.drop (HT.sIx (SX.S x).length 0 lo)).take (HT.sIx (SX.S x).length (SX.S x).length hi - HT.sIx (SX.S x).length 0 lo), rfl, ?_, fun c hc => List.mem_of_mem_drop (List.mem_of_mem_take hc)⟩
  rw [List.length_take, List.length_drop]
  omega
/-- the weight of lines: their signs, and one for each -/
def Wt (ls : List (List Nat)) : Nat := (ls.map fun u => u.length + 1).sum
theorem Wt_app (a b : List (List Nat)) : Wt (a ++ b) = Wt a + Wt b := by simp [Wt]
theorem Wt_cons (a : List Nat) (b : List (List Nat)) : Wt (a :: b) = a.length + 1 + Wt b := by simp [Wt]
theorem Wt_len (a : List (List Nat)) : a.length ≤ Wt a := by
  induction a with
  | nil => simp
  | cons x r ih => rw [Wt_cons, List.length_cons]; omega
theorem Wt_take (a : List (List Nat)) (n : Nat) : Wt (a.take n) ≤ Wt a := by
  have := Wt_app (a.take n) (a.drop n)
  rw [List.take_append_drop] at this
  omega
theorem Wt_drop (a : List (List Nat)) (n : Nat) : Wt (a.drop n) ≤ Wt a := by
  have := Wt_app (a.take n) (a.drop n)
  rw [List.take_append_drop] at this
  omega
theorem Wt_rep (a : List (List Nat)) : ∀ n, Wt (List.replicate n a).flatten = n * Wt a
  | 0 => by simp [Wt]
  | n + 1 => by rw [List.replicate_succ, List.flatten_cons, Wt_app, Wt_rep a n, Nat.add_mul]; omega
theorem joinL_wt : ∀ ys : List (List Nat), (TL.joinL [10] ys).length ≤ Wt ys ∧ (ys ≠ [] → (TL.joinL [10] ys).length + 1 = Wt ys)
  | [] => ⟨by simp [TL.joinL, Wt], fun h => absurd rfl h⟩
  | [a] => by
    have : Wt [a] = a.length + 1 := by simp [Wt]
    rw [this]
    exact ⟨Nat.le_succ _, fun _ => rfl⟩
  | a :: b :: r => by
    have h := (joinL_wt (b :: r)).2 (by simp)
    have e : (TL.joinL [10] (a :: b :: r)).length = a.length + (1 + (TL.joinL [10] (b :: r)).length) := by
      show (a ++ ([10] ++ TL.joinL [10] (b :: r))).length = _
      simp only [List.length_append, List.length_cons, List.length_nil]
    rw [Wt_cons, e]
    exact ⟨by omega, fun _ => by omega⟩
theorem joinL_ch : ∀ ys : List (List Nat), (∀ u ∈ ys, Ch u) → Ch (TL.joinL [10] ys)
  | [], _ => fun c hc => nomatch hc
  | [a], h => h a (by simp)
  | a :: b :: r, h => by
    show Ch (a ++ ([10] ++ TL.joinL [10] (b :: r)))
    exact (h a (by simp)).app (Ch.app (by decide) (joinL_ch (b :: r) fun u hu => h u (by simp [hu])))
theorem lines_wt (l : List Nat) : Wt (linesOf l) = l.length + 1 := by
  have h := (joinL_wt (linesOf l)).2 (lines_ne l)
  have j : TL.joinL [10] (linesOf l) = l := join_spl 10 (by decide) l
  rw [j] at h
  exact h.symm
theorem cut_sub (ls : List (List Nat)) (lo hi : Option Int) : ∃ ms, cutV (ltx ls) lo hi = ltx ms ∧ Wt ms ≤ Wt ls ∧ ∀ u ∈ ms, u ∈ ls := by
  unfold cutV ltx
  refine ⟨(ls.drop (HT.sIx (ls.map fun l => V.str (SX.S l)).length 0 lo)).take (HT.sIx (ls.map fun l => V.str (SX.S l)).length (ls.map fun l => V.str (SX.S l)).length hi - HT.sIx (ls.map fun l => V.str (SX.S l)).length 0 lo), by rw [List.map_take, List.map_drop], Nat.le_trans (Wt_take _ _) (Wt_drop _ _), fun u hu => List.mem_of_mem_drop (List.mem_of_mem_take hu)⟩
theorem ltx_rep (n : Nat) (ls : List (List Nat)) : (List.replicate n (ltx ls)).flatten = ltx (List.replicate n ls).flatten := by
  simp [ltx, List.map_flatten]
theorem ltx_app (a b : List (List Nat)) : ltx a ++ ltx b = ltx (a ++ b) := by simp [ltx]
theorem rep_memL {α : Type} {n : Nat} {l : List α} {x : α} (h : x ∈ (List.replicate n l).flatten) : x ∈ l := by
  obtain ⟨m, hm, hx⟩ := List.mem_flatten.mp h
  rw [(List.mem_replicate.mp hm).2] at hx
  exact hx
/-- what is asked of a join of lines -/
theorem join_ok {K : PySem.W.Frag} {H : Hp} {D : Addr} {ys : List (List Nat)} {Q : VK} (h : H D = some (.lst (ltx ys))) (hw : Wt ys ≤ 3000000) (k : Q (.str (SX.S (TL.joinL [10] ys))) H) :
    ∃ a p, ∃ zs : List Str, V.str (Str.ofString "\n") = .str a ∧ [V.ref D] = [.ref p] ∧ (SqL K H p (zs.map V.str) ∨ SqT K H p (zs.map V.str)) ∧ (zs.map (·.length)).sum + zs.length * a.length ≤ 16777216 ∧ Q (.str (Txt.join a zs)) H := by
  rw [ltx_str] at h
  refine ⟨_, _, ys.map SX.S, rfl, rfl, .inl (SqL.of h), ?_, ?_⟩
  · have e : ∀ zs : List (List Nat), ((zs.map SX.S).map (·.length)).sum + zs.length = Wt zs := fun zs => by
      induction zs with
      | nil => rfl
      | cons a r ih =>
        rw [Wt_cons, ← ih]
        simp only [List.map_cons, List.sum_cons, SX.S_len, List.length_cons]
        omega
    have z : (Str.ofString "\n").length = 1 := rfl
    rw [z, Nat.mul_one, List.length_map, e ys]
    omega
  · have z : Txt.join (Str.ofString "\n") (ys.map SX.S) = SX.S (TL.joinL [10] ys) := SX.join_S [10] ys
    rw [z]
    exact k
/-- texts of a menu -/
def Txs (n : Nat) (vs : List V) : Prop := ∀ v ∈ vs, ∃ l : List Nat, v = .str (SX.S l) ∧ l.length ≤ n ∧ Ch l
theorem Txs.nil (n : Nat) : Txs n [] := fun v hv => nomatch hv
theorem Txs.cons {n : Nat} {l : List Nat} {vs : List V} (h : l.length ≤ n) (hc : Ch l) (r : Txs n vs) : Txs n (.str (SX.S l) :: vs) := fun v hv => by
  rcases List.mem_cons.mp hv with rfl | hv
  · exact ⟨l, rfl, h, hc⟩
  · exact r v hv
def spTold (K : PySem.W.Frag) : Sp := fun vs H Q _ => ∃ x : V, vs = [x] ∧ ((∃ l : List Nat, x = .str (SX.S l) ∧ l.length ≤ 2000000 ∧ ∀ H', Same H H' → Q (dueV (dueL (linesOf l))) H') ∨ (∃ t, TyZ K H x t ∧ PySem.W.kitOne K t (.type "str") = some false ∧ ∀ H', Same H H' → Q (.int 0) H'))
def spSpoil : Sp := fun vs H Q _ => ∃ (p : Addr) (l : List Nat), vs = [.ref p, .str (SX.S l)] ∧ PoolAt H p ∧ l.length ≤ 20000 ∧ Ch l ∧ ∀ H' l', Dr p H H' → l'.length ≤ 71 * (l.length + 10) → Ch l' → Q (.str (SX.S l')) H'
theorem rep_flat_len {α : Type} (n : Nat) (l : List α) : (List.replicate n l).flatten.length = n * l.length := by simp
section
variable {P : Program} {w : World} {K : PySem.W.Frag} {mg : Str → Option Value} {base : Heap}
theorem ok_l_told (T : Tx K mg) : FnOk P w K mg base CX0 7 T.f_l_told T.fd_l_told P_l_told (spTold K) := by
  have G_read_loom : FnOk P w K mg base (L2.CX P w) 6 T.f_read_loom T.fd_read_loom P_read_loom (spReadX K T.C_Loom T.C_InvalidPage) := ok_read_loomX T
  refine T.F_l_told.ok sc_l_told (fun vs H Q E h => ?_) (fun cdv A outer s H vs Q E hr h => ?_)
  · obtain ⟨x, rfl, _⟩ := h
    rfl
  · obtain ⟨x, rfl, h⟩ := h
    have xf : XfC K T.C_InvalidPage := ⟨T.E_InvalidPage.hg, T.E_InvalidPage.hk, T.E_InvalidPage.hs, T.E_InvalidPage.hd⟩
    refine ⟨_, pss_cons (ps_try_cls (Wout := fun _ _ _ _ => False) rfl rfl takes0
      (fun W pn xe tk _ => pss_one (ps_expr (by exact (pe_callS G_read_loom (hr.mono (by decide)) rfl T.m_read_loom T.F_read_loom.kp T.b_read_loom (fun σ => passAt tk σ) (pa_cons (pv 0) pa_nil)))))
      (.named (i := 1) ⟨rfl, by decide, Or.inl T.g_InvalidPage⟩ sc_l_told.nd rfl rfl (fun g oe cls d pn hz hf => pss_one (ps_ret (by exact (pe_xf xf T.nx_InvalidPage_line hz hf (pv 1))))) .nil)) (pss_one (ps_ret pe_non)), ?_⟩
    rcases h with ⟨l, rfl, hl, k⟩ | ⟨t, ht, hk, k⟩
    · refine ⟨_, rfl, _, rfl, .inl ⟨l, rfl, hl, ?_⟩⟩
      cases ed : dueL (linesOf l) with
      | none =>
        rw [ed] at k
        exact .inl ⟨rfl, fun sg as H' q us _ _ _ s' _ _ => k H' s'⟩
      | some n =>
        rw [ed] at k
        refine .inr ⟨n, rfl, fun H1 e s1 he => ?_⟩
        refine ⟨true, exm_own T.E_InvalidPage.hs T.cl_InvalidPage T.ty_InvalidPage T.ss_InvalidPage, fun _ g hg => ?_, fun e => Bool.noConfusion e⟩
        exact ⟨_, rfl, rfl, rfl, e, _, _, rfl, he, rfl, k H1 s1⟩
    · refine ⟨_, rfl, _, rfl, .inr ⟨t, ht, hk, fun H1 e s1 he => ?_⟩⟩
      refine ⟨true, exm_own T.E_InvalidPage.hs T.cl_InvalidPage T.ty_InvalidPage T.ss_InvalidPage, fun _ g hg => ?_, fun e => Bool.noConfusion e⟩
      exact ⟨_, rfl, rfl, rfl, e, _, _, rfl, he, rfl, k H1 s1⟩
theorem ok_l_spoiled (T : Tx K mg) : FnOk P w K mg base CX0 3 T.f_l_spoiled T.fd_l_spoiled P_l_spoiled spSpoil := by
  have G_l_draw : FnOk P w K mg base CX0 1 T.f_l_draw T.fd_l_draw P_l_draw spDraw := ok_l_draw T
  have G_l_pick : FnOk P w K mg base CX0 2 T.f_l_pick T.fd_l_pick P_l_pick spPick := ok_l_pick T
  refine T.F_l_spoiled.ok sc_l_spoiled (fun vs H Q E h => ?_) (fun cdv A outer s H vs Q E hr h => ?_)
  · obtain ⟨p, l, rfl, _⟩ := h
    rfl
  · obtain ⟨p, l, rfl, hst, hl, hch, k⟩ := h
    refine ⟨_, (pss_cons (ps_set (i := 2) sc_l_spoiled.nd rfl (Or.inl rfl) (pe_call G_l_draw (hr.mono (by decide)) rfl T.m_l_draw T.F_l_draw.kp T.b_l_draw .nil pass0 (pa_cons (pv 0) (pa_cons (pe_op op_add (pe_callB call_len_str rfl T.n_len (by decide +kernel) (pa_cons (pv 1) pa_nil)) pe_int) pa_nil))))
        (pss_cons (ps_set (i := 3) sc_l_spoiled.nd rfl (Or.inl rfl) (pe_call G_l_pick (hr.mono (by decide)) rfl T.m_l_pick T.F_l_pick.kp T.b_l_pick .nil pass0 (pa_cons (pv 0) (pa_cons (pe_lst (pa_cons pe_str (pa_cons pe_str (pa_cons pe_str (pa_cons pe_str (pa_cons pe_str (pa_cons pe_str (pa_cons pe_str (pa_cons pe_str (pa_cons pe_str (pa_cons pe_str (pa_cons pe_str (pa_cons pe_str pa_nil))))))))))))) pa_nil))))
        (pss_cons (ps_set (i := 4) sc_l_spoiled.nd rfl (Or.inl rfl) (pe_bm PySem.F.plainAttrs_str PySem.F.slot_str_split PySem.F.type_str_split mt_split (pv 1) (pa_cons pe_str pa_nil)))
        (pss_cons (ps_set (i := 5) sc_l_spoiled.nd rfl (Or.inl rfl) (pe_call G_l_draw (hr.mono (by decide)) rfl T.m_l_draw T.F_l_draw.kp T.b_l_draw .nil pass0 (pa_cons (pv 0) (pa_cons (pe_callB (call_len_seqK (K := K) rfl) rfl T.n_len (by decide +kernel) (pa_cons (pv 4) pa_nil)) pa_nil))))
        (pss_cons (ps_set (i := 6) sc_l_spoiled.nd rfl (Or.inl rfl) (pe_call G_l_draw (hr.mono (by decide)) rfl T.m_l_draw T.F_l_draw.kp T.b_l_draw .nil pass0 (pa_cons (pv 0) (pa_cons pe_int pa_nil))))
        (pss_cons (ps_if (pt_cmpR op_eq (pv 6) pe_int (nomark _)) (pss_one (ps_ret (pe_op op_add_str (pe_op op_add_str (pe_slice sl_str (pv 1) po_none (po_some (pv 2))) (pv 3)) (pe_slice sl_str (pv 1) (po_some (pv 2)) po_none)))) pss_nil)
        (pss_cons (ps_if (pt_cmpR op_eq (pv 6) pe_int (nomark _)) (pss_one (ps_ret (pe_op op_add_str (pe_slice sl_str (pv 1) po_none (po_some (pv 2))) (pe_slice sl_str (pv 1) (po_some (pe_op op_add (pv 2) pe_int)) po_none)))) pss_nil)
        (pss_cons (ps_if (pt_cmpR op_eq (pv 6) pe_int (nomark _)) (pss_one (ps_ret (pe_op op_add_str (pe_op op_add_str (pe_slice sl_str (pv 1) po_none (po_some (pv 2))) (pv 3)) (pe_slice sl_str (pv 1) (po_some (pe_op op_add (pv 2) pe_int)) po_none)))) pss_nil)
        (pss_cons (ps_if (pt_cmpR op_eq (pv 6) pe_int (nomark _)) (pss_one (ps_ret (pe_join pe_str (pe_op op_cat (pe_slice (sl_listK (K := K) rfl) (pv 4) po_none (po_some (pv 5))) (pe_slice (sl_listK (K := K) rfl) (pv 4) (po_some (pe_op op_add (pv 5) pe_int)) po_none))))) pss_nil)
        (pss_cons (ps_if (pt_cmpR op_eq (pv 6) pe_int (nomark _)) (pss_one (ps_ret (pe_join pe_str (pe_op op_cat (pe_op op_cat (pe_slice (sl_listK (K := K) rfl) (pv 4) po_none (po_some (pv 5))) (pe_lst (pa_cons (pe_ix (ix_listK (K := K) rfl) (pv 4) pe_int (fun _ _ => rfl)) pa_nil))) (pe_slice (sl_listK (K := K) rfl) (pv 4) (po_some (pv 5)) po_none))))) pss_nil)
        (pss_cons (ps_if (pt_cmpR op_eq (pv 6) pe_int (nomark _)) (pss_one (ps_ret (pe_slice sl_str (pv 1) po_none (po_some (pv 2))))) pss_nil)
        (pss_cons (ps_if (pt_cmpR op_eq (pv 6) pe_int (nomark _)) (pss_one (ps_ret (pe_join pe_str (pe_op op_cat (pe_op op_cat (pe_slice (sl_listK (K := K) rfl) (pv 4) po_none (po_some pe_int)) (pe_op op_rep (pe_slice (sl_listK (K := K) rfl) (pv 4) (po_some pe_int) (po_some (pe_un un_neg pe_int))) pe_int)) (pe_lst (pa_cons pe_str pa_nil)))))) pss_nil)
        (pss_cons (ps_if (pt_cmpR op_eq (pv 6) pe_int (nomark _)) (pss_cons (ps_set (i := 7) sc_l_spoiled.nd rfl (Or.inl rfl) (pe_lst (pa_cons pe_str (pa_cons pe_str (pa_cons pe_str (pa_cons pe_str (pa_cons pe_str (pa_cons pe_str (pa_cons pe_str (pa_cons pe_str pa_nil))))))))))
        (pss_cons (ps_set (i := 8) sc_l_spoiled.nd rfl (Or.inl rfl) (pe_call G_l_pick (hr.mono (by decide)) rfl T.m_l_pick T.F_l_pick.kp T.b_l_pick .nil pass0 (pa_cons (pv 0) (pa_cons (pv 7) pa_nil))))
        (pss_one (ps_ret (pe_join pe_str (pe_op op_cat (pe_op op_cat (pe_slice (sl_listK (K := K) rfl) (pv 4) po_none (po_some (pv 5))) (pe_lst (pa_cons (pv 8) pa_nil))) (pe_slice (sl_listK (K := K) rfl) (pv 4) (po_some (pv 5)) po_none))))))) pss_nil)
        (pss_cons (ps_set (i := 7) sc_l_spoiled.nd rfl (Or.inl rfl) (pe_lst (pa_cons pe_str (pa_cons pe_str (pa_cons pe_str (pa_cons pe_str (pa_cons pe_str (pa_cons pe_str (pa_cons pe_str pa_nil)))))))))
        (pss_one (ps_ret (pe_call G_l_pick (hr.mono (by decide)) rfl T.m_l_pick T.F_l_pick.kp T.b_l_pick .nil pass0 (pa_cons (pv 0) (pa_cons (pe_op op_cat (pv 7) (pe_lst (pa_cons (pe_op op_add_str (pv 1) pe_str) pa_nil))) pa_nil))))))))))))))))))), ?_⟩
    have hsl : (SX.S l).length ≤ sizeLine := le_sizeM (by rw [SX.S_len]; omega)
    refine ⟨_, rfl, _, rfl, _, rfl, hsl, _, _, rfl, rfl, p, _, rfl, hst, by rw [SX.S_len]; omega, by rw [SX.S_len]; omega, fun H1 r x1 r0 r1 => ?_⟩
    refine ⟨_, rfl, le_size (by simp), fun b hb => ?_⟩
    have m1 : Txs 2 [V.str " ", .str "\n", .str "a", .str "b", .str "0", .str "1", .str "9", .str "-", .str "A", .str "z", .str "s", .str "."] :=
      .cons (l := [32]) (by decide) (by decide) (.cons (l := [10]) (by decide) (by decide) (.cons (l := [97]) (by decide) (by decide) (.cons (l := [98]) (by decide) (by decide) (.cons (l := [48]) (by decide) (by decide) (.cons (l := [49]) (by decide) (by decide) (.cons (l := [57]) (by decide) (by decide) (.cons (l := [45]) (by decide) (by decide) (.cons (l := [65]) (by decide) (by decide)
        (.cons (l := [122]) (by decide) (by decide) (.cons (l := [115]) (by decide) (by decide) (.cons (l := [46]) (by decide) (by decide) (.nil _))))))))))))
    refine ⟨p, b, _, rfl, x1.2.1.same (Same.new _ hb), x1.2.1.ne hb, upd_same, by simp, by simp, fun H2 v x2 hv => ?_⟩
    obtain ⟨sg, rfl, hs2, hsc⟩ := m1 v hv
    have x12 : Dr p H H2 := (x1.new hb).trans x2
    refine ⟨_, rfl, rfl, _, _, rfl, rfl, rfl, le_sizeM (by rw [SX.S_len]; omega), fun q hq => ?_⟩
    have e0 : Txt.split (SX.S l) (Str.ofString "\n") = (linesOf l).map SX.S := split_at (c := 10) (by decide)
    rw [e0, ← ltx_str]
    have hln := lines_len l
    have hne := lines_ne l
    have hlc := lines_ch hch
    have hwt := lines_wt l
    clear e0
    generalize linesOf l = ls at *
    have x3 : Dr p H (upd H2 q (.lst (ltx ls))) := x12.new hq
    have nq := x12.2.1.ne hq
    have gq : upd H2 q (.lst (ltx ls)) q = some (.lst (ltx ls)) := upd_same
    generalize upd H2 q (.lst (ltx ls)) = H3 at *
    have hlp : 0 < ls.length := List.length_pos_iff.mpr hne
    refine ⟨_, rfl, _, rfl, q, _, rfl, .inl (SqL.of gq), p, _, rfl, x3.2.1, by rw [ltx_len]; omega, by rw [ltx_len]; omega, fun H4 sp x4 sp0 sp1 => ?_⟩
    have gq4 := x4.1 _ _ nq gq
    have x34 := x3.trans x4
    refine ⟨_, rfl, p, 9, rfl, x34.2.1, by decide, by decide, fun H5 kd x5 kd0 kd1 => ?_⟩
    have gq5 := x5.1 _ _ nq gq4
    replace x5 := x34.trans x5
    clear x34 x4 x3 x12 x1 x2 gq gq4 hv m1 hb hq hst
    obtain ⟨u1, e1, l1, c1⟩ := cutS_S l none (some r)
    obtain ⟨u2, e2, l2, c2⟩ := cutS_S l (some r) none
    obtain ⟨u3, e3, l3, c3⟩ := cutS_S l (some (r + 1)) none
    have ch1 := hch.sub c1
    have ch2 := hch.sub c2
    have ch3 := hch.sub c3
    have g0 : ∃ h0, atI (ltx ls) 0 = some (.str (SX.S h0)) ∧ h0 ∈ ls ∧ h0.length + 1 ≤ Wt ls := by
      cases ls with
      | nil => exact absurd rfl hne
      | cons a t => exact ⟨a, atI_nat (xs := ltx (a :: t)) (j := 0) rfl, by simp, by rw [Wt_cons]; omega⟩
    obtain ⟨h0, g0, h0m, h0w⟩ := g0
    obtain ⟨a1, f1, w1, m1⟩ := cut_sub ls none (some sp)
    obtain ⟨a2, f2, w2, m2⟩ := cut_sub ls (some (sp + 1)) none
    obtain ⟨a3, f3, w3, m3⟩ := cut_sub ls (some sp) none
    obtain ⟨a4, f4, w4, m4⟩ := cut_sub ls none (some 1)
    obtain ⟨a5, f5, w5, m5⟩ := cut_sub ls (some 1) (some (-1))
    have hln1 := Wt_len a1
    have hln2 := Wt_len a2
    have hln3 := Wt_len a3
    have hln4 := Wt_len a4
    have hln5 := Wt_len a5
    -- 0
    refine ⟨_, rfl, rfl, _, rfl, ?_⟩
    refine ite2 (fun _ => ?_) (fun _ => ?_)
    · refine ⟨_, rfl, _, rfl, _, rfl, _, rfl, hsl, ?_⟩
      rw [e1]
      refine ⟨_, rfl, _, _, rfl, rfl, le_size (by rw [SX.S_len, SX.S_len]; omega), ?_⟩
      rw [SX.S_cat]
      refine ⟨_, rfl, _, rfl, _, rfl, _, rfl, hsl, ?_⟩
      rw [e2]
      refine ⟨_, _, rfl, rfl, le_size (by rw [SX.S_len, SX.S_len, List.length_append]; omega), ?_⟩
      rw [SX.S_cat]
      exact k H5 _ x5 (by rw [List.length_append, List.length_append]; omega) ((ch1.app hsc).app ch2)
    -- 1
    refine ⟨_, rfl, rfl, _, rfl, ?_⟩
    refine ite2 (fun _ => ?_) (fun _ => ?_)
    · refine ⟨_, rfl, _, rfl, _, rfl, _, rfl, hsl, ?_⟩
      rw [e1]
      refine ⟨_, rfl, _, rfl, _, _, rfl, rfl, _, rfl, _, rfl, hsl, ?_⟩
      rw [e3]
      refine ⟨_, _, rfl, rfl, le_size (by rw [SX.S_len, SX.S_len]; omega), ?_⟩
      rw [SX.S_cat]
      exact k H5 _ x5 (by rw [List.length_append]; omega) (ch1.app ch3)
    -- 2
    refine ⟨_, rfl, rfl, _, rfl, ?_⟩
    refine ite2 (fun _ => ?_) (fun _ => ?_)
    · refine ⟨_, rfl, _, rfl, _, rfl, _, rfl, hsl, ?_⟩
      rw [e1]
      refine ⟨_, rfl, _, _, rfl, rfl, le_size (by rw [SX.S_len, SX.S_len]; omega), ?_⟩
      rw [SX.S_cat]
      refine ⟨_, rfl, _, rfl, _, _, rfl, rfl, _, rfl, _, rfl, hsl, ?_⟩
      rw [e3]
      refine ⟨_, _, rfl, rfl, le_size (by rw [SX.S_len, SX.S_len, List.length_append]; omega), ?_⟩
      rw [SX.S_cat]
      exact k H5 _ x5 (by rw [List.length_append, List.length_append]; omega) ((ch1.app hsc).app ch3)
    -- 3
    have jn : ∀ {H' : Hp} {D : Addr} {ys : List (List Nat)}, Same H5 H' → H' D = some (.lst (ltx ys)) → Wt ys ≤ 71 * (l.length + 10) → (∀ u ∈ ys, Ch u) → ∃ a p, ∃ zs : List Str, V.str (Str.ofString "\n") = .str a ∧ [V.ref D] = [.ref p] ∧ (SqL K H' p (zs.map V.str) ∨ SqT K H' p (zs.map V.str)) ∧ (zs.map (·.length)).sum + zs.length * a.length ≤ 16777216 ∧ Q (.str (Txt.join a zs)) H' := fun s' h' hw' hc' =>
      join_ok h' (by omega) (k _ _ (x5.trans (Dr.same x5.2.1 s')) (Nat.le_trans (joinL_wt _).1 hw') (joinL_ch _ hc'))
    refine ⟨_, rfl, rfl, _, rfl, ?_⟩
    refine ite2 (fun _ => ?_) (fun _ => ?_)
    · refine ⟨⟨_, rfl⟩, _, rfl, _, rfl, _, rfl, q, _, rfl, SqL.of gq5, fun b6 hb6 => ?_⟩
      rw [f1]
      have s6 : Same H5 (upd H5 b6 (.lst (ltx a1))) := Same.new _ hb6
      have g6 : upd H5 b6 (.lst (ltx a1)) b6 = some (.lst (ltx a1)) := upd_same
      generalize upd H5 b6 (.lst (ltx a1)) = H6 at *
      have sm6 : Same H5 H6 := s6
      refine ⟨_, rfl, _, rfl, _, _, rfl, rfl, _, rfl, q, _, rfl, SqL.of (sm6 _ _ gq5), fun b7 hb7 => ?_⟩
      rw [f2]
      have s7 : Same H6 (upd H6 b7 (.lst (ltx a2))) := Same.new _ hb7
      have g7 : upd H6 b7 (.lst (ltx a2)) b7 = some (.lst (ltx a2)) := upd_same
      replace g6 := s7 _ _ g6
      generalize upd H6 b7 (.lst (ltx a2)) = H7 at *
      have sm7 : Same H5 H7 := sm6.trans s7
      refine ⟨_, _, _, _, rfl, rfl, g6, g7, le_sizeM (by simp only [ltx_len, List.length_append, List.length_cons, List.length_nil, rep_flat_len]; omega), fun b8 hb8 => ?_⟩
      rw [ltx_app]
      exact jn (sm7.trans (Same.new _ hb8)) upd_same (by rw [Wt_app]; omega) (fun u hu => (List.mem_append.mp hu).elim (fun z => hlc u (m1 u z)) (fun z => hlc u (m2 u z)))
    refine ⟨_, rfl, rfl, _, rfl, ?_⟩
    refine ite2 (fun _ => ?_) (fun _ => ?_)
    · refine ⟨⟨_, rfl⟩, _, rfl, _, rfl, _, rfl, q, _, rfl, SqL.of gq5, fun b6 hb6 => ?_⟩
      rw [f1]
      have s6 : Same H5 (upd H5 b6 (.lst (ltx a1))) := Same.new _ hb6
      have g6 : upd H5 b6 (.lst (ltx a1)) b6 = some (.lst (ltx a1)) := upd_same
      generalize upd H5 b6 (.lst (ltx a1)) = H6 at *
      have sm6 : Same H5 H6 := s6
      refine ⟨_, rfl, q, _, _, _, rfl, rfl, SqL.of (sm6 _ _ gq5), g0, le_size (by simp), fun b7 hb7 => ?_⟩
      have s7 : Same H6 (upd H6 b7 (.lst ([V.str (SX.S h0)]))) := Same.new _ hb7
      have g7 : upd H6 b7 (.lst ([V.str (SX.S h0)])) b7 = some (.lst (ltx [h0])) := upd_same
      replace g6 := s7 _ _ g6
      generalize upd H6 b7 (.lst ([V.str (SX.S h0)])) = H7 at *
      have sm7 : Same H5 H7 := sm6.trans s7
      refine ⟨_, _, _, _, rfl, rfl, g6, g7, le_sizeM (by simp only [ltx_len, List.length_append, List.length_cons, List.length_nil, rep_flat_len]; omega), fun b8 hb8 => ?_⟩
      rw [ltx_app]
      have s8 : Same H7 (upd H7 b8 (.lst (ltx (a1 ++ [h0])))) := Same.new _ hb8
      have g8 : upd H7 b8 (.lst (ltx (a1 ++ [h0]))) b8 = some (.lst (ltx (a1 ++ [h0]))) := upd_same
      replace g6 := s8 _ _ g6
      replace g7 := s8 _ _ g7
      generalize upd H7 b8 (.lst (ltx (a1 ++ [h0]))) = H8 at *
      have sm8 : Same H5 H8 := sm7.trans s8
      refine ⟨_, rfl, _, rfl, _, rfl, q, _, rfl, SqL.of (sm8 _ _ gq5), fun b9 hb9 => ?_⟩
      rw [f3]
      have s9 : Same H8 (upd H8 b9 (.lst (ltx a3))) := Same.new _ hb9
      have g9 : upd H8 b9 (.lst (ltx a3)) b9 = some (.lst (ltx a3)) := upd_same
      replace g6 := s9 _ _ g6
      replace g7 := s9 _ _ g7
      replace g8 := s9 _ _ g8
      generalize upd H8 b9 (.lst (ltx a3)) = H9 at *
      have sm9 : Same H5 H9 := sm8.trans s9
      refine ⟨_, _, _, _, rfl, rfl, g8, g9, le_sizeM (by simp only [ltx_len, List.length_append, List.length_cons, List.length_nil, rep_flat_len]; omega), fun b10 hb10 => ?_⟩
      rw [ltx_app]
      exact jn (sm9.trans (Same.new _ hb10)) upd_same (by rw [Wt_app, Wt_app, Wt_cons]; simp [Wt] at *; omega) (fun u hu => by
          rcases List.mem_append.mp hu with hu | hu
          · rcases List.mem_append.mp hu with hu | hu
            · exact hlc u (m1 u hu)
            · rw [List.mem_singleton.mp hu]; exact hlc _ h0m
          · exact hlc u (m3 u hu))
    refine ⟨_, rfl, rfl, _, rfl, ?_⟩
    refine ite2 (fun _ => ?_) (fun _ => ?_)
    · refine ⟨_, rfl, _, rfl, _, rfl, _, rfl, hsl, ?_⟩
      rw [e1]
      exact k H5 _ x5 (by omega) ch1
    refine ⟨_, rfl, rfl, _, rfl, ?_⟩
    refine ite2 (fun _ => ?_) (fun _ => ?_)
    · refine ⟨⟨_, rfl⟩, _, rfl, _, rfl, q, _, rfl, SqL.of gq5, fun b6 hb6 => ?_⟩
      rw [f4]
      have s6 : Same H5 (upd H5 b6 (.lst (ltx a4))) := Same.new _ hb6
      have g6 : upd H5 b6 (.lst (ltx a4)) b6 = some (.lst (ltx a4)) := upd_same
      generalize upd H5 b6 (.lst (ltx a4)) = H6 at *
      have sm6 : Same H5 H6 := s6
      refine ⟨_, rfl, _, rfl, _, rfl, _, rfl, q, _, rfl, SqL.of (sm6 _ _ gq5), fun b7 hb7 => ?_⟩
      rw [f5]
      have s7 : Same H6 (upd H6 b7 (.lst (ltx a5))) := Same.new _ hb7
      have g7 : upd H6 b7 (.lst (ltx a5)) b7 = some (.lst (ltx a5)) := upd_same
      replace g6 := s7 _ _ g6
      generalize upd H6 b7 (.lst (ltx a5)) = H7 at *
      have sm7 : Same H5 H7 := sm6.trans s7
      refine ⟨b7, 70, _, rfl, rfl, g7, by decide, by decide, le_sizeM (by show (ltx a5).length * 70 ≤ _; rw [ltx_len]; omega), fun b8 hb8 => ?_⟩
      have er : (List.replicate (70 : Int).toNat (ltx a5)).flatten = ltx (List.replicate 70 a5).flatten := ltx_rep 70 a5
      rw [er]
      have s8 : Same H7 (upd H7 b8 (.lst (ltx (List.replicate 70 a5).flatten))) := Same.new _ hb8
      have g8 : upd H7 b8 (.lst (ltx (List.replicate 70 a5).flatten)) b8 = some (.lst (ltx (List.replicate 70 a5).flatten)) := upd_same
      replace g6 := s8 _ _ g6
      replace g7 := s8 _ _ g7
      generalize upd H7 b8 (.lst (ltx (List.replicate 70 a5).flatten)) = H8 at *
      have sm8 : Same H5 H8 := sm7.trans s8
      refine ⟨_, _, _, _, rfl, rfl, g6, g8, le_sizeM (by simp only [ltx_len, List.length_append, List.length_cons, List.length_nil, rep_flat_len]; omega), fun b9 hb9 => ?_⟩
      rw [ltx_app]
      have s9 : Same H8 (upd H8 b9 (.lst (ltx (a4 ++ (List.replicate 70 a5).flatten)))) := Same.new _ hb9
      have g9 : upd H8 b9 (.lst (ltx (a4 ++ (List.replicate 70 a5).flatten))) b9 = some (.lst (ltx (a4 ++ (List.replicate 70 a5).flatten))) := upd_same
      replace g6 := s9 _ _ g6
      replace g7 := s9 _ _ g7
      replace g8 := s9 _ _ g8
      generalize upd H8 b9 (.lst (ltx (a4 ++ (List.replicate 70 a5).flatten))) = H9 at *
      have sm9 : Same H5 H9 := sm8.trans s9
      refine ⟨le_size (by simp), fun b10 hb10 => ?_⟩
      have s10 : Same H9 (upd H9 b10 (.lst ([V.str (Str.ofString "")]))) := Same.new _ hb10
      have g10 : upd H9 b10 (.lst ([V.str (Str.ofString "")])) b10 = some (.lst (ltx [[]])) := upd_same
      replace g6 := s10 _ _ g6
      replace g7 := s10 _ _ g7
      replace g8 := s10 _ _ g8
      replace g9 := s10 _ _ g9
      generalize upd H9 b10 (.lst ([V.str (Str.ofString "")])) = H10 at *
      have sm10 : Same H5 H10 := sm9.trans s10
      refine ⟨_, _, _, _, rfl, rfl, g9, g10, le_sizeM (by simp only [ltx_len, List.length_append, List.length_cons, List.length_nil, rep_flat_len]; omega), fun b11 hb11 => ?_⟩
      rw [ltx_app]
      exact jn (sm10.trans (Same.new _ hb11)) upd_same (by rw [Wt_app, Wt_app, Wt_rep, Wt_cons]; simp [Wt] at *; omega) (fun u hu => by
          rcases List.mem_append.mp hu with hu | hu
          · rcases List.mem_append.mp hu with hu | hu
            · exact hlc u (m4 u hu)
            · exact hlc u (m5 u (rep_memL hu))
          · rw [List.mem_singleton.mp hu]; exact fun c hc => nomatch hc)
    refine ⟨_, rfl, rfl, _, rfl, ?_⟩
    refine ite2 (fun _ => ?_) (fun _ => ?_)
    · refine ⟨le_size (by simp), fun o ho => ?_⟩
      have M7 : Txs 20 [V.str "arc 00 a 0", .str "arc 0 a 64", .str "arc 0  a 0", .str "arc 0 a", .str "arc +1 a 0", .str "arc 0 a 01", .str "", .str "arc"] := (.cons (l := [97, 114, 99, 32, 48, 48, 32, 97, 32, 48]) (by decide) (by decide) (.cons (l := [97, 114, 99, 32, 48, 32, 97, 32, 54, 52]) (by decide) (by decide) (.cons (l := [97, 114, 99, 32, 48, 32, 32, 97, 32, 48]) (by decide) (by decide) (.cons (l := [97, 114, 99, 32, 48, 32, 97]) (by decide) (by decide) (.cons (l := [97, 114, 99, 32, 43, 49, 32, 97, 32, 48]) (by decide) (by decide) (.cons (l := [97, 114, 99, 32, 48, 32, 97, 32, 48, 49]) (by decide) (by decide) (.cons (l := []) (by decide) (by decide) (.cons (l := [97, 114, 99]) (by decide) (by decide) (.nil _)))))))))
      have so : Same H5 (upd H5 o (.lst [V.str "arc 00 a 0", .str "arc 0 a 64", .str "arc 0  a 0", .str "arc 0 a", .str "arc +1 a 0", .str "arc 0 a 01", .str "", .str "arc"])) := Same.new _ ho
      have go : upd H5 o (.lst [V.str "arc 00 a 0", .str "arc 0 a 64", .str "arc 0  a 0", .str "arc 0 a", .str "arc +1 a 0", .str "arc 0 a 01", .str "", .str "arc"]) o = some (.lst [V.str "arc 00 a 0", .str "arc 0 a 64", .str "arc 0  a 0", .str "arc 0 a", .str "arc +1 a 0", .str "arc 0 a 01", .str "", .str "arc"]) := upd_same
      have no := x5.2.1.ne ho
      have xo := x5.trans (Dr.same x5.2.1 so)
      generalize upd H5 o (.lst [V.str "arc 00 a 0", .str "arc 0 a 64", .str "arc 0  a 0", .str "arc 0 a", .str "arc +1 a 0", .str "arc 0 a 01", .str "", .str "arc"]) = H55 at *
      refine ⟨_, rfl, _, rfl, p, o, _, rfl, xo.2.1, no, go, by simp, by simp, fun H6 v x6 hv => ?_⟩
      obtain ⟨mo, rfl, hmo, hmc⟩ := M7 v hv
      have gq6 := x6.1 _ _ nq (so _ _ gq5)
      replace x6 := xo.trans x6
      clear jn hv M7
      have jn : ∀ {H' : Hp} {D : Addr} {ys : List (List Nat)}, Same H6 H' → H' D = some (.lst (ltx ys)) → Wt ys ≤ 71 * (l.length + 10) → (∀ u ∈ ys, Ch u) → ∃ a p, ∃ zs : List Str, V.str (Str.ofString "\n") = .str a ∧ [V.ref D] = [.ref p] ∧ (SqL K H' p (zs.map V.str) ∨ SqT K H' p (zs.map V.str)) ∧ (zs.map (·.length)).sum + zs.length * a.length ≤ 16777216 ∧ Q (.str (Txt.join a zs)) H' := fun s' h' hw' hc' =>
        join_ok h' (by omega) (k _ _ (x6.trans (Dr.same x6.2.1 s')) (Nat.le_trans (joinL_wt _).1 hw') (joinL_ch _ hc'))
      refine ⟨⟨_, rfl⟩, _, rfl, _, rfl, _, rfl, q, _, rfl, SqL.of gq6, fun b6 hb6 => ?_⟩
      rw [f1]
      have s6 : Same H6 (upd H6 b6 (.lst (ltx a1))) := Same.new _ hb6
      have g6 : upd H6 b6 (.lst (ltx a1)) b6 = some (.lst (ltx a1)) := upd_same
      generalize upd H6 b6 (.lst (ltx a1)) = K6 at *
      have sm6 : Same H6 K6 := s6
      refine ⟨_, rfl, le_size (by simp), fun b7 hb7 => ?_⟩
      have s7 : Same K6 (upd K6 b7 (.lst ([V.str (SX.S mo)]))) := Same.new _ hb7
      have g7 : upd K6 b7 (.lst ([V.str (SX.S mo)])) b7 = some (.lst (ltx [mo])) := upd_same
      replace g6 := s7 _ _ g6
      generalize upd K6 b7 (.lst ([V.str (SX.S mo)])) = K7 at *
      have sm7 : Same H6 K7 := sm6.trans s7
      refine ⟨_, _, _, _, rfl, rfl, g6, g7, le_sizeM (by simp only [ltx_len, List.length_append, List.length_cons, List.length_nil, rep_flat_len]; omega), fun b8 hb8 => ?_⟩
      rw [ltx_app]
      have s8 : Same K7 (upd K7 b8 (.lst (ltx (a1 ++ [mo])))) := Same.new _ hb8
      have g8 : upd K7 b8 (.lst (ltx (a1 ++ [mo]))) b8 = some (.lst (ltx (a1 ++ [mo]))) := upd_same
      replace g6 := s8 _ _ g6
      replace g7 := s8 _ _ g7
      generalize upd K7 b8 (.lst (ltx (a1 ++ [mo]))) = K8 at *
      have sm8 : Same H6 K8 := sm7.trans s8
      refine ⟨_, rfl, _, rfl, _, rfl, q, _, rfl, SqL.of (sm8 _ _ gq6), fun b9 hb9 => ?_⟩
      rw [f3]
      have s9 : Same K8 (upd K8 b9 (.lst (ltx a3))) := Same.new _ hb9
      have g9 : upd K8 b9 (.lst (ltx a3)) b9 = some (.lst (ltx a3)) := upd_same
      replace g6 := s9 _ _ g6
      replace g7 := s9 _ _ g7
      replace g8 := s9 _ _ g8
      generalize upd K8 b9 (.lst (ltx a3)) = K9 at *
      have sm9 : Same H6 K9 := sm8.trans s9
      refine ⟨_, _, _, _, rfl, rfl, g8, g9, le_sizeM (by simp only [ltx_len, List.length_append, List.length_cons, List.length_nil, rep_flat_len]; omega), fun b10 hb10 => ?_⟩
      rw [ltx_app]
      exact jn (sm9.trans (Same.new _ hb10)) upd_same (by rw [Wt_app, Wt_app, Wt_cons]; simp [Wt] at *; omega) (fun u hu => by
          rcases List.mem_append.mp hu with hu | hu
          · rcases List.mem_append.mp hu with hu | hu
            · exact hlc u (m1 u hu)
            · rw [List.mem_singleton.mp hu]; exact hmc
          · exact hlc u (m3 u hu))
    refine ⟨le_size (by simp), fun o ho => ?_⟩
    have M8 : Txs (l.length + 100) ([V.str "", .str "\n", .str "signs", .str "signs ab", .str "signs ab\n", .str "signs ba\narc 0 a 0\n", .str "signs \n"] ++ [.str (SX.S (l ++ [10]))]) := by
      have z : ∀ n, Txs (n + 100) [V.str "", .str "\n", .str "signs", .str "signs ab", .str "signs ab\n", .str "signs ba\narc 0 a 0\n", .str "signs \n"] := fun n v hv => by
        have q : Txs 100 [V.str "", .str "\n", .str "signs", .str "signs ab", .str "signs ab\n", .str "signs ba\narc 0 a 0\n", .str "signs \n"] := (.cons (l := []) (by decide) (by decide) (.cons (l := [10]) (by decide) (by decide) (.cons (l := [115, 105, 103, 110, 115]) (by decide) (by decide) (.cons (l := [115, 105, 103, 110, 115, 32, 97, 98]) (by decide) (by decide) (.cons (l := [115, 105, 103, 110, 115, 32, 97, 98, 10]) (by decide) (by decide) (.cons (l := [115, 105, 103, 110, 115, 32, 98, 97, 10, 97, 114, 99, 32, 48, 32, 97, 32, 48, 10]) (by decide) (by decide) (.cons (l := [115, 105, 103, 110, 115, 32, 10]) (by decide) (by decide) (.nil _))))))))
        obtain ⟨m, e, h1, h2⟩ := q v hv
        exact ⟨m, e, by omega, h2⟩
      intro v hv
      rcases List.mem_append.mp hv with hv | hv
      · exact z l.length v hv
      · rw [List.mem_singleton.mp hv]
        exact ⟨l ++ [10], rfl, by simp, hch.app (by decide)⟩
    have so : Same H5 (upd H5 o (.lst [V.str "", .str "\n", .str "signs", .str "signs ab", .str "signs ab\n", .str "signs ba\narc 0 a 0\n", .str "signs \n"])) := Same.new _ ho
    have go : upd H5 o (.lst [V.str "", .str "\n", .str "signs", .str "signs ab", .str "signs ab\n", .str "signs ba\narc 0 a 0\n", .str "signs \n"]) o = some (.lst [V.str "", .str "\n", .str "signs", .str "signs ab", .str "signs ab\n", .str "signs ba\narc 0 a 0\n", .str "signs \n"]) := upd_same
    have xo := x5.trans (Dr.same x5.2.1 so)
    generalize upd H5 o (.lst [V.str "", .str "\n", .str "signs", .str "signs ab", .str "signs ab\n", .str "signs ba\narc 0 a 0\n", .str "signs \n"]) = H6 at *
    have l3 : Le (Str.ofString "\n") 1 := Nat.le_refl 1
    refine ⟨_, rfl, _, rfl, _, rfl, _, _, rfl, rfl, le_sizeM (by rw [SX.S_len]; show l.length + 1 ≤ _; omega), le_size (by simp), fun o2 ho2 => ?_⟩
    have en : SX.S l ++ Str.ofString "\n" = SX.S (l ++ [10]) := SX.S_cat l [10]
    rw [en]
    have so2 : Same H6 (upd H6 o2 (.lst [.str (SX.S (l ++ [10]))])) := Same.new _ ho2
    have go2 : upd H6 o2 (.lst [.str (SX.S (l ++ [10]))]) o2 = some (.lst [.str (SX.S (l ++ [10]))]) := upd_same
    have xo2 := xo.trans (Dr.same xo.2.1 so2)
    replace go := so2 _ _ go
    generalize upd H6 o2 (.lst [.str (SX.S (l ++ [10]))]) = H7 at *
    refine ⟨_, _, _, _, rfl, rfl, go, go2, le_size (by simp), fun o3 ho3 => ?_⟩
    have xo3 := xo2.new (o := .lst ([V.str "", .str "\n", .str "signs", .str "signs ab", .str "signs ab\n", .str "signs ba\narc 0 a 0\n", .str "signs \n"] ++ [.str (SX.S (l ++ [10]))])) ho3
    refine ⟨p, o3, _, rfl, xo3.2.1, xo2.2.1.ne ho3, upd_same, by simp, by simp, fun H8 v x8 hv => ?_⟩
    obtain ⟨mo, rfl, hmo, hmc⟩ := M8 v hv
    exact k H8 mo (xo3.trans x8) (by omega) hmc
end
end J


set_option Elab.async false
set_option linter.all false
set_option maxRecDepth 100000
set_option maxHeartbeats 4000000
namespace J
open PySem L2
def spLaw (K : PySem.W.Frag) : Sp := fun vs H Q _ => ∃ (a : Addr) (ns : List Int), vs = [.ref a] ∧ SqL K H a (ns.map V.int) ∧ ns.length ≤ 63 ∧ ∀ H', Q (.bl true) H'
/-- how long a page may be behind so many laps -/
def bn : Nat → Nat
  | 0 => 186
  | n + 1 => 71 * (bn n + 10)
theorem bn1 {i : Nat} (h : i < 2) : bn i ≤ 13916 := by
  rcases (by omega : i = 0 ∨ i = 1) with rfl | rfl <;> decide
theorem bn2 {i : Nat} (h : i ≤ 2) : bn i ≤ 988746 := by
  rcases (by omega : i = 0 ∨ i = 1 ∨ i = 2) with rfl | rfl | rfl <;> decide
theorem page_ch {sg : List Nat} {as : List Arc} (hs : Signs sg) (h : ∀ a ∈ as, OkArc sg a) : Ch (page sg as) := by
  have hw : ∀ u : List Nat, (∀ c ∈ u, c ∈ sg) → Ch u := fun u hu c hc => by
    have := (hs.2.2.1 c (hu c hc)).2
    omega
  have hn : ∀ n, n < 200 → Ch (nt n) := fun n hn c hc => by
    have := ((nt_facts n hn).2.1 c hc).2
    omega
  intro c hc
  obtain ⟨l, hl, hcl⟩ := List.mem_flatten.mp hc
  obtain ⟨m, hm, rfl⟩ := List.mem_map.mp hl
  have hm2 : Ch m := by
    rcases List.mem_cons.mp hm with rfl | hm
    · rw [sgl_eq]
      exact Ch.app (by decide) (hw sg fun c hc => hc)
    · obtain ⟨a, ha, rfl⟩ := List.mem_map.mp hm
      obtain ⟨h1, h2, h3⟩ := h a ha
      rw [arl_eq]
      exact Ch.app (by decide) ((hn _ (by omega)).app (Ch.app (by decide) ((hw _ h2.2.2).app (Ch.app (by decide) (hn _ (by omega))))))
  exact (hm2.app (by decide : Ch [10])) c hcl
theorem page_len5 {sg : List Nat} {as : List Arc} (hs : Signs sg) (h : OkW sg as) (hl : as.length ≤ 5) : (page sg as).length ≤ 186 := by
  have q := flat_len (lns sg as) (lns_len hs h.2.2)
  have e : (lns sg as).length = as.length + 1 := by simp [lns]
  unfold page
  omega
theorem kit_cls {K : PySem.W.Frag} {C : Addr} {s : String} (hm : PySem.W.kitMeta s = true) (h : PySem.W.subIn K (.ref C) (.type s) = some false) : PySem.W.kitOne K (.ref C) (.type s) = some false := by
  unfold PySem.W.kitOne
  have e : ¬ ((Value.ref C == Value.type s) = true) := fun z => nomatch (eq_of_beq z)
  rw [if_neg e]
  show (if PySem.W.kitMeta s = true then PySem.W.subIn K (.ref C) (.type s) else none) = some false
  rw [if_pos hm]
  exact h
/-- something that is no string, whatever becomes of the pool -/
def NoS (K : PySem.W.Frag) (p : Addr) (H : Hp) (v : V) : Prop := ∀ H', Ex p H H' → ∃ t, TyZ K H' v t ∧ PySem.W.kitOne K t (.type "str") = some false
theorem all_cons {P : V → Prop} {x : V} {xs : List V} (h : P x) (r : ∀ v ∈ xs, P v) : ∀ v ∈ x :: xs, P v := fun v hv => by
  rcases List.mem_cons.mp hv with rfl | hv
  · exact h
  · exact r v hv
theorem all_nil {P : V → Prop} : ∀ v ∈ ([] : List V), P v := fun v hv => nomatch hv
section
variable {P : Program} {w : World} {K : PySem.W.Frag} {mg : Str → Option Value} {base : Heap}
theorem ok_law (T : Tx K mg) : FnOk P w K mg base CX0 9 T.f_law T.fd_law P_law (spLaw K) := by
  refine T.F_law.ok sc_law (fun vs H Q E h => ?_) (fun cdv A outer s H vs Q E hr h => ?_)
  · obtain ⟨a, ns, rfl, _⟩ := h
    rfl
  · obtain ⟨a, ns, rfl, hS, hlen, k⟩ := h
    have G_l_pool : FnOk P w K mg base CX0 1 T.f_l_pool T.fd_l_pool P_l_pool (spPool K) := ok_l_pool T
    have G_l_draw : FnOk P w K mg base CX0 1 T.f_l_draw T.fd_l_draw P_l_draw spDraw := ok_l_draw T
    have G_l_pick : FnOk P w K mg base CX0 2 T.f_l_pick T.fd_l_pick P_l_pick spPick := ok_l_pick T
    have G_l_sign_row : FnOk P w K mg base CX0 2 T.f_l_sign_row T.fd_l_sign_row P_l_sign_row spSgRow := ok_l_sign_row T
    have G_l_any_arcs : FnOk P w K mg base CX0 4 T.f_l_any_arcs T.fd_l_any_arcs P_l_any_arcs spAnyArcs := ok_l_any_arcs T
    have G_l_spoiled : FnOk P w K mg base CX0 3 T.f_l_spoiled T.fd_l_spoiled P_l_spoiled spSpoil := ok_l_spoiled T
    have G_l_due : FnOk P w K mg base CX0 3 T.f_l_due T.fd_l_due P_l_due spDueP := ok_l_due T
    have G_l_told : FnOk P w K mg base CX0 7 T.f_l_told T.fd_l_told P_l_told (spTold K) := ok_l_told T
    have G_Loom_init : FnOk P w K mg base CX0 4 T.f_Loom_init T.fd_Loom_init P_Loom_init (spInit T.C_Loom) := ok_Loom_init T
    have G_write_loom : FnOk P w K mg base CX0 1 T.f_write_loom T.fd_write_loom P_write_loom (spWrite T.C_Loom) := ok_write_loom T
    have G_read_loom : FnOk P w K mg base (L2.CX P w) 6 T.f_read_loom T.fd_read_loom P_read_loom (spReadX K T.C_Loom T.C_InvalidPage) := ok_read_loomX T
    refine ⟨_, (pss_cons (ps_set (i := 1) sc_law.nd rfl (Or.inl rfl) (pe_call G_l_pool (hr.mono (by decide)) rfl T.m_l_pool T.F_l_pool.kp T.b_l_pool .nil pass0 (pa_cons (pv 0) pa_nil)))
        (pss_cons (ps_for PassesOwn.never rfl (pi_range1 rfl T.n_range (pa_cons pe_int pa_nil)) (pg_name (i := 2) sc_law.nd rfl (Or.inl rfl)) (pss_cons (ps_set (i := 3) sc_law.nd rfl (Or.inl rfl) (pe_call G_l_sign_row (hr.mono (by decide)) rfl T.m_l_sign_row T.F_l_sign_row.kp T.b_l_sign_row .nil pass0 (pa_cons (pv 1) (pa_cons pe_int pa_nil))))
        (pss_cons (ps_set (i := 4) sc_law.nd rfl (Or.inl rfl) (pe_call G_write_loom (hr.mono (by decide)) rfl T.m_write_loom T.F_write_loom.kp T.b_write_loom .nil pass0 (pa_cons (pe_make T.M_Loom G_Loom_init (hr.mono (by decide)) rfl T.g_Loom T.b_Loom_init .nil pass0 (pa_cons (pv 3) (pa_cons (pe_call G_l_any_arcs (hr.mono (by decide)) rfl T.m_l_any_arcs T.F_l_any_arcs.kp T.b_l_any_arcs .nil pass0 (pa_cons (pv 1) (pa_cons (pv 3) (pa_cons pe_int (pa_cons pe_int pa_nil))))) pa_nil))) pa_nil)))
        (pss_cons (ps_for PassesOwn.never rfl (pi_range1 rfl T.n_range (pa_cons (pe_op op_add pe_int (pe_call G_l_draw (hr.mono (by decide)) rfl T.m_l_draw T.F_l_draw.kp T.b_l_draw .nil pass0 (pa_cons (pv 1) (pa_cons pe_int pa_nil)))) pa_nil)) (pg_name (i := 5) sc_law.nd rfl (Or.inl rfl)) (pss_one (ps_set (i := 4) sc_law.nd rfl (Or.inl rfl) (pe_call G_l_spoiled (hr.mono (by decide)) rfl T.m_l_spoiled T.F_l_spoiled.kp T.b_l_spoiled .nil pass0 (pa_cons (pv 1) (pa_cons (pv 4) pa_nil))))))
        (pss_cons (ps_set (i := 6) sc_law.nd rfl (Or.inl rfl) (pe_call G_l_due (hr.mono (by decide)) rfl T.m_l_due T.F_l_due.kp T.b_l_due .nil pass0 (pa_cons (pv 4) pa_nil)))
        (pss_cons (ps_set (i := 7) sc_law.nd rfl (Or.inl rfl) (pe_call G_l_told (hr.mono (by decide)) rfl T.m_l_told T.F_l_told.kp T.b_l_told .nil pass0 (pa_cons (pv 4) pa_nil)))
        (pss_cons (ps_if (PW.pt (pw_or (pt_cmpR op_ne (pv 7) (pv 6) (nomark _)) (pw_or1 (pt_val (pe_callB (call_isiK' (K := K) rfl) rfl T.n_isinstance (by decide +kernel) (pa_cons (pv 7) (pa_cons (pe_bltn (v := V.ty "bool") (u := .type "bool") rfl T.n_bool (by decide +kernel) rfl) pa_nil))))))) (pss_one (ps_ret pe_bl)) pss_nil)
        (pss_one (ps_if (PW.pt (pw_and (pt_cmpR op_isN (pv 6) pe_non (nomark _)) (pw_and1 (pt_cmpR op_ne (pe_call G_write_loom (hr.mono (by decide)) rfl T.m_write_loom T.F_write_loom.kp T.b_write_loom .nil pass0 (pa_cons (pe_call G_read_loom (hr.mono (by decide)) rfl T.m_read_loom T.F_read_loom.kp T.b_read_loom .nil passL (pa_cons (pv 4) pa_nil)) pa_nil)) (pv 4) (nomark _))))) (pss_one (ps_ret pe_bl)) pss_nil)))))))))
        (pss_cons (ps_set (i := 8) sc_law.nd rfl (Or.inl rfl) (pe_lst (pa_cons pe_non (pa_cons pe_int (pa_cons (pe_lst (pa_cons pe_str pa_nil)) (pa_cons (pe_tup (pa_cons pe_str (pa_cons pe_str pa_nil))) (pa_cons pe_dnewK (pa_cons pe_bl (pa_cons (pe_make T.M_Loom G_Loom_init (hr.mono (by decide)) rfl T.g_Loom T.b_Loom_init .nil pass0 (pa_cons pe_str (pa_cons (pe_lst (pa_cons (pe_tup (pa_cons pe_int (pa_cons pe_str (pa_cons pe_int pa_nil)))) pa_nil)) pa_nil))) pa_nil)))))))))
        (pss_cons (ps_set (i := 8) sc_law.nd rfl (Or.inl rfl) (pe_call G_l_pick (hr.mono (by decide)) rfl T.m_l_pick T.F_l_pick.kp T.b_l_pick .nil pass0 (pa_cons (pv 1) (pa_cons (pv 8) pa_nil))))
        (pss_one (ps_ret (pe_cmpR op_eq (pe_call G_l_told (hr.mono (by decide)) rfl T.m_l_told T.F_l_told.kp T.b_l_told .nil pass0 (pa_cons (pv 8) pa_nil)) pe_int (nomark _)))))))), ?_⟩
    refine ⟨_, rfl, a, ns, rfl, hS, hlen, fun p H1 st1 s1 hp0 => ?_⟩
    refine ⟨4, rfl, by decide, by decide, for_range (lo := 0) (n := 4) (fun i σ H' => ∃ v2 v3 v4 v5 v6 v7 : Option V, σ = [some (.ref a), some (.ref p), v2, v3, v4, v5, v6, v7, none] ∧ PoolAt H' p) ?_ ?_ ?_⟩
    · exact ⟨none, none, none, none, none, none, rfl, st1⟩
    · rintro i σ H2 hi ⟨v2, v3, v4, v5, v6, v7, rfl, st2⟩
      refine ⟨_, rfl, p, 1, rfl, st2, by decide, by decide, fun H3 sg x3 hsg _ => ?_⟩
      refine ⟨_, rfl, _, rfl, _, rfl, p, sg, 5, 4, rfl, x3.2.1, hsg, by decide, by decide, by decide, by decide, fun H4 q us as x4 hq0 oq hq harc hok hal => ?_⟩
      refine fun x dx hx hd hne => ?_
      have S : Same H4 (upd (upd H4 dx (.own x)) x (.ins T.C_Loom dx [])) := (Same.new _ hd).trans (Same.new _ (by rw [upd_ne hne.symm]; exact hx))
      refine ⟨x, dx, q, sg, us, as, rfl, upd_same, S _ _ hq, harc.same S, hok, hsg, fun H5 Tt x5 hT hTus g => ⟨rfl, ?_⟩⟩
      have s5 : Same H4 H5 := fun b o e => x5 _ _ (ne_of_none e hx) (S _ _ e)
      have L5 : LoomAt T.C_Loom H5 x sg us as := ⟨dx, Tt, g, hTus, harc.same s5, hok, hsg⟩
      refine ⟨x, sg, us, as, rfl, L5, fun H6 s6 => ?_⟩
      have st6 := (x4.2.1.same s5).same s6
      have pl := page_len5 hsg hok (by omega)
      have pc := page_ch hsg hok.2.2
      refine ⟨_, rfl, p, 2, rfl, st6, by decide, by decide, fun H7 r x7 r0 r1 => ⟨_, _, rfl, rfl, ?_⟩⟩
      refine ⟨_, rfl, by omega, by omega, for_range (lo := 0) (n := (1 + r).toNat) (fun j σ H' => ∃ (l : List Nat) (w5 : Option V), σ = [some (.ref a), some (.ref p), some (.int (0 + (i : Int))), some (.str (SX.S sg)), some (.str (SX.S l)), w5, v6, v7, none] ∧ l.length ≤ bn j ∧ Ch l ∧ PoolAt H' p) ?_ ?_ ?_⟩
      · exact ⟨page sg as, _, rfl, pl, pc, x7.2.1⟩
      · rintro j σ H8 hj ⟨l, w5, rfl, hl, hc, st8⟩
        have b1 := bn1 (i := j) (by omega)
        refine ⟨_, rfl, _, rfl, p, l, rfl, st8, by omega, hc, fun H9 l' x9 hl' hc' => ?_⟩
        exact ⟨l', _, rfl, by show _ ≤ 71 * (bn j + 10); omega, hc', x9.2.1⟩
      · rintro σ H8 ⟨l, w5, rfl, hl, hc, st8⟩
        have b2 := bn2 (i := (1 + r).toNat) (by omega)
        refine ⟨_, rfl, l, rfl, by omega, hc, fun H9 s9 => ?_⟩
        refine ⟨_, rfl, _, rfl, .inl ⟨l, rfl, by omega, fun H10 s10 => ?_⟩⟩
        have st10 := (st8.same s9).same s10
        cases ed : dueL (linesOf l) with
        | some n =>
          refine ⟨_, rfl, _, rfl, rfl, false, congrArg V.bl (dne rfl), ?_⟩
          refine ⟨_, rfl, _, _, _, _, false, rfl, .ty "bool", .base (.int _), kit_ty (by decide +kernel), false, rfl, ?_⟩
          refine ⟨_, rfl, rfl, false, congrArg V.bl (decide_eq_false (fun z => nomatch z)), ?_⟩
          exact ⟨_, _, _, _, _, _, rfl, st10⟩
        | none =>
          refine ⟨_, rfl, _, rfl, rfl, false, congrArg V.bl (dne rfl), ?_⟩
          refine ⟨_, rfl, _, _, _, _, false, rfl, .ty "bool", .base .non, kit_ty (by decide +kernel), false, rfl, ?_⟩
          refine ⟨_, rfl, rfl, true, congrArg V.bl (decide_eq_true rfl), ?_⟩
          refine ⟨_, rfl, _, rfl, .inl ⟨l, rfl, by omega, .inl ⟨ed, fun sg' as' H11 q' us' hpg hsg' hok' s11 q0 L11 => ?_⟩⟩⟩
          refine ⟨q', sg', us', as', rfl, L11, fun H12 s12 => ⟨_, rfl, rfl, false, congrArg V.bl (dne (by rw [hpg])), ?_⟩⟩
          exact ⟨_, _, _, _, _, _, rfl, (st10.same s11).same s12⟩
    · rintro σ H2 ⟨v2, v3, v4, v5, v6, v7, rfl, st2⟩
      refine ⟨le_size (by simp), fun b1 hb1 => ?_⟩
      have s3 : Same H2 (upd H2 b1 (.lst [.str "signs ab"])) := Same.new _ hb1
      have g3 : upd H2 b1 (.lst [.str "signs ab"]) b1 = some (.lst [.str "signs ab"]) := upd_same
      have n3 := st2.ne hb1
      have st3 := st2.same s3
      generalize upd H2 b1 (.lst [.str "signs ab"]) = H3 at *
      refine ⟨le_size (by simp), fun b2 hb2 => ?_⟩
      have s4 : Same H3 (upd H3 b2 (.tup [.str "signs ab", .str "arc 0 a 0"])) := Same.new _ hb2
      have g4 : upd H3 b2 (.tup [.str "signs ab", .str "arc 0 a 0"]) b2 = some (.tup [.str "signs ab", .str "arc 0 a 0"]) := upd_same
      have n4 := st3.ne hb2
      have st4 := st3.same s4
      replace g3 := s4 _ _ g3
      generalize upd H3 b2 (.tup [.str "signs ab", .str "arc 0 a 0"]) = H4 at *
      intro d hd0
      have s5 : Same H4 (upd H4 d (.dK [])) := Same.new _ hd0
      have g5 : upd H4 d (.dK []) d = some (.dK []) := upd_same
      have n5 := st4.ne hd0
      have st5 := st4.same s5
      replace g3 := s5 _ _ g3
      replace g4 := s5 _ _ g4
      generalize upd H4 d (.dK []) = H5 at *
      refine ⟨le_size (by simp), fun t ht => ?_⟩
      have s6 : Same H5 (upd H5 t (.tup [.int 0, .str "a", .int 0])) := Same.new _ ht
      have g6 : upd H5 t (.tup [.int 0, .str "a", .int 0]) t = some (arcHO (0, [97], 0)) := upd_same
      have st6 := st5.same s6
      replace g3 := s6 _ _ g3
      replace g4 := s6 _ _ g4
      replace g5 := s6 _ _ g5
      generalize upd H5 t (.tup [.int 0, .str "a", .int 0]) = H6 at *
      refine ⟨le_size (by simp), fun Lr hLr => ?_⟩
      have s7 : Same H6 (upd H6 Lr (.lst [.ref t])) := Same.new _ hLr
      have g7 : upd H6 Lr (.lst [.ref t]) Lr = some (.lst [.ref t]) := upd_same
      have st7 := st6.same s7
      replace g3 := s7 _ _ g3
      replace g4 := s7 _ _ g4
      replace g5 := s7 _ _ g5
      replace g6 := s7 _ _ g6
      generalize upd H6 Lr (.lst [.ref t]) = H7 at *
      have harc : Arcs H7 [.ref t] [(0, [97], 0)] := (Arcs.nil H7).snoc g6
      refine fun x dx hx hdx hne => ?_
      have S : Same H7 (upd (upd H7 dx (.own x)) x (.ins T.C_Loom dx [])) := (Same.new _ hdx).trans (Same.new _ (by rw [upd_ne hne.symm]; exact hx))
      have hsg : Signs [97] := by decide
      have hok : OkW [97] [(0, [97], 0)] := ⟨by decide, by decide, fun b hb => by rw [List.mem_singleton.mp hb]; exact ⟨by decide, ⟨by decide, by decide, fun c hc => hc⟩, by decide⟩⟩
      refine ⟨x, dx, Lr, [97], _, _, rfl, upd_same, S _ _ g7, harc.same S, hok, hsg, fun H8 Tt x8 hT hTus g8 => ⟨rfl, ?_⟩⟩
      have s8 : Same H7 H8 := fun b o e => x8 _ _ (ne_of_none e hx) (S _ _ e)
      have n8 := st7.ne hx
      have st8 := st7.same s8
      replace g3 := s8 _ _ g3
      replace g4 := s8 _ _ g4
      replace g5 := s8 _ _ g5
      refine ⟨le_size (by simp), fun m hm => ?_⟩
      have s9 : Same H8 (upd H8 m (.lst [.non, .int 0, .ref b1, .ref b2, .ref d, .bl true, .ref x])) := Same.new _ hm
      have g9 : upd H8 m (.lst [.non, .int 0, .ref b1, .ref b2, .ref d, .bl true, .ref x]) m = some (.lst [.non, .int 0, .ref b1, .ref b2, .ref d, .bl true, .ref x]) := upd_same
      have nm := st8.ne hm
      have st9 := st8.same s9
      replace g3 := s9 _ _ g3
      replace g4 := s9 _ _ g4
      replace g5 := s9 _ _ g5
      replace g8 := s9 _ _ g8
      generalize upd H8 m (.lst [.non, .int 0, .ref b1, .ref b2, .ref d, .bl true, .ref x]) = H9 at *
      have nos : ∀ v ∈ ([.non, .int 0, .ref b1, .ref b2, .ref d, .bl true, .ref x] : List V), NoS K p H9 v :=
        all_cons (fun _ _ => ⟨_, .x (.base .non), kit_ty (by decide +kernel)⟩) (all_cons (fun _ _ => ⟨_, .x (.base (.int _)), kit_ty (by decide +kernel)⟩) (all_cons (fun _ z => ⟨_, .x (.base (.lst (z _ _ n3 g3))), kit_ty (by decide +kernel)⟩)
          (all_cons (fun _ z => ⟨_, .x (.base (.tup (z _ _ n4 g4))), kit_ty (by decide +kernel)⟩) (all_cons (fun _ z => ⟨_, .x (.base (.dK (z _ _ n5 g5))), kit_ty (by decide +kernel)⟩) (all_cons (fun _ _ => ⟨_, .x (.base (.bl _)), kit_ty (by decide +kernel)⟩)
          (all_cons (fun _ z => ⟨_, .x (.base (.ins (z _ _ n8 g8) T.cl_Loom T.ic_Loom T.ig T.it T.im_Loom)), kit_cls (by decide +kernel) T.sw_Loom⟩) all_nil))))))
      refine ⟨_, rfl, _, rfl, p, m, _, rfl, st9, nm, g9, by simp, by simp, fun H10 od x10 hod => ?_⟩
      obtain ⟨ty, hty, hk⟩ := nos od hod H10 x10.1
      refine ⟨_, rfl, od, rfl, .inr ⟨ty, hty, hk, fun H11 s11 => ?_⟩⟩
      refine ⟨rfl, ?_⟩
      rw [decide_eq_true rfl]
      exact k _
end
end J


set_option Elab.async false
set_option linter.all false
set_option maxRecDepth 100000
set_option maxHeartbeats 4000000
namespace J
open PySem L2
theorem all_mk {l : PySem.W.OpenLaw} {w : World} {K : PySem.W.Frag} {h : Heap} {mg : Str → Option Value} {fa f_InvalidLoom_init f_InvalidPage_init f_is_number f_is_sequence f_is_signs f_is_string_over f_is_word f_check_signs f_is_arc f_Loom_init f_Loom_eq f_write_loom f_numbers_up_to f_arc_in f_signs_in f_read_loom f_l_pool f_l_draw f_l_pick f_l_sign_row f_l_any_word f_l_any_arcs f_l_are_signs f_l_is_state f_l_is_line f_l_due f_l_spoiled f_l_told f_law C_InvalidLoom C_InvalidPage C_Loom C_ReadError : Addr} (X : K.In h) (G : h.Ns mainGlobals mg) (hfa : mg "law" = some (.ref fa))
    {od_InvalidLoom_init an_InvalidLoom_init : Option Addr} {sl_InvalidLoom_init : Array (Option Value)} {oc_InvalidLoom_init kV_InvalidLoom_init dc_InvalidLoom_init pm_InvalidLoom_init cd_InvalidLoom_init ct_InvalidLoom_init : Value}
    {od_InvalidPage_init an_InvalidPage_init : Option Addr} {sl_InvalidPage_init : Array (Option Value)} {oc_InvalidPage_init kV_InvalidPage_init dc_InvalidPage_init pm_InvalidPage_init cd_InvalidPage_init ct_InvalidPage_init : Value}
    {od_is_number an_is_number : Option Addr} {sl_is_number : Array (Option Value)} {oc_is_number kV_is_number dc_is_number pm_is_number cd_is_number ct_is_number : Value}
    {od_is_sequence an_is_sequence : Option Addr} {sl_is_sequence : Array (Option Value)} {oc_is_sequence kV_is_sequence dc_is_sequence pm_is_sequence cd_is_sequence ct_is_sequence : Value}
    {od_is_signs an_is_signs : Option Addr} {sl_is_signs : Array (Option Value)} {oc_is_signs kV_is_signs dc_is_signs pm_is_signs cd_is_signs ct_is_signs : Value}
    {od_is_string_over an_is_string_over : Option Addr} {sl_is_string_over : Array (Option Value)} {oc_is_string_over kV_is_string_over dc_is_string_over pm_is_string_over cd_is_string_over ct_is_string_over : Value}
    {od_is_word an_is_word : Option Addr} {sl_is_word : Array (Option Value)} {oc_is_word kV_is_word dc_is_word pm_is_word cd_is_word ct_is_word : Value}
    {od_check_signs an_check_signs : Option Addr} {sl_check_signs : Array (Option Value)} {oc_check_signs kV_check_signs dc_check_signs pm_check_signs cd_check_signs ct_check_signs : Value}
    {od_is_arc an_is_arc : Option Addr} {sl_is_arc : Array (Option Value)} {oc_is_arc kV_is_arc dc_is_arc pm_is_arc cd_is_arc ct_is_arc : Value}
    {od_Loom_init an_Loom_init : Option Addr} {sl_Loom_init : Array (Option Value)} {oc_Loom_init kV_Loom_init dc_Loom_init pm_Loom_init cd_Loom_init ct_Loom_init : Value}
    {od_Loom_eq an_Loom_eq : Option Addr} {sl_Loom_eq : Array (Option Value)} {oc_Loom_eq kV_Loom_eq dc_Loom_eq pm_Loom_eq cd_Loom_eq ct_Loom_eq : Value}
    {od_write_loom an_write_loom : Option Addr} {sl_write_loom : Array (Option Value)} {oc_write_loom kV_write_loom dc_write_loom pm_write_loom cd_write_loom ct_write_loom : Value}
    {od_numbers_up_to an_numbers_up_to : Option Addr} {sl_numbers_up_to : Array (Option Value)} {oc_numbers_up_to kV_numbers_up_to dc_numbers_up_to pm_numbers_up_to cd_numbers_up_to ct_numbers_up_to : Value}
    {od_arc_in an_arc_in : Option Addr} {sl_arc_in : Array (Option Value)} {oc_arc_in kV_arc_in dc_arc_in pm_arc_in cd_arc_in ct_arc_in : Value}
    {od_signs_in an_signs_in : Option Addr} {sl_signs_in : Array (Option Value)} {oc_signs_in kV_signs_in dc_signs_in pm_signs_in cd_signs_in ct_signs_in : Value}
    {od_read_loom an_read_loom : Option Addr} {sl_read_loom : Array (Option Value)} {oc_read_loom kV_read_loom dc_read_loom pm_read_loom cd_read_loom ct_read_loom : Value}
    {od_l_pool an_l_pool : Option Addr} {sl_l_pool : Array (Option Value)} {oc_l_pool kV_l_pool dc_l_pool pm_l_pool cd_l_pool ct_l_pool : Value}
    {od_l_draw an_l_draw : Option Addr} {sl_l_draw : Array (Option Value)} {oc_l_draw kV_l_draw dc_l_draw pm_l_draw cd_l_draw ct_l_draw : Value}
    {od_l_pick an_l_pick : Option Addr} {sl_l_pick : Array (Option Value)} {oc_l_pick kV_l_pick dc_l_pick pm_l_pick cd_l_pick ct_l_pick : Value}
    {od_l_sign_row an_l_sign_row : Option Addr} {sl_l_sign_row : Array (Option Value)} {oc_l_sign_row kV_l_sign_row dc_l_sign_row pm_l_sign_row cd_l_sign_row ct_l_sign_row : Value}
    {od_l_any_word an_l_any_word : Option Addr} {sl_l_any_word : Array (Option Value)} {oc_l_any_word kV_l_any_word dc_l_any_word pm_l_any_word cd_l_any_word ct_l_any_word : Value}
    {od_l_any_arcs an_l_any_arcs : Option Addr} {sl_l_any_arcs : Array (Option Value)} {oc_l_any_arcs kV_l_any_arcs dc_l_any_arcs pm_l_any_arcs cd_l_any_arcs ct_l_any_arcs : Value}
    {od_l_are_signs an_l_are_signs : Option Addr} {sl_l_are_signs : Array (Option Value)} {oc_l_are_signs kV_l_are_signs dc_l_are_signs pm_l_are_signs cd_l_are_signs ct_l_are_signs : Value}
    {od_l_is_state an_l_is_state : Option Addr} {sl_l_is_state : Array (Option Value)} {oc_l_is_state kV_l_is_state dc_l_is_state pm_l_is_state cd_l_is_state ct_l_is_state : Value}
    {od_l_is_line an_l_is_line : Option Addr} {sl_l_is_line : Array (Option Value)} {oc_l_is_line kV_l_is_line dc_l_is_line pm_l_is_line cd_l_is_line ct_l_is_line : Value}
    {od_l_due an_l_due : Option Addr} {sl_l_due : Array (Option Value)} {oc_l_due kV_l_due dc_l_due pm_l_due cd_l_due ct_l_due : Value}
    {od_l_spoiled an_l_spoiled : Option Addr} {sl_l_spoiled : Array (Option Value)} {oc_l_spoiled kV_l_spoiled dc_l_spoiled pm_l_spoiled cd_l_spoiled ct_l_spoiled : Value}
    {od_l_told an_l_told : Option Addr} {sl_l_told : Array (Option Value)} {oc_l_told kV_l_told dc_l_told pm_l_told cd_l_told ct_l_told : Value}
    {od_law an_law : Option Addr} {sl_law : Array (Option Value)} {oc_law kV_law dc_law pm_law cd_law ct_law : Value}
    {nm_InvalidPage q_InvalidPage : Str} {ns_InvalidPage : Addr} {bs_InvalidPage : List Value} {sn_InvalidPage : List Str} {sub_InvalidPage : List Value} {ab_InvalidPage : Bool} {col_InvalidPage : Option Bool} {dd_InvalidPage : Option Addr} {m0_InvalidPage m1_InvalidPage m2_InvalidPage m3_InvalidPage m5_InvalidPage : Option Value}
    {t_MOST_SIGNS : Tok}
    {t_LONGEST_WORD : Tok}
    {t_LAST_STATE : Tok}
    {t_MOST_ARCS : Tok}
    (a_CReadError : PySem.W.nsIn K mainGlobals "ReadError" = some (some (.ref C_ReadError)))
    (a_CLoom : PySem.W.nsIn K mainGlobals "Loom" = some (some (.ref C_Loom)))
    (a_CInvalidPage : PySem.W.nsIn K mainGlobals "InvalidPage" = some (some (.ref C_InvalidPage)))
    (a_CInvalidLoom : PySem.W.nsIn K mainGlobals "InvalidLoom" = some (some (.ref C_InvalidLoom)))
    (a_InvalidLoom_init : PySem.W.findIn K (.ref C_InvalidLoom) "__init__" = some (some (.ref f_InvalidLoom_init)))
    (i_InvalidLoom_init : PySem.W.isFn K (.ref f_InvalidLoom_init) = true)
    (l_InvalidLoom_init : K.lookup f_InvalidLoom_init = some ⟨oc_InvalidLoom_init, od_InvalidLoom_init, .func (PySem.W.fnOf "__init__" "InvalidLoom.__init__" (defArgs s_InvalidLoom_init) (defBody s_InvalidLoom_init) (defScope s_InvalidLoom_init) .none kV_InvalidLoom_init dc_InvalidLoom_init pm_InvalidLoom_init an_InvalidLoom_init cd_InvalidLoom_init ct_InvalidLoom_init), sl_InvalidLoom_init⟩)
    (c_InvalidLoom_init : PySem.W.codeIn K cd_InvalidLoom_init "InvalidLoom.__init__" = true)
    (k_InvalidLoom_init : PySem.W.keepIn K (.ref f_InvalidLoom_init) = true)
    (a_InvalidPage_init : PySem.W.findIn K (.ref C_InvalidPage) "__init__" = some (some (.ref f_InvalidPage_init)))
    (i_InvalidPage_init : PySem.W.isFn K (.ref f_InvalidPage_init) = true)
    (l_InvalidPage_init : K.lookup f_InvalidPage_init = some ⟨oc_InvalidPage_init, od_InvalidPage_init, .func (PySem.W.fnOf "__init__" "InvalidPage.__init__" (defArgs s_InvalidPage_init) (defBody s_InvalidPage_init) (defScope s_InvalidPage_init) .none kV_InvalidPage_init dc_InvalidPage_init pm_InvalidPage_init an_InvalidPage_init cd_InvalidPage_init ct_InvalidPage_init), sl_InvalidPage_init⟩)
    (c_InvalidPage_init : PySem.W.codeIn K cd_InvalidPage_init "InvalidPage.__init__" = true)
    (k_InvalidPage_init : PySem.W.keepIn K (.ref f_InvalidPage_init) = true)
    (a_is_number : PySem.W.nsIn K mainGlobals "is_number" = some (some (.ref f_is_number)))
    (l_is_number : K.lookup f_is_number = some ⟨oc_is_number, od_is_number, .func (PySem.W.fnOf "is_number" "is_number" (defArgs s_is_number) (defBody s_is_number) (defScope s_is_number) .none kV_is_number dc_is_number pm_is_number an_is_number cd_is_number ct_is_number), sl_is_number⟩)
    (c_is_number : PySem.W.codeIn K cd_is_number "is_number" = true)
    (k_is_number : PySem.W.keepIn K (.ref f_is_number) = true)
    (a_is_sequence : PySem.W.nsIn K mainGlobals "is_sequence" = some (some (.ref f_is_sequence)))
    (l_is_sequence : K.lookup f_is_sequence = some ⟨oc_is_sequence, od_is_sequence, .func (PySem.W.fnOf "is_sequence" "is_sequence" (defArgs s_is_sequence) (defBody s_is_sequence) (defScope s_is_sequence) .none kV_is_sequence dc_is_sequence pm_is_sequence an_is_sequence cd_is_sequence ct_is_sequence), sl_is_sequence⟩)
    (c_is_sequence : PySem.W.codeIn K cd_is_sequence "is_sequence" = true)
    (k_is_sequence : PySem.W.keepIn K (.ref f_is_sequence) = true)
    (a_is_signs : PySem.W.nsIn K mainGlobals "is_signs" = some (some (.ref f_is_signs)))
    (l_is_signs : K.lookup f_is_signs = some ⟨oc_is_signs, od_is_signs, .func (PySem.W.fnOf "is_signs" "is_signs" (defArgs s_is_signs) (defBody s_is_signs) (defScope s_is_signs) .none kV_is_signs dc_is_signs pm_is_signs an_is_signs cd_is_signs ct_is_signs), sl_is_signs⟩)
    (c_is_signs : PySem.W.codeIn K cd_is_signs "is_signs" = true)
    (k_is_signs : PySem.W.keepIn K (.ref f_is_signs) = true)
    (a_is_string_over : PySem.W.nsIn K mainGlobals "is_string_over" = some (some (.ref f_is_string_over)))
    (l_is_string_over : K.lookup f_is_string_over = some ⟨oc_is_string_over, od_is_string_over, .func (PySem.W.fnOf "is_string_over" "is_string_over" (defArgs s_is_string_over) (defBody s_is_string_over) (defScope s_is_string_over) .none kV_is_string_over dc_is_string_over pm_is_string_over an_is_string_over cd_is_string_over ct_is_string_over), sl_is_string_over⟩)
    (c_is_string_over : PySem.W.codeIn K cd_is_string_over "is_string_over" = true)
    (k_is_string_over : PySem.W.keepIn K (.ref f_is_string_over) = true)
    (a_is_word : PySem.W.nsIn K mainGlobals "is_word" = some (some (.ref f_is_word)))
    (l_is_word : K.lookup f_is_word = some ⟨oc_is_word, od_is_word, .func (PySem.W.fnOf "is_word" "is_word" (defArgs s_is_word) (defBody s_is_word) (defScope s_is_word) .none kV_is_word dc_is_word pm_is_word an_is_word cd_is_word ct_is_word), sl_is_word⟩)
    (c_is_word : PySem.W.codeIn K cd_is_word "is_word" = true)
    (k_is_word : PySem.W.keepIn K (.ref f_is_word) = true)
    (a_check_signs : PySem.W.nsIn K mainGlobals "check_signs" = some (some (.ref f_check_signs)))
    (l_check_signs : K.lookup f_check_signs = some ⟨oc_check_signs, od_check_signs, .func (PySem.W.fnOf "check_signs" "check_signs" (defArgs s_check_signs) (defBody s_check_signs) (defScope s_check_signs) .none kV_check_signs dc_check_signs pm_check_signs an_check_signs cd_check_signs ct_check_signs), sl_check_signs⟩)
    (c_check_signs : PySem.W.codeIn K cd_check_signs "check_signs" = true)
    (k_check_signs : PySem.W.keepIn K (.ref f_check_signs) = true)
    (a_is_arc : PySem.W.nsIn K mainGlobals "is_arc" = some (some (.ref f_is_arc)))
    (l_is_arc : K.lookup f_is_arc = some ⟨oc_is_arc, od_is_arc, .func (PySem.W.fnOf "is_arc" "is_arc" (defArgs s_is_arc) (defBody s_is_arc) (defScope s_is_arc) .none kV_is_arc dc_is_arc pm_is_arc an_is_arc cd_is_arc ct_is_arc), sl_is_arc⟩)
    (c_is_arc : PySem.W.codeIn K cd_is_arc "is_arc" = true)
    (k_is_arc : PySem.W.keepIn K (.ref f_is_arc) = true)
    (a_Loom_init : PySem.W.findIn K (.ref C_Loom) "__init__" = some (some (.ref f_Loom_init)))
    (i_Loom_init : PySem.W.isFn K (.ref f_Loom_init) = true)
    (l_Loom_init : K.lookup f_Loom_init = some ⟨oc_Loom_init, od_Loom_init, .func (PySem.W.fnOf "__init__" "Loom.__init__" (defArgs s_Loom_init) (defBody s_Loom_init) (defScope s_Loom_init) .none kV_Loom_init dc_Loom_init pm_Loom_init an_Loom_init cd_Loom_init ct_Loom_init), sl_Loom_init⟩)
    (c_Loom_init : PySem.W.codeIn K cd_Loom_init "Loom.__init__" = true)
    (k_Loom_init : PySem.W.keepIn K (.ref f_Loom_init) = true)
    (a_Loom_eq : PySem.W.findIn K (.ref C_Loom) "__eq__" = some (some (.ref f_Loom_eq)))
    (l_Loom_eq : K.lookup f_Loom_eq = some ⟨oc_Loom_eq, od_Loom_eq, .func (PySem.W.fnOf "__eq__" "Loom.__eq__" (defArgs s_Loom_eq) (defBody s_Loom_eq) (defScope s_Loom_eq) .none kV_Loom_eq dc_Loom_eq pm_Loom_eq an_Loom_eq cd_Loom_eq ct_Loom_eq), sl_Loom_eq⟩)
    (c_Loom_eq : PySem.W.codeIn K cd_Loom_eq "Loom.__eq__" = true)
    (k_Loom_eq : PySem.W.keepIn K (.ref f_Loom_eq) = true)
    (a_write_loom : PySem.W.nsIn K mainGlobals "write_loom" = some (some (.ref f_write_loom)))
    (l_write_loom : K.lookup f_write_loom = some ⟨oc_write_loom, od_write_loom, .func (PySem.W.fnOf "write_loom" "write_loom" (defArgs s_write_loom) (defBody s_write_loom) (defScope s_write_loom) .none kV_write_loom dc_write_loom pm_write_loom an_write_loom cd_write_loom ct_write_loom), sl_write_loom⟩)
    (c_write_loom : PySem.W.codeIn K cd_write_loom "write_loom" = true)
    (k_write_loom : PySem.W.keepIn K (.ref f_write_loom) = true)
    (a_numbers_up_to : PySem.W.nsIn K mainGlobals "numbers_up_to" = some (some (.ref f_numbers_up_to)))
    (l_numbers_up_to : K.lookup f_numbers_up_to = some ⟨oc_numbers_up_to, od_numbers_up_to, .func (PySem.W.fnOf "numbers_up_to" "numbers_up_to" (defArgs s_numbers_up_to) (defBody s_numbers_up_to) (defScope s_numbers_up_to) .none kV_numbers_up_to dc_numbers_up_to pm_numbers_up_to an_numbers_up_to cd_numbers_up_to ct_numbers_up_to), sl_numbers_up_to⟩)
    (c_numbers_up_to : PySem.W.codeIn K cd_numbers_up_to "numbers_up_to" = true)
    (k_numbers_up_to : PySem.W.keepIn K (.ref f_numbers_up_to) = true)
    (a_arc_in : PySem.W.nsIn K mainGlobals "arc_in" = some (some (.ref f_arc_in)))
    (l_arc_in : K.lookup f_arc_in = some ⟨oc_arc_in, od_arc_in, .func (PySem.W.fnOf "arc_in" "arc_in" (defArgs s_arc_in) (defBody s_arc_in) (defScope s_arc_in) .none kV_arc_in dc_arc_in pm_arc_in an_arc_in cd_arc_in ct_arc_in), sl_arc_in⟩)
    (c_arc_in : PySem.W.codeIn K cd_arc_in "arc_in" = true)
    (k_arc_in : PySem.W.keepIn K (.ref f_arc_in) = true)
    (a_signs_in : PySem.W.nsIn K mainGlobals "signs_in" = some (some (.ref f_signs_in)))
    (l_signs_in : K.lookup f_signs_in = some ⟨oc_signs_in, od_signs_in, .func (PySem.W.fnOf "signs_in" "signs_in" (defArgs s_signs_in) (defBody s_signs_in) (defScope s_signs_in) .none kV_signs_in dc_signs_in pm_signs_in an_signs_in cd_signs_in ct_signs_in), sl_signs_in⟩)
    (c_signs_in : PySem.W.codeIn K cd_signs_in "signs_in" = true)
    (k_signs_in : PySem.W.keepIn K (.ref f_signs_in) = true)
    (a_read_loom : PySem.W.nsIn K mainGlobals "read_loom" = some (some (.ref f_read_loom)))
    (l_read_loom : K.lookup f_read_loom = some ⟨oc_read_loom, od_read_loom, .func (PySem.W.fnOf "read_loom" "read_loom" (defArgs s_read_loom) (defBody s_read_loom) (defScope s_read_loom) .none kV_read_loom dc_read_loom pm_read_loom an_read_loom cd_read_loom ct_read_loom), sl_read_loom⟩)
    (c_read_loom : PySem.W.codeIn K cd_read_loom "read_loom" = true)
    (k_read_loom : PySem.W.keepIn K (.ref f_read_loom) = true)
    (a_l_pool : PySem.W.nsIn K mainGlobals "_law_pool" = some (some (.ref f_l_pool)))
    (l_l_pool : K.lookup f_l_pool = some ⟨oc_l_pool, od_l_pool, .func (PySem.W.fnOf "_law_pool" "_law_pool" (defArgs s_l_pool) (defBody s_l_pool) (defScope s_l_pool) .none kV_l_pool dc_l_pool pm_l_pool an_l_pool cd_l_pool ct_l_pool), sl_l_pool⟩)
    (c_l_pool : PySem.W.codeIn K cd_l_pool "_law_pool" = true)
    (k_l_pool : PySem.W.keepIn K (.ref f_l_pool) = true)
    (a_l_draw : PySem.W.nsIn K mainGlobals "_law_draw" = some (some (.ref f_l_draw)))
    (l_l_draw : K.lookup f_l_draw = some ⟨oc_l_draw, od_l_draw, .func (PySem.W.fnOf "_law_draw" "_law_draw" (defArgs s_l_draw) (defBody s_l_draw) (defScope s_l_draw) .none kV_l_draw dc_l_draw pm_l_draw an_l_draw cd_l_draw ct_l_draw), sl_l_draw⟩)
    (c_l_draw : PySem.W.codeIn K cd_l_draw "_law_draw" = true)
    (k_l_draw : PySem.W.keepIn K (.ref f_l_draw) = true)
    (a_l_pick : PySem.W.nsIn K mainGlobals "_law_pick" = some (some (.ref f_l_pick)))
    (l_l_pick : K.lookup f_l_pick = some ⟨oc_l_pick, od_l_pick, .func (PySem.W.fnOf "_law_pick" "_law_pick" (defArgs s_l_pick) (defBody s_l_pick) (defScope s_l_pick) .none kV_l_pick dc_l_pick pm_l_pick an_l_pick cd_l_pick ct_l_pick), sl_l_pick⟩)
    (c_l_pick : PySem.W.codeIn K cd_l_pick "_law_pick" = true)
    (k_l_pick : PySem.W.keepIn K (.ref f_l_pick) = true)
    (a_l_sign_row : PySem.W.nsIn K mainGlobals "_law_sign_row" = some (some (.ref f_l_sign_row)))
    (l_l_sign_row : K.lookup f_l_sign_row = some ⟨oc_l_sign_row, od_l_sign_row, .func (PySem.W.fnOf "_law_sign_row" "_law_sign_row" (defArgs s_l_sign_row) (defBody s_l_sign_row) (defScope s_l_sign_row) .none kV_l_sign_row dc_l_sign_row pm_l_sign_row an_l_sign_row cd_l_sign_row ct_l_sign_row), sl_l_sign_row⟩)
    (c_l_sign_row : PySem.W.codeIn K cd_l_sign_row "_law_sign_row" = true)
    (k_l_sign_row : PySem.W.keepIn K (.ref f_l_sign_row) = true)
    (a_l_any_word : PySem.W.nsIn K mainGlobals "_law_any_word" = some (some (.ref f_l_any_word)))
    (l_l_any_word : K.lookup f_l_any_word = some ⟨oc_l_any_word, od_l_any_word, .func (PySem.W.fnOf "_law_any_word" "_law_any_word" (defArgs s_l_any_word) (defBody s_l_any_word) (defScope s_l_any_word) .none kV_l_any_word dc_l_any_word pm_l_any_word an_l_any_word cd_l_any_word ct_l_any_word), sl_l_any_word⟩)
    (c_l_any_word : PySem.W.codeIn K cd_l_any_word "_law_any_word" = true)
    (k_l_any_word : PySem.W.keepIn K (.ref f_l_any_word) = true)
    (a_l_any_arcs : PySem.W.nsIn K mainGlobals "_law_any_arcs" = some (some (.ref f_l_any_arcs)))
    (l_l_any_arcs : K.lookup f_l_any_arcs = some ⟨oc_l_any_arcs, od_l_any_arcs, .func (PySem.W.fnOf "_law_any_arcs" "_law_any_arcs" (defArgs s_l_any_arcs) (defBody s_l_any_arcs) (defScope s_l_any_arcs) .none kV_l_any_arcs dc_l_any_arcs pm_l_any_arcs an_l_any_arcs cd_l_any_arcs ct_l_any_arcs), sl_l_any_arcs⟩)
    (c_l_any_arcs : PySem.W.codeIn K cd_l_any_arcs "_law_any_arcs" = true)
    (k_l_any_arcs : PySem.W.keepIn K (.ref f_l_any_arcs) = true)
    (a_l_are_signs : PySem.W.nsIn K mainGlobals "_law_are_signs" = some (some (.ref f_l_are_signs)))
    (l_l_are_signs : K.lookup f_l_are_signs = some ⟨oc_l_are_signs, od_l_are_signs, .func (PySem.W.fnOf "_law_are_signs" "_law_are_signs" (defArgs s_l_are_signs) (defBody s_l_are_signs) (defScope s_l_are_signs) .none kV_l_are_signs dc_l_are_signs pm_l_are_signs an_l_are_signs cd_l_are_signs ct_l_are_signs), sl_l_are_signs⟩)
    (c_l_are_signs : PySem.W.codeIn K cd_l_are_signs "_law_are_signs" = true)
    (k_l_are_signs : PySem.W.keepIn K (.ref f_l_are_signs) = true)
    (a_l_is_state : PySem.W.nsIn K mainGlobals "_law_is_state" = some (some (.ref f_l_is_state)))
    (l_l_is_state : K.lookup f_l_is_state = some ⟨oc_l_is_state, od_l_is_state, .func (PySem.W.fnOf "_law_is_state" "_law_is_state" (defArgs s_l_is_state) (defBody s_l_is_state) (defScope s_l_is_state) .none kV_l_is_state dc_l_is_state pm_l_is_state an_l_is_state cd_l_is_state ct_l_is_state), sl_l_is_state⟩)
    (c_l_is_state : PySem.W.codeIn K cd_l_is_state "_law_is_state" = true)
    (k_l_is_state : PySem.W.keepIn K (.ref f_l_is_state) = true)
    (a_l_is_line : PySem.W.nsIn K mainGlobals "_law_is_line" = some (some (.ref f_l_is_line)))
    (l_l_is_line : K.lookup f_l_is_line = some ⟨oc_l_is_line, od_l_is_line, .func (PySem.W.fnOf "_law_is_line" "_law_is_line" (defArgs s_l_is_line) (defBody s_l_is_line) (defScope s_l_is_line) .none kV_l_is_line dc_l_is_line pm_l_is_line an_l_is_line cd_l_is_line ct_l_is_line), sl_l_is_line⟩)
    (c_l_is_line : PySem.W.codeIn K cd_l_is_line "_law_is_line" = true)
    (k_l_is_line : PySem.W.keepIn K (.ref f_l_is_line) = true)
    (a_l_due : PySem.W.nsIn K mainGlobals "_law_due" = some (some (.ref f_l_due)))
    (l_l_due : K.lookup f_l_due = some ⟨oc_l_due, od_l_due, .func (PySem.W.fnOf "_law_due" "_law_due" (defArgs s_l_due) (defBody s_l_due) (defScope s_l_due) .none kV_l_due dc_l_due pm_l_due an_l_due cd_l_due ct_l_due), sl_l_due⟩)
    (c_l_due : PySem.W.codeIn K cd_l_due "_law_due" = true)
    (k_l_due : PySem.W.keepIn K (.ref f_l_due) = true)
    (a_l_spoiled : PySem.W.nsIn K mainGlobals "_law_spoiled" = some (some (.ref f_l_spoiled)))
    (l_l_spoiled : K.lookup f_l_spoiled = some ⟨oc_l_spoiled, od_l_spoiled, .func (PySem.W.fnOf "_law_spoiled" "_law_spoiled" (defArgs s_l_spoiled) (defBody s_l_spoiled) (defScope s_l_spoiled) .none kV_l_spoiled dc_l_spoiled pm_l_spoiled an_l_spoiled cd_l_spoiled ct_l_spoiled), sl_l_spoiled⟩)
    (c_l_spoiled : PySem.W.codeIn K cd_l_spoiled "_law_spoiled" = true)
    (k_l_spoiled : PySem.W.keepIn K (.ref f_l_spoiled) = true)
    (a_l_told : PySem.W.nsIn K mainGlobals "_law_told" = some (some (.ref f_l_told)))
    (l_l_told : K.lookup f_l_told = some ⟨oc_l_told, od_l_told, .func (PySem.W.fnOf "_law_told" "_law_told" (defArgs s_l_told) (defBody s_l_told) (defScope s_l_told) .none kV_l_told dc_l_told pm_l_told an_l_told cd_l_told ct_l_told), sl_l_told⟩)
    (c_l_told : PySem.W.codeIn K cd_l_told "_law_told" = true)
    (k_l_told : PySem.W.keepIn K (.ref f_l_told) = true)
    (a_law : PySem.W.nsIn K mainGlobals "law" = some (some (.ref f_law)))
    (l_law : K.lookup f_law = some ⟨oc_law, od_law, .func (PySem.W.fnOf "law" "law" (defArgs s_law) (defBody s_law) (defScope s_law) .none kV_law dc_law pm_law an_law cd_law ct_law), sl_law⟩)
    (c_law : PySem.W.codeIn K cd_law "law" = true)
    (k_law : PySem.W.keepIn K (.ref f_law) = true)
    (pg_Loom : PySem.W.plainGet K C_Loom Str.empty = true)
    (hd_Loom : PySem.W.hasDictIn K C_Loom = true)
    (po_Loom : PySem.W.plainOver K C_Loom = true)
    (sa_Loom : PySem.W.findIn K (.ref C_Loom) "__setattr__" = some (some (.builtin "object.__setattr__")))
    (mk_Loom : PySem.W.makesIn K C_Loom = true)
    (kc_Loom : PySem.W.keepIn K (.ref C_Loom) = true)
    (na_Loom_signs : PySem.W.findIn K (.ref C_Loom) "signs" = some none)
    (na_Loom_arcs : PySem.W.findIn K (.ref C_Loom) "arcs" = some none)
    (kc_ReadError : PySem.W.keepIn K (.ref C_ReadError) = true)
    (e1_ReadError : PySem.W.findIn K (.ref C_ReadError) "__getattribute__" = some (some (.builtin "BaseException.__getattribute__")))
    (e2_ReadError : PySem.W.findIn K (.ref C_ReadError) "__getattr__" = some none)
    (e3_ReadError : PySem.W.subIn K (.ref C_ReadError) (.type "BaseException") = some true)
    (e4_ReadError : PySem.W.hasDictIn K C_ReadError = true)
    (e5_ReadError : PySem.W.findIn K (.ref C_ReadError) "__class__" = some (some (.builtin "object.__class__")))
    (e8_ReadError : PySem.W.mroIn K C_ReadError (.type "object") = some true)
    (ty_ReadError : PySem.W.typeIn K (.ref C_ReadError) = some (.type "type"))
    (in_ReadError : PySem.W.excIn K C_ReadError [.type "Exception", .type "BaseException", .type "object"] "Exception.__new__" = true)
    (kc_InvalidPage : PySem.W.keepIn K (.ref C_InvalidPage) = true)
    (e1_InvalidPage : PySem.W.findIn K (.ref C_InvalidPage) "__getattribute__" = some (some (.builtin "BaseException.__getattribute__")))
    (e2_InvalidPage : PySem.W.findIn K (.ref C_InvalidPage) "__getattr__" = some none)
    (e3_InvalidPage : PySem.W.subIn K (.ref C_InvalidPage) (.type "BaseException") = some true)
    (e4_InvalidPage : PySem.W.hasDictIn K C_InvalidPage = true)
    (e5_InvalidPage : PySem.W.findIn K (.ref C_InvalidPage) "__class__" = some (some (.builtin "object.__class__")))
    (e8_InvalidPage : PySem.W.mroIn K C_InvalidPage (.type "object") = some true)
    (ty_InvalidPage : PySem.W.typeIn K (.ref C_InvalidPage) = some (.type "type"))
    (xi_InvalidPage : K.lookup C_InvalidPage = some (excClassObj nm_InvalidPage q_InvalidPage C_InvalidPage ns_InvalidPage bs_InvalidPage [.ref C_ReadError, .type "Exception", .type "BaseException", .type "object"] true sn_InvalidPage sub_InvalidPage ab_InvalidPage col_InvalidPage dd_InvalidPage m0_InvalidPage m1_InvalidPage m2_InvalidPage m3_InvalidPage m5_InvalidPage "Exception.__new__"))
    (tf_InvalidPage : PySem.W.typeIn K (.ref f_InvalidPage_init) = some (.type "function"))
    (sa_InvalidPage : PySem.W.findIn K (.ref C_InvalidPage) "__setattr__" = some (some (.builtin "object.__setattr__")))
    (no_InvalidPage_line : PySem.W.findIn K (.ref C_InvalidPage) "line" = some none)
    (e6 : PySem.W.specialIn K (.builtin "object.__class__") "__get__" = some (some (.builtin "getset_descriptor.__get__")))
    (e7 : PySem.W.takesIn K (.builtin "object.__class__") = some true)
    (ic_Loom : PySem.W.findIn K (.ref C_Loom) "__class__" = some (some (.builtin "object.__class__")))
    (ig : PySem.W.specialIn K (.builtin "object.__class__") "__get__" = some (some (.builtin "getset_descriptor.__get__")))
    (it : PySem.W.takesIn K (.builtin "object.__class__") = some true)
    (im_Loom : PySem.W.mroIn K C_Loom (.type "object") = some true)
    (eq_Loom : PySem.W.findIn K (.ref C_Loom) "__eq__" = some (some (.ref f_Loom_eq)))
    (fn_Loom_eq : PySem.W.isFn K (.ref f_Loom_eq) = true)
    (ne_Loom : PySem.W.findIn K (.ref C_Loom) "__ne__" = some (some (.builtin "object.__ne__")))
    (cc_Loom : PySem.W.isClsIn K C_Loom = true)
    (ty_Loom : PySem.W.typeIn K (.ref C_Loom) = some (.type "type"))
    (cl_InvalidPage : PySem.W.isClsIn K C_InvalidPage = true)
    (ss_InvalidPage : PySem.W.subIn K (.ref C_InvalidPage) (.ref C_InvalidPage) = some true)
    (nx_InvalidPage_line : PySem.W.findIn K (.ref C_InvalidPage) "line" = some none)
    (sw_Loom : PySem.W.subIn K (.ref C_Loom) (.type "str") = some false)
    (z_abs : PySem.W.nsIn K mainGlobals "abs" = some none)
    (z_all : PySem.W.nsIn K mainGlobals "all" = some none)
    (z_bool : PySem.W.nsIn K mainGlobals "bool" = some none)
    (z_enumerate : PySem.W.nsIn K mainGlobals "enumerate" = some none)
    (z_int : PySem.W.nsIn K mainGlobals "int" = some none)
    (z_isinstance : PySem.W.nsIn K mainGlobals "isinstance" = some none)
    (z_len : PySem.W.nsIn K mainGlobals "len" = some none)
    (z_list : PySem.W.nsIn K mainGlobals "list" = some none)
    (z_max : PySem.W.nsIn K mainGlobals "max" = some none)
    (z_range : PySem.W.nsIn K mainGlobals "range" = some none)
    (z_str : PySem.W.nsIn K mainGlobals "str" = some none)
    (z_tuple : PySem.W.nsIn K mainGlobals "tuple" = some none)
    (z_zip : PySem.W.nsIn K mainGlobals "zip" = some none)
    (g_MOST_SIGNS : PySem.W.nsIn K mainGlobals "MOST_SIGNS" = some (some (.int 4 t_MOST_SIGNS)))
    (g_LONGEST_WORD : PySem.W.nsIn K mainGlobals "LONGEST_WORD" = some (some (.int 12 t_LONGEST_WORD)))
    (g_LAST_STATE : PySem.W.nsIn K mainGlobals "LAST_STATE" = some (some (.int 63 t_LAST_STATE)))
    (g_MOST_ARCS : PySem.W.nsIn K mainGlobals "MOST_ARCS" = some (some (.int 200 t_MOST_ARCS)))
    : ∃ fd : FuncData, (∀ (s : Shared) (v : Value), BindsTo s fd ⟨[v], []⟩ [("_law_script", v)]) ∧ ∀ base : Heap, K.In base → base.Ns mainGlobals mg → FnOk l.prog w K mg base CX0 9 fa fd P_law (spLaw K) := by
  have e := hfa.symm.trans (PySem.W.mg_of X G a_law)
  cases e
  have F_InvalidLoom_init := fun_mk (st := s_InvalidLoom_init) l_InvalidLoom_init c_InvalidLoom_init k_InvalidLoom_init
  have b_InvalidLoom_init := F_InvalidLoom_init.binds (ps := P_InvalidLoom_init) fun _ _ _ _ _ _ us hl => match us, hl with | [_, _, _], _ => rfl
  have F_InvalidPage_init := fun_mk (st := s_InvalidPage_init) l_InvalidPage_init c_InvalidPage_init k_InvalidPage_init
  have b_InvalidPage_init := F_InvalidPage_init.binds (ps := P_InvalidPage_init) fun _ _ _ _ _ _ us hl => match us, hl with | [_, _], _ => rfl
  have F_is_number := fun_mk (st := s_is_number) l_is_number c_is_number k_is_number
  have b_is_number := F_is_number.binds (ps := P_is_number) fun _ _ _ _ _ _ us hl => match us, hl with | [_, _, _], _ => rfl
  have F_is_sequence := fun_mk (st := s_is_sequence) l_is_sequence c_is_sequence k_is_sequence
  have b_is_sequence := F_is_sequence.binds (ps := P_is_sequence) fun _ _ _ _ _ _ us hl => match us, hl with | [_, _, _], _ => rfl
  have F_is_signs := fun_mk (st := s_is_signs) l_is_signs c_is_signs k_is_signs
  have b_is_signs := F_is_signs.binds (ps := P_is_signs) fun _ _ _ _ _ _ us hl => match us, hl with | [_], _ => rfl
  have F_is_string_over := fun_mk (st := s_is_string_over) l_is_string_over c_is_string_over k_is_string_over
  have b_is_string_over := F_is_string_over.binds (ps := P_is_string_over) fun _ _ _ _ _ _ us hl => match us, hl with | [_, _, _, _], _ => rfl
  have F_is_word := fun_mk (st := s_is_word) l_is_word c_is_word k_is_word
  have b_is_word := F_is_word.binds (ps := P_is_word) fun _ _ _ _ _ _ us hl => match us, hl with | [_, _], _ => rfl
  have F_check_signs := fun_mk (st := s_check_signs) l_check_signs c_check_signs k_check_signs
  have b_check_signs := F_check_signs.binds (ps := P_check_signs) fun _ _ _ _ _ _ us hl => match us, hl with | [_], _ => rfl
  have F_is_arc := fun_mk (st := s_is_arc) l_is_arc c_is_arc k_is_arc
  have b_is_arc := F_is_arc.binds (ps := P_is_arc) fun _ _ _ _ _ _ us hl => match us, hl with | [_, _], _ => rfl
  have F_Loom_init := fun_mk (st := s_Loom_init) l_Loom_init c_Loom_init k_Loom_init
  have b_Loom_init := F_Loom_init.binds (ps := P_Loom_init) fun _ _ _ _ _ _ us hl => match us, hl with | [_, _, _], _ => rfl
  have F_Loom_eq := fun_mk (st := s_Loom_eq) l_Loom_eq c_Loom_eq k_Loom_eq
  have b_Loom_eq := F_Loom_eq.binds (ps := P_Loom_eq) fun _ _ _ _ _ _ us hl => match us, hl with | [_, _], _ => rfl
  have F_write_loom := fun_mk (st := s_write_loom) l_write_loom c_write_loom k_write_loom
  have b_write_loom := F_write_loom.binds (ps := P_write_loom) fun _ _ _ _ _ _ us hl => match us, hl with | [_], _ => rfl
  have F_numbers_up_to := fun_mk (st := s_numbers_up_to) l_numbers_up_to c_numbers_up_to k_numbers_up_to
  have b_numbers_up_to := F_numbers_up_to.binds (ps := P_numbers_up_to) fun _ _ _ _ _ _ us hl => match us, hl with | [_], _ => rfl
  have F_arc_in := fun_mk (st := s_arc_in) l_arc_in c_arc_in k_arc_in
  have b_arc_in := F_arc_in.binds (ps := P_arc_in) fun _ _ _ _ _ _ us hl => match us, hl with | [_, _], _ => rfl
  have F_signs_in := fun_mk (st := s_signs_in) l_signs_in c_signs_in k_signs_in
  have b_signs_in := F_signs_in.binds (ps := P_signs_in) fun _ _ _ _ _ _ us hl => match us, hl with | [_], _ => rfl
  have F_read_loom := fun_mk (st := s_read_loom) l_read_loom c_read_loom k_read_loom
  have b_read_loom := F_read_loom.binds (ps := P_read_loom) fun _ _ _ _ _ _ us hl => match us, hl with | [_], _ => rfl
  have F_l_pool := fun_mk (st := s_l_pool) l_l_pool c_l_pool k_l_pool
  have b_l_pool := F_l_pool.binds (ps := P_l_pool) fun _ _ _ _ _ _ us hl => match us, hl with | [_], _ => rfl
  have F_l_draw := fun_mk (st := s_l_draw) l_l_draw c_l_draw k_l_draw
  have b_l_draw := F_l_draw.binds (ps := P_l_draw) fun _ _ _ _ _ _ us hl => match us, hl with | [_, _], _ => rfl
  have F_l_pick := fun_mk (st := s_l_pick) l_l_pick c_l_pick k_l_pick
  have b_l_pick := F_l_pick.binds (ps := P_l_pick) fun _ _ _ _ _ _ us hl => match us, hl with | [_, _], _ => rfl
  have F_l_sign_row := fun_mk (st := s_l_sign_row) l_l_sign_row c_l_sign_row k_l_sign_row
  have b_l_sign_row := F_l_sign_row.binds (ps := P_l_sign_row) fun _ _ _ _ _ _ us hl => match us, hl with | [_, _], _ => rfl
  have F_l_any_word := fun_mk (st := s_l_any_word) l_l_any_word c_l_any_word k_l_any_word
  have b_l_any_word := F_l_any_word.binds (ps := P_l_any_word) fun _ _ _ _ _ _ us hl => match us, hl with | [_, _, _], _ => rfl
  have F_l_any_arcs := fun_mk (st := s_l_any_arcs) l_l_any_arcs c_l_any_arcs k_l_any_arcs
  have b_l_any_arcs := F_l_any_arcs.binds (ps := P_l_any_arcs) fun _ _ _ _ _ _ us hl => match us, hl with | [_, _, _, _], _ => rfl
  have F_l_are_signs := fun_mk (st := s_l_are_signs) l_l_are_signs c_l_are_signs k_l_are_signs
  have b_l_are_signs := F_l_are_signs.binds (ps := P_l_are_signs) fun _ _ _ _ _ _ us hl => match us, hl with | [_], _ => rfl
  have F_l_is_state := fun_mk (st := s_l_is_state) l_l_is_state c_l_is_state k_l_is_state
  have b_l_is_state := F_l_is_state.binds (ps := P_l_is_state) fun _ _ _ _ _ _ us hl => match us, hl with | [_], _ => rfl
  have F_l_is_line := fun_mk (st := s_l_is_line) l_l_is_line c_l_is_line k_l_is_line
  have b_l_is_line := F_l_is_line.binds (ps := P_l_is_line) fun _ _ _ _ _ _ us hl => match us, hl with | [_, _], _ => rfl
  have F_l_due := fun_mk (st := s_l_due) l_l_due c_l_due k_l_due
  have b_l_due := F_l_due.binds (ps := P_l_due) fun _ _ _ _ _ _ us hl => match us, hl with | [_], _ => rfl
  have F_l_spoiled := fun_mk (st := s_l_spoiled) l_l_spoiled c_l_spoiled k_l_spoiled
  have b_l_spoiled := F_l_spoiled.binds (ps := P_l_spoiled) fun _ _ _ _ _ _ us hl => match us, hl with | [_, _], _ => rfl
  have F_l_told := fun_mk (st := s_l_told) l_l_told c_l_told k_l_told
  have b_l_told := F_l_told.binds (ps := P_l_told) fun _ _ _ _ _ _ us hl => match us, hl with | [_], _ => rfl
  have F_law := fun_mk (st := s_law) l_law c_law k_law
  have b_law := F_law.binds (ps := P_law) fun _ _ _ _ _ _ us hl => match us, hl with | [_], _ => rfl
  exact ⟨_, fun s v => .of_eq rfl, fun base _ _ => ok_law {
    f_InvalidLoom_init := _
    fd_InvalidLoom_init := _
    F_InvalidLoom_init := F_InvalidLoom_init
    b_InvalidLoom_init := b_InvalidLoom_init
    f_InvalidPage_init := _
    fd_InvalidPage_init := _
    F_InvalidPage_init := F_InvalidPage_init
    b_InvalidPage_init := b_InvalidPage_init
    f_is_number := _
    fd_is_number := _
    F_is_number := F_is_number
    b_is_number := b_is_number
    m_is_number := PySem.W.mg_of X G a_is_number
    f_is_sequence := _
    fd_is_sequence := _
    F_is_sequence := F_is_sequence
    b_is_sequence := b_is_sequence
    m_is_sequence := PySem.W.mg_of X G a_is_sequence
    f_is_signs := _
    fd_is_signs := _
    F_is_signs := F_is_signs
    b_is_signs := b_is_signs
    m_is_signs := PySem.W.mg_of X G a_is_signs
    f_is_string_over := _
    fd_is_string_over := _
    F_is_string_over := F_is_string_over
    b_is_string_over := b_is_string_over
    m_is_string_over := PySem.W.mg_of X G a_is_string_over
    f_is_word := _
    fd_is_word := _
    F_is_word := F_is_word
    b_is_word := b_is_word
    m_is_word := PySem.W.mg_of X G a_is_word
    f_check_signs := _
    fd_check_signs := _
    F_check_signs := F_check_signs
    b_check_signs := b_check_signs
    m_check_signs := PySem.W.mg_of X G a_check_signs
    f_is_arc := _
    fd_is_arc := _
    F_is_arc := F_is_arc
    b_is_arc := b_is_arc
    m_is_arc := PySem.W.mg_of X G a_is_arc
    f_Loom_init := _
    fd_Loom_init := _
    F_Loom_init := F_Loom_init
    b_Loom_init := b_Loom_init
    f_Loom_eq := _
    fd_Loom_eq := _
    F_Loom_eq := F_Loom_eq
    b_Loom_eq := b_Loom_eq
    f_write_loom := _
    fd_write_loom := _
    F_write_loom := F_write_loom
    b_write_loom := b_write_loom
    m_write_loom := PySem.W.mg_of X G a_write_loom
    f_numbers_up_to := _
    fd_numbers_up_to := _
    F_numbers_up_to := F_numbers_up_to
    b_numbers_up_to := b_numbers_up_to
    m_numbers_up_to := PySem.W.mg_of X G a_numbers_up_to
    f_arc_in := _
    fd_arc_in := _
    F_arc_in := F_arc_in
    b_arc_in := b_arc_in
    m_arc_in := PySem.W.mg_of X G a_arc_in
    f_signs_in := _
    fd_signs_in := _
    F_signs_in := F_signs_in
    b_signs_in := b_signs_in
    m_signs_in := PySem.W.mg_of X G a_signs_in
    f_read_loom := _
    fd_read_loom := _
    F_read_loom := F_read_loom
    b_read_loom := b_read_loom
    m_read_loom := PySem.W.mg_of X G a_read_loom
    f_l_pool := _
    fd_l_pool := _
    F_l_pool := F_l_pool
    b_l_pool := b_l_pool
    m_l_pool := PySem.W.mg_of X G a_l_pool
    f_l_draw := _
    fd_l_draw := _
    F_l_draw := F_l_draw
    b_l_draw := b_l_draw
    m_l_draw := PySem.W.mg_of X G a_l_draw
    f_l_pick := _
    fd_l_pick := _
    F_l_pick := F_l_pick
    b_l_pick := b_l_pick
    m_l_pick := PySem.W.mg_of X G a_l_pick
    f_l_sign_row := _
    fd_l_sign_row := _
    F_l_sign_row := F_l_sign_row
    b_l_sign_row := b_l_sign_row
    m_l_sign_row := PySem.W.mg_of X G a_l_sign_row
    f_l_any_word := _
    fd_l_any_word := _
    F_l_any_word := F_l_any_word
    b_l_any_word := b_l_any_word
    m_l_any_word := PySem.W.mg_of X G a_l_any_word
    f_l_any_arcs := _
    fd_l_any_arcs := _
    F_l_any_arcs := F_l_any_arcs
    b_l_any_arcs := b_l_any_arcs
    m_l_any_arcs := PySem.W.mg_of X G a_l_any_arcs
    f_l_are_signs := _
    fd_l_are_signs := _
    F_l_are_signs := F_l_are_signs
    b_l_are_signs := b_l_are_signs
    m_l_are_signs := PySem.W.mg_of X G a_l_are_signs
    f_l_is_state := _
    fd_l_is_state := _
    F_l_is_state := F_l_is_state
    b_l_is_state := b_l_is_state
    m_l_is_state := PySem.W.mg_of X G a_l_is_state
    f_l_is_line := _
    fd_l_is_line := _
    F_l_is_line := F_l_is_line
    b_l_is_line := b_l_is_line
    m_l_is_line := PySem.W.mg_of X G a_l_is_line
    f_l_due := _
    fd_l_due := _
    F_l_due := F_l_due
    b_l_due := b_l_due
    m_l_due := PySem.W.mg_of X G a_l_due
    f_l_spoiled := _
    fd_l_spoiled := _
    F_l_spoiled := F_l_spoiled
    b_l_spoiled := b_l_spoiled
    m_l_spoiled := PySem.W.mg_of X G a_l_spoiled
    f_l_told := _
    fd_l_told := _
    F_l_told := F_l_told
    b_l_told := b_l_told
    m_l_told := PySem.W.mg_of X G a_l_told
    f_law := _
    fd_law := _
    F_law := F_law
    b_law := b_law
    m_law := PySem.W.mg_of X G a_law
    n_abs := PySem.W.mg_none_of X G z_abs
    n_all := PySem.W.mg_none_of X G z_all
    n_bool := PySem.W.mg_none_of X G z_bool
    n_enumerate := PySem.W.mg_none_of X G z_enumerate
    n_int := PySem.W.mg_none_of X G z_int
    n_isinstance := PySem.W.mg_none_of X G z_isinstance
    n_len := PySem.W.mg_none_of X G z_len
    n_list := PySem.W.mg_none_of X G z_list
    n_max := PySem.W.mg_none_of X G z_max
    n_range := PySem.W.mg_none_of X G z_range
    n_str := PySem.W.mg_none_of X G z_str
    n_tuple := PySem.W.mg_none_of X G z_tuple
    n_zip := PySem.W.mg_none_of X G z_zip
    t_MOST_SIGNS := t_MOST_SIGNS
    g_MOST_SIGNS := PySem.W.mg_of X G g_MOST_SIGNS
    t_LONGEST_WORD := t_LONGEST_WORD
    g_LONGEST_WORD := PySem.W.mg_of X G g_LONGEST_WORD
    t_LAST_STATE := t_LAST_STATE
    g_LAST_STATE := PySem.W.mg_of X G g_LAST_STATE
    t_MOST_ARCS := t_MOST_ARCS
    g_MOST_ARCS := PySem.W.mg_of X G g_MOST_ARCS
    C_Loom := C_Loom
    M_Loom := ⟨mk_Loom, a_Loom_init, i_Loom_init, kc_Loom⟩
    cl_Loom := ⟨pg_Loom, hd_Loom, po_Loom, sa_Loom⟩
    g_Loom := PySem.W.mg_of X G a_CLoom
    na_Loom_signs := na_Loom_signs
    na_Loom_arcs := na_Loom_arcs
    C_ReadError := C_ReadError
    g_ReadError := PySem.W.mg_of X G a_CReadError
    kc_ReadError := kc_ReadError
    E_ReadError := ⟨e1_ReadError, e2_ReadError, e3_ReadError, e4_ReadError, e5_ReadError, e6, e7, e8_ReadError⟩
    ty_ReadError := ty_ReadError
    in_ReadError := in_ReadError
    C_InvalidPage := C_InvalidPage
    g_InvalidPage := PySem.W.mg_of X G a_CInvalidPage
    kc_InvalidPage := kc_InvalidPage
    E_InvalidPage := ⟨e1_InvalidPage, e2_InvalidPage, e3_InvalidPage, e4_InvalidPage, e5_InvalidPage, e6, e7, e8_InvalidPage⟩
    ty_InvalidPage := ty_InvalidPage
    X_InvalidPage := { gC := PySem.W.mg_of X G a_CInvalidPage, cls := ⟨_, _, _, _, _, _, _, _, _, _, _, _, _, _, _, xi_InvalidPage, by first | rfl | decide +kernel⟩, sa := sa_InvalidPage, ga := e1_InvalidPage, gg := e2_InvalidPage, no := fun f hf => by rw [List.mem_singleton.mp hf]; assumption, iC := a_InvalidPage_init, tC := tf_InvalidPage, kC := kc_InvalidPage, exC := e3_InvalidPage, tyC := ty_InvalidPage, hdC := e4_InvalidPage, fn := ⟨_, _, _, _, _, _, _, _, _, l_InvalidPage_init, c_InvalidPage_init⟩ }
    ic_Loom := ic_Loom
    ig := ig
    it := it
    im_Loom := im_Loom
    eq_Loom := eq_Loom
    fn_Loom_eq := fn_Loom_eq
    ne_Loom := ne_Loom
    cc_Loom := cc_Loom
    ty_Loom := ty_Loom
    cl_InvalidPage := cl_InvalidPage
    ss_InvalidPage := ss_InvalidPage
    nx_InvalidPage_line := nx_InvalidPage_line
    sw_Loom := sw_Loom }⟩
theorem walk {l : PySem.W.OpenLaw} {q : Program} {loose : List Str} {XP : (Str → Option Value) → Heap → Prop} {YP : World → Heap → Prop} {d : DefRec} {K : Params → PySem.W.Frag} (hn : l.most = some 63) (hdf : d.params.defaults = [])
    (hY : ∀ (w : World) (h : Heap), YP w h → (K w.params).In h)
    (F : ∀ (w : World) (mg : Str → Option Value) (fa : Addr) (h : Heap), (K w.params).In h → h.Ns mainGlobals mg → mg d.name = some (.ref fa) →
      ∃ fd : FuncData, (∀ (s : Shared) (u : Value), BindsTo s fd ⟨[u], []⟩ [("_law_script", u)]) ∧ ∀ base : Heap, (K w.params).In base → base.Ns mainGlobals mg → FnOk l.prog w (K w.params) mg base CX0 9 fa fd P_law (spLaw (K w.params))) :
    PySem.W.WalkO q loose XP YP l.row.toRowW d [] (fun f vs => PySem.call f vs) :=
  L2.walk_of (n := 63) (k := 9) (x := "_law_script") (CX := fun _ => CX0) (sp := fun w => spLaw (K w.params)) hn (by decide) hdf ⟨rfl, by decide, by decide⟩ hY F (fun _ _ a ns hl _ hS => ⟨a, ns, rfl, hS, hl, fun _ => rfl⟩) fun _ _ _ _ _ z => z
end J

open PySem PySem.W PyProof.Rows in
set_option maxRecDepth 100000 in
set_option maxHeartbeats 0 in
theorem PySem.Challenge.cw_onewayread_k77_wrong_pages_of_looms_holds : PySem.Challenge.rw_onewayread_k77_wrong_pages_of_looms.Holds := by
  w_on; o_law; k_head; (case hw => w_witness2)
  k_fill
  refine J.walk (l := PySem.Challenge.rw_onewayread_k77_wrong_pages_of_looms) rfl rfl (fun w h Y => PySem.W.kIn_of Y) ?F
  case F =>
    intro w mg fa h KX G hmg
    refine' J.all_mk KX G hmg ?a_CReadError ?a_CLoom ?a_CInvalidPage ?a_CInvalidLoom ?a_InvalidLoom_init ?i_InvalidLoom_init ?l_InvalidLoom_init ?c_InvalidLoom_init ?k_InvalidLoom_init ?a_InvalidPage_init ?i_InvalidPage_init ?l_InvalidPage_init ?c_InvalidPage_init ?k_InvalidPage_init ?a_is_number ?l_is_number ?c_is_number ?k_is_number ?a_is_sequence ?l_is_sequence ?c_is_sequence ?k_is_sequence ?a_is_signs ?l_is_signs ?c_is_signs ?k_is_signs ?a_is_string_over ?l_is_string_over ?c_is_string_over ?k_is_string_over ?a_is_word ?l_is_word ?c_is_word ?k_is_word ?a_check_signs ?l_check_signs ?c_check_signs ?k_check_signs ?a_is_arc ?l_is_arc ?c_is_arc ?k_is_arc ?a_Loom_init ?i_Loom_init ?l_Loom_init ?c_Loom_init ?k_Loom_init ?a_Loom_eq ?l_Loom_eq ?c_Loom_eq ?k_Loom_eq ?a_write_loom ?l_write_loom ?c_write_loom ?k_write_loom ?a_numbers_up_to ?l_numbers_up_to ?c_numbers_up_to ?k_numbers_up_to ?a_arc_in ?l_arc_in ?c_arc_in ?k_arc_in ?a_signs_in ?l_signs_in ?c_signs_in ?k_signs_in ?a_read_loom ?l_read_loom ?c_read_loom ?k_read_loom ?a_l_pool ?l_l_pool ?c_l_pool ?k_l_pool ?a_l_draw ?l_l_draw ?c_l_draw ?k_l_draw ?a_l_pick ?l_l_pick ?c_l_pick ?k_l_pick ?a_l_sign_row ?l_l_sign_row ?c_l_sign_row ?k_l_sign_row ?a_l_any_word ?l_l_any_word ?c_l_any_word ?k_l_any_word ?a_l_any_arcs ?l_l_any_arcs ?c_l_any_arcs ?k_l_any_arcs ?a_l_are_signs ?l_l_are_signs ?c_l_are_signs ?k_l_are_signs ?a_l_is_state ?l_l_is_state ?c_l_is_state ?k_l_is_state ?a_l_is_line ?l_l_is_line ?c_l_is_line ?k_l_is_line ?a_l_due ?l_l_due ?c_l_due ?k_l_due ?a_l_spoiled ?l_l_spoiled ?c_l_spoiled ?k_l_spoiled ?a_l_told ?l_l_told ?c_l_told ?k_l_told ?a_law ?l_law ?c_law ?k_law ?pg_Loom ?hd_Loom ?po_Loom ?sa_Loom ?mk_Loom ?kc_Loom ?na_Loom_signs ?na_Loom_arcs ?kc_ReadError ?e1_ReadError ?e2_ReadError ?e3_ReadError ?e4_ReadError ?e5_ReadError ?e8_ReadError ?ty_ReadError ?in_ReadError ?kc_InvalidPage ?e1_InvalidPage ?e2_InvalidPage ?e3_InvalidPage ?e4_InvalidPage ?e5_InvalidPage ?e8_InvalidPage ?ty_InvalidPage ?xi_InvalidPage ?tf_InvalidPage ?sa_InvalidPage ?no_InvalidPage_line ?e6 ?e7 ?ic_Loom ?ig ?it ?im_Loom ?eq_Loom ?fn_Loom_eq ?ne_Loom ?cc_Loom ?ty_Loom ?cl_InvalidPage ?ss_InvalidPage ?nx_InvalidPage_line ?sw_Loom ?z_abs ?z_all ?z_bool ?z_enumerate ?z_int ?z_isinstance ?z_len ?z_list ?z_max ?z_range ?z_str ?z_tuple ?z_zip ?g_MOST_SIGNS ?g_LONGEST_WORD ?g_LAST_STATE ?g_MOST_ARCS
    (case a_CReadError => k_is)
    (case a_CLoom => k_is)
    (case a_CInvalidPage => k_is)
    (case a_CInvalidLoom => k_is)
    (case a_InvalidLoom_init => k_is)
    (case i_InvalidLoom_init => k_is)
    (case l_InvalidLoom_init => k_is)
    (case c_InvalidLoom_init => k_is)
    (case k_InvalidLoom_init => k_is)
    (case a_InvalidPage_init => k_is)
    (case i_InvalidPage_init => k_is)
    (case l_InvalidPage_init => k_is)
    (case c_InvalidPage_init => k_is)
    (case k_InvalidPage_init => k_is)
    (case a_is_number => k_is)
    (case l_is_number => k_is)
    (case c_is_number => k_is)
    (case k_is_number => k_is)
    (case a_is_sequence => k_is)
    (case l_is_sequence => k_is)
    (case c_is_sequence => k_is)
    (case k_is_sequence => k_is)
    (case a_is_signs => k_is)
    (case l_is_signs => k_is)
    (case c_is_signs => k_is)
    (case k_is_signs => k_is)
    (case a_is_string_over => k_is)
    (case l_is_string_over => k_is)
    (case c_is_string_over => k_is)
    (case k_is_string_over => k_is)
    (case a_is_word => k_is)
    (case l_is_word => k_is)
    (case c_is_word => k_is)
    (case k_is_word => k_is)
    (case a_check_signs => k_is)
    (case l_check_signs => k_is)
    (case c_check_signs => k_is)
    (case k_check_signs => k_is)
    (case a_is_arc => k_is)
    (case l_is_arc => k_is)
    (case c_is_arc => k_is)
    (case k_is_arc => k_is)
    (case a_Loom_init => k_is)
    (case i_Loom_init => k_is)
    (case l_Loom_init => k_is)
    (case c_Loom_init => k_is)
    (case k_Loom_init => k_is)
    (case a_Loom_eq => k_is)
    (case l_Loom_eq => k_is)
    (case c_Loom_eq => k_is)
    (case k_Loom_eq => k_is)
    (case a_write_loom => k_is)
    (case l_write_loom => k_is)
    (case c_write_loom => k_is)
    (case k_write_loom => k_is)
    (case a_numbers_up_to => k_is)
    (case l_numbers_up_to => k_is)
    (case c_numbers_up_to => k_is)
    (case k_numbers_up_to => k_is)
    (case a_arc_in => k_is)
    (case l_arc_in => k_is)
    (case c_arc_in => k_is)
    (case k_arc_in => k_is)
    (case a_signs_in => k_is)
    (case l_signs_in => k_is)
    (case c_signs_in => k_is)
    (case k_signs_in => k_is)
    (case a_read_loom => k_is)
    (case l_read_loom => k_is)
    (case c_read_loom => k_is)
    (case k_read_loom => k_is)
    (case a_l_pool => k_is)
    (case l_l_pool => k_is)
    (case c_l_pool => k_is)
    (case k_l_pool => k_is)
    (case a_l_draw => k_is)
    (case l_l_draw => k_is)
    (case c_l_draw => k_is)
    (case k_l_draw => k_is)
    (case a_l_pick => k_is)
    (case l_l_pick => k_is)
    (case c_l_pick => k_is)
    (case k_l_pick => k_is)
    (case a_l_sign_row => k_is)
    (case l_l_sign_row => k_is)
    (case c_l_sign_row => k_is)
    (case k_l_sign_row => k_is)
    (case a_l_any_word => k_is)
    (case l_l_any_word => k_is)
    (case c_l_any_word => k_is)
    (case k_l_any_word => k_is)
    (case a_l_any_arcs => k_is)
    (case l_l_any_arcs => k_is)
    (case c_l_any_arcs => k_is)
    (case k_l_any_arcs => k_is)
    (case a_l_are_signs => k_is)
    (case l_l_are_signs => k_is)
    (case c_l_are_signs => k_is)
    (case k_l_are_signs => k_is)
    (case a_l_is_state => k_is)
    (case l_l_is_state => k_is)
    (case c_l_is_state => k_is)
    (case k_l_is_state => k_is)
    (case a_l_is_line => k_is)
    (case l_l_is_line => k_is)
    (case c_l_is_line => k_is)
    (case k_l_is_line => k_is)
    (case a_l_due => k_is)
    (case l_l_due => k_is)
    (case c_l_due => k_is)
    (case k_l_due => k_is)
    (case a_l_spoiled => k_is)
    (case l_l_spoiled => k_is)
    (case c_l_spoiled => k_is)
    (case k_l_spoiled => k_is)
    (case a_l_told => k_is)
    (case l_l_told => k_is)
    (case c_l_told => k_is)
    (case k_l_told => k_is)
    (case a_law => k_is)
    (case l_law => k_is)
    (case c_law => k_is)
    (case k_law => k_is)
    (case pg_Loom => k_is)
    (case hd_Loom => k_is)
    (case po_Loom => k_is)
    (case sa_Loom => k_is)
    (case mk_Loom => k_is)
    (case kc_Loom => k_is)
    (case na_Loom_signs => k_is)
    (case na_Loom_arcs => k_is)
    (case kc_ReadError => k_is)
    (case e1_ReadError => k_is)
    (case e2_ReadError => k_is)
    (case e3_ReadError => k_is)
    (case e4_ReadError => k_is)
    (case e5_ReadError => k_is)
    (case e8_ReadError => k_is)
    (case ty_ReadError => k_is)
    (case in_ReadError => k_exc)
    (case kc_InvalidPage => k_is)
    (case e1_InvalidPage => k_is)
    (case e2_InvalidPage => k_is)
    (case e3_InvalidPage => k_is)
    (case e4_InvalidPage => k_is)
    (case e5_InvalidPage => k_is)
    (case e8_InvalidPage => k_is)
    (case ty_InvalidPage => k_is)
    (case xi_InvalidPage => k_is)
    (case tf_InvalidPage => k_is)
    (case sa_InvalidPage => k_is)
    (case no_InvalidPage_line => k_is)
    (case e6 => k_is)
    (case e7 => k_is)
    (case ic_Loom => k_is)
    (case ig => k_is)
    (case it => k_is)
    (case im_Loom => k_is)
    (case eq_Loom => k_is)
    (case fn_Loom_eq => k_is)
    (case ne_Loom => k_is)
    (case cc_Loom => k_is)
    (case ty_Loom => k_is)
    (case cl_InvalidPage => k_is)
    (case ss_InvalidPage => k_is)
    (case nx_InvalidPage_line => k_is)
    (case sw_Loom => k_is)
    (case z_abs => k_is)
    (case z_all => k_is)
    (case z_bool => k_is)
    (case z_enumerate => k_is)
    (case z_int => k_is)
    (case z_isinstance => k_is)
    (case z_len => k_is)
    (case z_list => k_is)
    (case z_max => k_is)
    (case z_range => k_is)
    (case z_str => k_is)
    (case z_tuple => k_is)
    (case z_zip => k_is)
    (case g_MOST_SIGNS => k_is)
    (case g_LONGEST_WORD => k_is)
    (case g_LAST_STATE => k_is)
    (case g_MOST_ARCS => k_is)

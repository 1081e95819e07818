import PyProof.Rows.All
import Wide.All
import OpenK.AllK
import Wide.FinOn
import HandS.ForMost
import HandS.TryMany
import HandS.Walk
import KE.GoesEnum
import HandS.Defaults
import KE.KxIndex
import HandS.ForExc
import HandS.ExcValue
import HandS.ExcIs
import HandS.ExcInit
import HandS.IsInst
import KE.KExcInit
import KE.GoesMore
import HandS.StrMore
import HandS.Conv
import HandS.Codes
import HandS.Style
import HandS.FStr
import HandS.DictComp
import HandS.ExcField
import HandS.OwnEq
import HandS.More
import PyProof.P3Eq
import PySem.Challenge.RW_onewayread_k78_rows_written_and_read
set_option Elab.async false
set_option linter.all false
set_option maxRecDepth 100000
set_option maxHeartbeats 4000000
/-! several except clauses, some of which name the error -/
namespace L2
open PySem PySem.Spec PyProof.Rows
/-- an error at g that has landed in the frame of X -/
def Lnd (X : Cx) (pins : List (Addr × Obj)) (τ : St) (G : Hp) (g : Addr) (cls : Value) (d : Option Addr) (t : Shared) : Prop :=
  ∃ (B : Heap) (t0 : Shared), Inv X pins τ G t0 ∧ (∀ b o, t0.heap.get? b = some o → b ∉ frs X.stack → B.get? b = some o) ∧ t0.heap.UpToSlots t.heap ∧
    HandSPX.FlyingZ B (X.env :: X.outer) g (Zc cls d) t.heap ∧ G g = none ∧ t.os = t0.os ∧ AllBare t.gens ∧ g ≠ X.env.locals ∧ g ∉ X.fs
section
variable {X : Cx} {pins : List (Addr × Obj)} {τ : St} {G : Hp} {g : Addr} {cls : Value} {d : Option Addr} {t : Shared}
theorem Lnd.inv (l : Lnd X pins τ G g cls d t) : Inv X pins τ G t := by
  obtain ⟨B, t0, J, n, u, f, _, o, y, _⟩ := l
  exact J.landed n f.1 u o y
theorem Lnd.as_suite (l : Lnd X pins τ G g cls d t) : ∃ oe, Zc cls d oe ∧ (∃ vs, oe.data = .fields vs) ∧ t.heap.get? g = some oe ∧ Inv (X.suite g ((g, oe) :: (X.pn ++ pins))) [] τ G t := by
  have J := l.inv
  obtain ⟨B, t0, _, _, _, f, z, _, _, n1, n2⟩ := l
  obtain ⟨oe, vs, h1, h2, h3⟩ := f.there
  exact ⟨oe, h2, ⟨vs, h3⟩, h1, J.suite h1 h3 z n1 n2⟩
theorem Lnd.again {M : Model} {A : Around} {E : Value → Shared → Prop} {Q : Unit → Shared → Prop} (l : Lnd X pins τ G g cls d t) (q : ∀ t', Lnd X pins τ G g cls d t' → Q () t') : wpAny M A (setFlight (.ref g) none) Q E t := by
  obtain ⟨B, t0, J, n, u, f, z, o, y, n1, n2⟩ := l
  exact HandSPX.lands_againZ f fun h' f' u' => q _ ⟨B, t0, J, n, u.trans u', f', z, o, y, n1, n2⟩
/-- what the clauses wish, one behind the other; a slot where the clause names the error -/
def wCls (K : PySem.W.Frag) (Wout : WX) (D : Ends) : List (Value × Option Nat × (Addr → Value → Option Addr → TS)) → WX
  | [] => Wout
  | (c, none, ts) :: r => fun cls d τ G => ∃ b, PySem.W.exmOne K cls c = some b ∧ (b = true → ∀ g, G g = none → ts g cls d D τ G) ∧ (b = false → wCls K Wout D r cls d τ G)
  | (c, some i, ts) :: r => fun cls d τ G => ∃ b, PySem.W.exmOne K cls c = some b ∧
      (b = true → ∀ g, G g = none → ts g cls d { nx := fun τ' G' => D.nx (τ'.set i none) G', rt := D.rt, bk := fun τ' G' => D.bk (τ'.set i none) G', ct := fun τ' G' => D.ct (τ'.set i none) G' } (τ.set i (some (.ref g))) G) ∧
      (b = false → wCls K Wout D r cls d τ G)
inductive ClsOk (X : Cx) : List ExceptHandler → List (Value × Option Nat × (Addr → Value → Option Addr → TS)) → Prop
  | nil : ClsOk X [] []
  | plain {x : Str} {c : Value} {ts : Addr → Value → Option Addr → TS} {b : Stmt} {bs : List Stmt} {np hp : Pos} {hds : List ExceptHandler} {l : List (Value × Option Nat × (Addr → Value → Option Addr → TS))} (hc : Names X x c)
      (hsu : ∀ (g : Addr) (oe : Obj) (cls : Value) (d : Option Addr) (pn : List (Addr × Obj)), Zc cls d oe → (∃ vs, oe.data = .fields vs) → PSs (X.suite g ((g, oe) :: pn)) (b :: bs) (ts g cls d)) (r : ClsOk X hds l) :
      ClsOk X (.ExceptHandler (some (.Name x np)) none (b :: bs) hp :: hds) ((c, none, ts) :: l)
  | named {x n : Str} {i : Nat} {c : Value} {ts : Addr → Value → Option Addr → TS} {b : Stmt} {bs : List Stmt} {np hp : Pos} {hds : List ExceptHandler} {l : List (Value × Option Nat × (Addr → Value → Option Addr → TS))} (hc : Names X x c)
      (hN : X.N.Nodup) (hi : X.N[i]? = some n) (hk : X.env.kindOf n = some .local)
      (hsu : ∀ (g : Addr) (oe : Obj) (cls : Value) (d : Option Addr) (pn : List (Addr × Obj)), Zc cls d oe → (∃ vs, oe.data = .fields vs) → PSs (X.suite g ((g, oe) :: pn)) (b :: bs) (ts g cls d)) (r : ClsOk X hds l) :
      ClsOk X (.ExceptHandler (some (.Name x np)) (some n) (b :: bs) hp :: hds) ((c, some i, ts) :: l)
/-- the test of a clause -/
theorem Lnd.test {x : Str} {c : Value} {np hp : Pos} {b : Bool} {R : Result → Shared → Prop} (l : Lnd X pins τ G g cls d t) (hc : Names X x c) (e : PySem.W.exmOne X.K cls c = some b) (q : R (.ok (if b then .brk else .next)) t) :
    codeAny (model X.prog X.w) (X.A.mark (some (.ref g))) (.handlers (.ref g) [.ExceptHandler (some (.Name x np)) none [] hp] X.env) R t := by
  obtain ⟨oe, z, hv, he, S⟩ := l.as_suite
  have ty : PySem.W.Looks (model X.prog X.w) t.heap (typeOf (.ref g)) cls := fun A1 Q1 E1 s1 k1 q1 => wpAny_typeOf_ref (k1 _ _ he) (by rw [z.1]; exact q1)
  refine codeAny_handlers_test ?_
  have look := PySem.W.exm_one (M := model X.prog X.w) l.inv.kIn ty e
  obtain ⟨h1, h2, h3 | ⟨h3, h4, h5⟩⟩ := hc
  · exact ld_glob (X := X.suite g ((g, oe) :: (X.pn ++ pins))) S h1 h3 (look.here (by exact q)) h2
  · exact ld_blt (X := X.suite g ((g, oe) :: (X.pn ++ pins))) S h1 h3 h4 (look.here (by exact q)) h5 h2
/-- the clauses, gone through -/
theorem Lnd.through {Wout : WX} {D : Ends} (hst : X.stack = X.env :: X.outer) (hfr : X.env.frame = some X.env.locals) (tk : Takes X Wout) (ok : X.Ok) {hds : List ExceptHandler} {cl : List (Value × Option Nat × (Addr → Value → Option Addr → TS))} (hk : ClsOk X hds cl) :
    ∀ {t : Shared}, Lnd X pins τ G g cls d t → wCls X.K Wout D cl cls d τ G → wpAny (model X.prog X.w) X.A (handleBy (.ref g) X.env hds) (SP X pins D) X.xe t := by
  induction hk with
  | nil =>
    intro t l wish
    refine wpAny_handleBy_nil ?_
    obtain ⟨B, t0, J, n, u, f, z, o, y, _⟩ := l
    obtain ⟨_, _, _, oe, vs, trb, _, _, hob, _, hda, htr, _⟩ := id f
    have out : wpAny (model X.prog X.w) X.A (setFlight (.ref g) X.env.frame) (fun _ t4 => wpAny (model X.prog X.w) X.A (throw (.ref g) : Sem Flow) (SP X pins D) X.xe t4) X.xe t := by
      rw [hfr]
      exact HandSPX.setFlight_upZ f fun h4 held u4 => wpAny_throw (tk _ _ ⟨g, B, t0, pins, τ, G, cls, d, rfl, J, n, u.trans u4, .inr (.inr (by rw [hst]; exact held)), z, o, y, wish⟩)
    unfold PySem.passOn
    refine wpAny_bind (wpAny_field hob hda htr ?_)
    rw [if_neg (by simp : ¬ ((Value.ref trb == Value.none) = true))]
    first
      | exact wpAny_bind (wpAny_pure (wpAny_bind out))
      | exact wpAny_bind out
  | @plain x c ts b bs np hp hds2 l2 hc hsu r ih =>
    intro t l wish
    obtain ⟨k, e, yes, no⟩ := wish
    refine wpAny_handleBy_cons (l.test hc e ?_) (by intro q; cases q)
    cases k with
    | false => exact ih l (no rfl)
    | true =>
      refine codeAny_handlers_suite (l.again fun t' l' => ?_)
      obtain ⟨oe, z, hv, _, S⟩ := l'.as_suite
      have na : G g = none := by obtain ⟨_, _, _, _, _, _, q, _⟩ := l'; exact q
      refine wpAny_mono ((hsu g oe cls d (X.pn ++ pins) z hv).run [] _ _ G _ S (yes rfl g na)) (fun fl t6 hsp => ?_) (fun _ _ q => q.elim)
      match fl, hsp with
      | .next, ⟨_, _, S6, q6⟩ => exact ⟨_, _, S6.unsuite ok, q6⟩
      | .brk, ⟨_, _, S6, q6⟩ => exact ⟨_, _, S6.unsuite ok, q6⟩
      | .cont, ⟨_, _, S6, q6⟩ => exact ⟨_, _, S6.unsuite ok, q6⟩
      | .ret _, ⟨_, _, _, S6, r6, q6⟩ => exact ⟨_, _, _, S6.unsuite ok, r6, q6⟩
  | @named x n i c ts b bs np hp hds2 l2 hc hN hi hkd hsu r ih =>
    intro t l wish
    obtain ⟨k, e, yes, no⟩ := wish
    refine wpAny_handleBy_cons (l.test hc e ?_) (by intro q; cases q)
    cases k with
    | false => exact ih l (no rfl)
    | true =>
      refine codeAny_handlers_suite_as (l.again fun t' l' => ?_)
      obtain ⟨oe, z, hv, _, S⟩ := l'.as_suite
      have na : G g = none := by obtain ⟨_, _, _, _, _, _, q, _⟩ := l'; exact q
      refine store_ok (X := X.suite g ((g, oe) :: (X.pn ++ pins))) (v := .ref g) S hN hi (.inl hkd) rfl (fun t5 S5 => ?_) (.inr hkd)
      refine wpAny_mono ((hsu g oe cls d (X.pn ++ pins) z hv).run [] t5 _ G _ S5 (yes rfl g na)) (fun fl t6 hsp => ?_) (fun _ _ q => q.elim)
      match fl, hsp with
      | .next, ⟨_, _, S6, q6⟩ => exact gone_ok (S6.unsuite ok) hN hi hkd fun t7 J7 => ⟨_, _, J7, q6⟩
      | .brk, ⟨_, _, S6, q6⟩ => exact gone_ok (S6.unsuite ok) hN hi hkd fun t7 J7 => ⟨_, _, J7, q6⟩
      | .cont, ⟨_, _, S6, q6⟩ => exact gone_ok (S6.unsuite ok) hN hi hkd fun t7 J7 => ⟨_, _, J7, q6⟩
      | .ret _, ⟨_, _, _, S6, r6, q6⟩ => exact gone_ok (S6.unsuite ok) hN hi hkd fun t7 J7 => ⟨_, _, _, J7, r6, q6⟩
/-- try: body / except X: .. / except Y as e: .. -/
theorem ps_try_cls {body : List Stmt} {h₀ : ExceptHandler} {hds : List ExceptHandler} {pos : Pos} {tb : WX → TS} {Wout : WX} {cl : List (Value × Option Nat × (Addr → Value → Option Addr → TS))} (hst : X.stack = X.env :: X.outer) (hfr : X.env.frame = some X.env.locals) (tk : Takes X Wout)
    (hb : ∀ (W : WX) (pn : List (Addr × Obj)) (xe : Value → Shared → Prop), Takes (X.tr pn xe) W → PassesOwn (model X.prog X.w) X.A X.env xe → PSs (X.tr pn xe) body (tb W)) (hh : ClsOk X (h₀ :: hds) cl) :
    PS X (.Try body (h₀ :: hds) [] [] pos) (fun D σ H => tb (wCls X.K Wout D cl) D σ H) := by
  refine ⟨fun ps s0 σ0 H0 D I0 wish => ?_⟩
  have ok := I0.ok
  have frs1 : X.A.frames = some (X.env :: X.outer) := ok.frames.trans (congrArg some hst)
  let caught : Value → Shared → Prop := fun er ta => wpAny (model X.prog X.w) X.A (noteFrame er X.env) (fun _ tb' => wpAny (model X.prog X.w) X.A (setFlight er none) (fun _ tc => wpAny (model X.prog X.w) X.A (handleBy er X.env (h₀ :: hds)) (SP X ps D) X.xe tc) X.xe tb') X.xe ta
  have land : Takes (X.tr (X.pn ++ ps) caught) (wCls X.K Wout D cl) := by
    rintro er ta ⟨g, B, t0, _, τ, G, cls, d, rfl, J0, n, u, sky, na, o, y, q⟩
    have J := J0.ofTry ok
    refine Sky.land (B := B) (a := g) (Z := Zc cls d) (L := X.env.locals) (outer := X.outer) Zc.steady frs1 hfr (by rw [← hst]; exact sky) fun h3 f3 u3 => ?_
    obtain ⟨oe, vs, e1, e2, e3⟩ := f3.there
    have away : g ∉ frs (X.env :: X.outer) := fun hm => by
      obtain ⟨_, o2, q1, q2⟩ := f3.2.2.1.mem hm
      rw [e1] at q1
      cases q1
      exact q2 _ e3
    refine Lnd.through hst hfr tk ok hh ⟨B, t0, J, n, u.trans u3, f3, na, o, y, fun z => ?_, fun hm => ?_⟩ q
    · exact away (List.mem_filterMap.mpr ⟨X.env, List.mem_cons_self, by rw [hfr, z]⟩)
    · obtain ⟨en, m1, m2⟩ := List.mem_filterMap.mp hm
      exact away (List.mem_filterMap.mpr ⟨en, List.mem_cons_of_mem _ m1, m2⟩)
  refine wpAny_Try_except (wpAny_mono ((hb _ (X.pn ++ ps) caught land PassesOwn.looking).run [] s0 σ0 H0 D (I0.toTry _) wish) (fun fl t1 z => ?_) fun _ _ z => z)
  match fl, z with
  | .next, ⟨_, _, J1, q1⟩ => exact wpAny_execs_nil ⟨_, _, J1.ofTry ok, q1⟩
  | .brk, ⟨_, _, J1, q1⟩ => exact ⟨_, _, J1.ofTry ok, q1⟩
  | .cont, ⟨_, _, J1, q1⟩ => exact ⟨_, _, J1.ofTry ok, q1⟩
  | .ret _, ⟨_, _, _, J1, r1, q1⟩ => exact ⟨_, _, _, J1.ofTry ok, r1, q1⟩
end
end L2

set_option Elab.async false
set_option linter.all false
set_option maxRecDepth 100000
set_option maxHeartbeats 4000000
/-! enumerate of a tuple -/
namespace PySem
open Sem (wp)
open PySem.Spec PyProof.Rows
theorem meets_enumerate_newB1 {v : Value} {o : Obj} {H : Heap → Prop} (B : Begins v o H) :
    Meets (Builtin.«enumerate.__new__» ⟨[.type "enumerate", v], []⟩) (fun _ R s => H s.heap ∧
      R (.ok (.ret (.ref (s.heap.push o).objs.size))) { s with heap := (s.heap.push o).push { cls := .type "enumerate", data := .fields #[.none, .bool false, .ref s.heap.objs.size, rawInt 0, .none, .none] } }) :=
  .of_wp fun prog w A R s h => by
    obtain ⟨hp, g, d, tk, os⟩ := s; obtain ⟨h1, h⟩ := h
    have hsub := sub_enumerate
    have q1 : ∀ {A' : Around} {E : Value → Shared → Prop} {Q : Value → Shared → Prop}, Q (.ref hp.objs.size) ⟨hp.push o, g, d, tk, os⟩ → wpAny (model prog w) A' (pyIter v) Q E ⟨hp, g, d, tk, os⟩ :=
      fun q => B.iter prog w _ _ ⟨hp, g, d, tk, os⟩ _ h1 q
    wp_walk using q1
    refine wpAny_stack_any fun st => wpAny_pure ?_
    split
    · rename_i c _ _ _ _ _
      cases (c == Value.type "enumerate")
      · wp_walk using q1
        exact ⟨_, rfl, h⟩
      · wp_walk using q1
        exact ⟨_, rfl, h⟩
    · wp_walk using q1
      exact ⟨_, rfl, h⟩
section
variable {prog : Program} {w : World} {A : Around} {E : Value → Shared → Prop} {s : Shared}
theorem enum_begins1 {v : Value} {o : Obj} {H : Heap → Prop} {Q : Value → Shared → Prop} (B : Begins v o H) (h1 : H s.heap)
    (h : ∀ h', IsEnum h' (s.heap.objs.size + 1) s.heap.objs.size 0 .none → h'.get? s.heap.objs.size = some o → h'.objs.size = s.heap.objs.size + 2 →
      (∀ b o, s.heap.get? b = some o → h'.get? b = some o) → Q (.ref (s.heap.objs.size + 1)) { s with heap := h' }) :
    wpAny (model prog w) A (call (.type "enumerate") [v]) Q E s := by
  refine callType_new F.called_enumerate (by decide) (F.typeCall_enumerate_1 _) (F.newCall_enumerate_1 _) (fun obj => F.args_object_init_2 obj _) F.entry_enumerate_new
    (meets_enumerate_newB1 B) ⟨h1, ?_⟩
  have hz : (s.heap.push o).objs.size = s.heap.objs.size + 1 := Heap.size_push ..
  show _ ∧ _
  rw [hz]
  have he : IsEnum ((s.heap.push o).push { cls := .type "enumerate", data := .fields #[.none, .bool false, .ref s.heap.objs.size, rawInt 0, .none, .none] }) (s.heap.objs.size + 1) s.heap.objs.size 0 .none := by
    have := Heap.get?_push_size (s.heap.push o) (o := { cls := .type "enumerate", data := .fields #[.none, .bool false, .ref s.heap.objs.size, rawInt 0, .none, .none] }) rfl
    rw [hz] at this; exact this
  refine ⟨⟨_, he, rfl⟩, h _ he (Heap.get?_push_of_some _ (Heap.get?_push_size _ B.free)) (by rw [Heap.size_push, hz]) fun b o x => Heap.get?_push_of_some _ (Heap.get?_push_of_some _ x)⟩
end
end PySem
namespace L2
open PySem PySem.Spec PyProof.Rows
/-- the tuple at a, each item in a new pair -/
def IteT (K : PySem.W.Frag) (a : Addr) : It :=
  ⟨fun i H => ∃ (xs : List V) (x : V), SqT K H a xs ∧ xs[i]? = some x, fun i H v H' => ∃ T x, v = .ref T ∧ H T = none ∧ H' = upd H T (.tup [.int (i : Nat), x]) ∧ ∀ xs, SqT K H a xs → xs[i]? = some x, fun i H => ∃ xs : List V, SqT K H a xs ∧ xs.length = i⟩
theorem turn_enumT {P : Program} {w : World} {K : PySem.W.Frag} {elts : List Expr} {kk : Nat} {tpos : Pos} (a e it : Addr) (hn : e ≠ it) (hae : a ≠ e) (hai : a ≠ it) :
    Turn P w K (.Tuple elts kk tpos) (IteT K a) [e, it] e (fun i h => (∃ old, IsEnum h e it ((i : Nat) : Int) old) ∧ h.IsTupleIter it a i) where
  mem := by simp
  obj := fun i h st b hb => by
    obtain ⟨⟨old, he⟩, ⟨o, ho, hc, hd⟩⟩ := st
    have e' : b = e ∨ b = it := by simpa using hb
    rcases e' with z | z
    · rw [z]; exact ⟨_, he, fun v q => nomatch q⟩
    · rw [z]; exact ⟨o, ho, fun v q => by rw [hd] at q; cases q⟩
  keep := fun i h h' st k => by
    obtain ⟨⟨old, he⟩, ⟨o, ho, r⟩⟩ := st
    exact ⟨⟨old, k e (by simp) _ he⟩, ⟨o, k it (by simp) _ ho, r⟩⟩
  item := by
    intro X hP hw hK hc i pins s σ H E I hf st hg
    subst hP hw hK
    obtain ⟨⟨old, he⟩, hit⟩ := st
    obtain ⟨xs, x, hq, hx⟩ := hg
    obtain ⟨its, rv, p, hz⟩ := I.tuple hq
    obtain ⟨u, hu, ru⟩ := rv.get hx
    have hel : e < s.heap.objs.size := Heap.lt_size he
    have hil : it < s.heap.objs.size := by obtain ⟨_, q, _⟩ := hit; exact Heap.lt_size q
    have hlt : i < its.toArray.size := by
      have q := (List.getElem?_eq_some_iff.mp hu).1
      simpa using q
    refine wpAny_pyNext_enum_itemD (Draws.tuple (A := X.A.in1) (I.ok.hd hc) it a hai its.toArray) he ⟨hit, p⟩ hlt hn (by simp [hn]; exact fun z => hae z.symm) fun y h' tk hy ho hst hT hsz hk => ?_
    have hyu : y = u := by
      have q : its.toArray[i]? = some y := hy
      have q2 : its.toArray[i]? = some u := by simpa using hu
      rw [q] at q2
      exact Option.some.inj q2
    subst hyu
    refine ⟨_, rfl, wpAny_letOwnedTupleGo_enum (s := { s with heap := h', toks := tk + 1 }) ho fun h'' he' sb => ?_⟩
    have hT2 : h''.get? s.heap.objs.size = some { cls := .type "tuple", data := .seq #[.int i tk, y] } := (sb.2 _ (Nat.ne_of_gt hel)).trans hT
    have new : ObjOk X.prog X.w (upd H s.heap.objs.size (.tup [.int (i : Nat), x])) h'' s.heap.objs.size (.tup [.int (i : Nat), x]) :=
      ⟨by show 2 ≤ sizeLine; decide, [.int i tk, y], .cons ⟨_, rfl⟩ (.cons ru .nil), ⟨_, hT2, rfl, _, rfl⟩⟩
    have I1 : Inv X pins σ (upd H s.heap.objs.size (.tup [.int (i : Nat), x])) { s with heap := h'', toks := tk + 1 } :=
      I.turnedNew (ch := [e, it]) (fun b ob hb q => (sb.2 b (fun z => hb (by simp [z]))).trans (hk b ob (fun z => hb (by simp [z])) (fun z => hb (by simp [z])) q)) hf (Nat.le_refl _) new
    obtain ⟨oi, hoi, ri⟩ := hst.1
    refine ⟨.ref s.heap.objs.size, _, I1, rfl, ⟨_, x, rfl, I.hok.fresh (Nat.le_refl _), rfl, fun ys hy => by rw [I.tuple_inj hy hq]; exact hx⟩, ⟨⟨y, ?_⟩, ⟨oi, (sb.2 it (Ne.symm hn)).trans hoi, ri⟩⟩, fun b hb => ?_⟩
    · have e1 : ((i + 1 : Nat) : Int) = (i : Int) + 1 := by omega
      rw [e1]; exact he'
    · have hb' : b < s.heap.objs.size := by
        have e' : b = e ∨ b = it := by simpa using hb
        rcases e' with z | z
        · rw [z]; exact hel
        · rw [z]; exact hil
      rw [upd_ne (Nat.ne_of_lt hb')]
      exact (hf b hb).1
  done := by
    intro X hP hw hK hc i pins s σ H E I hf st hg
    subst hP hw hK
    obtain ⟨⟨old, he⟩, hit⟩ := st
    obtain ⟨xs, hq, hx⟩ := hg
    obtain ⟨its, rv, p, hz⟩ := I.tuple hq
    obtain ⟨f0, f1, f2, f3, f4, f5⟩ := hf it (by simp)
    have hl := rv.length
    have hn' : i = its.toArray.size := by simp; omega
    subst hn'
    exact wpAny_pyNext_enum_endD (Draws.tuple (A := X.A.in1) (I.ok.hd hc) it a hai its.toArray) he ⟨hit, p⟩ fun h' eb => ⟨rfl, I.turned (t' := s.toks) (fun b o hb q => eb b o hb q) f0 f1 f3 f4 f5⟩
  self := fun A i s Q E st h => let ⟨⟨_, he⟩, _⟩ := st; wpAny_pyIter_enum he h
def iEnumT (K : PySem.W.Frag) (ta : TA) : TI := fun σ H R => ta σ H fun vs H1 => ∃ a xs, vs = [.ref a] ∧ SqT K H1 a xs ∧ R (IteT K a) H1
theorem pi_enumT {X : Cx} {e : Expr} {ta : TA} {p pos tpos : Pos} {elts : List Expr} {kk : Nat} (hg : Gl X "enumerate") (hm : X.mg "enumerate" = none) (ha : PA X [e] ta) (hs : starEach [e] X.env = [(false, eval e X.env)] := by rfl) :
    PI X (.Tuple elts kk tpos) (.Call (.Name "enumerate" p) [e] [] pos) (iEnumT X.K ta) := by
  refine ⟨fun pins s σ H R I h => ?_⟩
  refine Call_ (ld_blt I hg hm boot_enumerate (PyProof.Rows.callWith_type1 (thn (ha.run pos pins s σ H _ I h) fun us s1 ⟨vs, H1, I1, r1, q1⟩ => ?_) hs rfl))
  obtain ⟨a, xs, ex, hq, q⟩ := q1
  subst ex
  cases r1 with
  | cons r rr =>
    cases rr
    cases r
    obtain ⟨its, rv, p', hz⟩ := I1.tuple hq
    have hal : a < s1.heap.objs.size := by obtain ⟨_, q, _⟩ := p'; exact Heap.lt_size q
    refine enum_begins1 (begins_tuple a its.toArray) (show s1.heap.IsTuple a its.toArray from p') fun h' he hit hsz hk => wpAny_pyIter_enum he ?_
    have I2 : Inv X pins σ H1 { s1 with heap := h' } := I1.kept (t' := s1.toks) hk
    refine ⟨s1.heap.objs.size + 1, [s1.heap.objs.size + 1, s1.heap.objs.size], _, _, H1, rfl, I2, turn_enumT a (s1.heap.objs.size + 1) s1.heap.objs.size (Nat.succ_ne_self _) (Nat.ne_of_lt (Nat.lt_succ_of_lt hal)) (Nat.ne_of_lt hal), ⟨⟨.none, he⟩, ⟨_, hit, rfl, rfl⟩⟩, fun b hb => ?_, q⟩
    have e' : b = s1.heap.objs.size + 1 ∨ b = s1.heap.objs.size := by simpa using hb
    have hle : s1.heap.objs.size ≤ b := by
      rcases e' with z | z
      · rw [z]; exact Nat.le_add_right _ _
      · rw [z]; exact Nat.le_refl _
    exact I1.fpOk hle (I1.hok.fresh hle)
theorem walk_enumT {K : PySem.W.Frag} {a : Addr} {xs : List V} : Walk (IteT K a) xs.length (fun H => SqT K H a xs) (YPair (fun i => some (.int (i : Nat))) (fun i => xs[i]?)) :=
by
  refine ⟨fun i _ hi q => ⟨xs, xs[i], q, by simp [hi]⟩, fun _ q => ⟨xs, q, rfl⟩, fun i H v H' _ q y => ?_⟩
  obtain ⟨T, x, h1, h2, h3, h4⟩ := y
  exact ⟨T, .int (i : Nat), x, h1, h2, h3, rfl, h4 xs q⟩
end L2

set_option Elab.async false
set_option linter.all false
set_option maxRecDepth 100000
set_option maxHeartbeats 4000000
/-! a call by keywords alone; a text times a number -/
namespace L2
open PySem PySem.Spec PyProof.Rows
theorem Fun.kbinds {K : PySem.W.Frag} {x qual : Str} {st : Stmt} {f : Addr} {fd : FuncData} {ps ks : List Str} (F : Fun K x qual st f fd) (g : {α : Type} → List α → List α)
    (h : ∀ (kV doc pm : Value) (an : Option Addr) (cdv ct : Value) (ws : List Value), ws.length = ks.length → bindArgs (PySem.W.fnOf x qual (defArgs st) (defBody st) (defScope st) .none kV doc pm an cdv ct) ⟨[], ks.zip ws⟩ = pure (ps.zip (g ws)))
    (hrel : ∀ {zs : List V} {ws : List Value}, Vals zs ws → Vals (g zs) (g ws)) : KBn K fd ps 0 ks (fun _ ws => g ws) (fun _ zs => g zs) := by
  obtain ⟨oc, od, kV, doc, pm, an, cdv, ct, osl, rfl, lk, hcd⟩ := F.ex
  refine ⟨fun s us ws _ h0 hl => ?_, fun _ r => hrel r⟩
  cases us with
  | nil => exact BindsTo.of_eq (h kV doc pm an cdv ct ws hl)
  | cons a r => cases h0
section
variable {X : Cx} {CX : CXT} {k : Nat} {f : Addr} {fd : FuncData} {ps ks : List Str} {sp : Sp} {E : XK} {x : Str} {p pos : Pos} {kws : List Keyword} {tk : TA} {g : List Value → List Value → List Value} {gV : List V → List V → List V}
theorem pe_callN0 (F : FnOk X.prog X.w X.K X.mg X.base CX k f fd ps sp) (hr : Room k X.A) (hg : Gl X x) (hm : X.mg x = some (.ref f)) (hk : PySem.W.keepIn X.K (.ref f) = true) (hb : KBn X.K fd ps 0 ks g gV) (hx : Passes CX X E)
    (hkw : PK X kws tk) (hall : (backToKw pos (keywordEach kws X.env)).all (·.1.isSome) = true := by rfl) (hks : (backToKw pos (keywordEach kws X.env)).filterMap (·.1) = ks := by rfl)
    (hdb : (x == ("__debug__" : Str)) = false := by decide)
    (hpl : ((backTo pos (starEach [] X.env)).any (·.1) || (backToKw pos (keywordEach kws X.env)).any (·.1.isNone)) = false := by rfl) :
    PE X (.Call (.Name x p) [] kws pos) (tCallN 0 ks.length sp gV E tNil tk) := by
  refine ⟨fun pins s σ H Q I h => ?_⟩
  refine wpAny_Call_Name_kw (ld_glob I hg hm ?_ hdb)
  refine PySem.W.callWith_KW0 (h₀ := X.base) I.ok.mod.kin hk hall ?_ hpl
  refine thn (hkw.run pos pins s σ H _ I h) fun ws s2 ⟨zs, H2, I2, rz, l1, l2, q2⟩ => ⟨I2.kIn, ?_⟩
  rw [hks]
  exact run_fnN (us := []) (vs := []) F hr hb hx I2 .nil rz rfl l2 q2
theorem op_mul_str : OpR X (binaryOp .Mult) (fun x y H Q => ∃ z n, x = .str z ∧ y = .int n ∧ z.length ≤ 16 ∧ -(2 ^ 63 : Int) ≤ n ∧ n ≤ 1048576 ∧ Q (.str (Txt.mul z n)) H) := by
  intro pins s σ H x y v u Q I rx ry h
  obtain ⟨z, n, rfl, rfl, h1, h2, h3, q⟩ := h
  obtain ⟨t, rfl⟩ := rx
  obtain ⟨t', rfl⟩ := ry
  exact SB.mul (mulOk_of 16 1048576 h1 h3 h2 (by decide) (by decide)) fun t' tk => ⟨.str _, H, I.tok _, ⟨_, rfl⟩, q⟩
end
end L2

set_option Elab.async false
set_option linter.all false
set_option maxRecDepth 100000
set_option maxHeartbeats 4000000
/-! own exceptions without arguments: raised, and as values -/
namespace L2
open PySem PySem.Spec PyProof.Rows
section
variable {X : Cx} {C : Addr} {bmB : List Value} {B newId initId : String}
theorem pmk_own0 {x : Str} {p pos : Pos} (F : ExcBaseFacts B newId initId bmB) (q : PySem.W.excIn X.K C bmB newId = true) (gC : X.mg x = some (.ref C)) (kC : PySem.W.keepIn X.K (.ref C) = true) (r : Raises X (.ref C)) (hg : Gl X x)
    (hdb : (x == ("__debug__" : Str)) = false := by decide) : PMk X (.Call (.Name x p) [] [] pos) (fun _ H Q => Q (.ref C) none H) := by
  intro pins s σ H Q I h
  refine wpAny_Call_Name_kw (ld_glob I hg gC ?_ hdb)
  refine PySem.W.callWith_K0 I.kIn kC ?_
  obtain ⟨bm, N, nm, qn, bs, hdct, sn, sub, ab, col, dd, k0, k1, k2, k3, k5, mN, hC, hN, hni, T⟩ := exc_obj I.kIn q
  refine wpAny_call_exc_subT F T hC hN hni (fun h' e hm => ?_) (by show 0 ≤ sizeLine; exact Nat.zero_le _)
  exact mk_of I hm r h (I.hok.gone hm.new)
/-- X(), as a value -/
theorem pe_exc0 {x : Str} {p pos : Pos} (F : ExcBaseFacts B newId initId bmB) (q : PySem.W.excIn X.K C bmB newId = true) (gC : X.mg x = some (.ref C)) (kC : PySem.W.keepIn X.K (.ref C) = true) (hg : Gl X x)
    (hdb : (x == ("__debug__" : Str)) = false := by decide) : PE X (.Call (.Name x p) [] [] pos) (fun σ H Q => ∀ a, H a = none → Q (.ref a) (upd H a (ExO (.ref C) a))) := by
  refine ⟨fun pins s σ H Q I h => ?_⟩
  refine wpAny_Call_Name_kw (ld_glob I hg gC ?_ hdb)
  refine PySem.W.callWith_K0 I.kIn kC ?_
  obtain ⟨bm, N, nm, qn, bs, hdct, sn, sub, ab, col, dd, k0, k1, k2, k3, k5, mN, hC, hN, hni, T⟩ := exc_obj I.kIn q
  refine wpAny_call_exc_subT F T hC hN hni (fun h' a hm => ?_) (by show 0 ≤ sizeLine; exact Nat.zero_le _)
  have hn : H a = none := I.hok.gone hm.new
  obtain ⟨t, ht, _, _⟩ := hm.there
  exact ⟨.ref a, upd H a (ExO (.ref C) a), I.laidN hm.keeps hm.new hn (exO_ok ht ⟨rfl, rfl⟩ rfl rfl rfl (show 4 < 6 by decide)), rfl, h a hn⟩
end
end L2

set_option Elab.async false
set_option linter.all false
set_option maxRecDepth 100000
set_option maxHeartbeats 4000000
/-! own exceptions with an __init__ of their own that stores its arguments, over Exception: the stores -/
namespace PySem
namespace ExX
open Builtin Builtin.ObjectAttr PySem.W PySem.Calls PyProof.Rows PySem.HandSPX
abbrev exTail : List Value := [.type "Exception", .type "BaseException", .type "object"]
/-- own classes, then Exception's mro -/
def refsEX : List Value → Bool
  | .ref _ :: r => refsEX r
  | l => l == exTail
theorem refsEX_cases : ∀ l : List Value, refsEX l = true → (∃ c r, l = .ref c :: r ∧ refsEX r = true) ∨ l = exTail := by
  intro l e
  unfold refsEX at e
  split at e
  · exact .inl ⟨_, _, rfl, e⟩
  · exact .inr (beq_iff_eq.mp e)
theorem refsEX_pass (self : Value) : ∀ l : List Value, refsEX l = true → refuseLoop self "__setattr__" l = pure () := by
  intro l
  induction l with
  | nil => intro e; exact absurd e (by decide)
  | cons a r ih =>
    intro e
    rcases refsEX_cases (a :: r) e with ⟨c, r', q, h⟩ | q
    · obtain ⟨rfl, rfl⟩ := List.cons.inj q
      rw [refuseLoop_ref]; exact ih h
    · rw [q]; exact F.store_Exception.passes self
theorem refsEX_contains (X : String) : ∀ l : List Value, refsEX l = true → l.contains (.type X) = exTail.contains (.type X) := by
  intro l
  induction l with
  | nil => intro e; exact absurd e (by decide)
  | cons a r ih =>
    intro e
    rcases refsEX_cases (a :: r) e with ⟨c, r', q, h⟩ | q
    · obtain ⟨rfl, rfl⟩ := List.cons.inj q
      rw [List.contains_cons, ih h]; rfl
    · rw [q]
theorem refsEX_ne {l : List Value} (e : refsEX l = true) : l.isEmpty = false := by
  cases l with
  | nil => exact absurd e (by decide)
  | cons _ _ => rfl
section
variable {prog : Program} {w : World} {A : Around} {E : Value → Shared → Prop} {R : Result → Shared → Prop} {hp : Heap} {g : Array GenState} {d : Drawn} {t : Nat} {os : OsState}
theorem osa_new {K : W.Frag} {name : Str} {tk : Tok} {v : Value} {x C : Addr} {fv : Array Value} {cd : ClassData}
    (X : K.In hp) (hx : hp.get? x = some { cls := .ref C, data := .fields fv }) (hcd : W.clsIn K C = some cd) (hm : refsEX cd.mro = true) (hh : cd.hasDict = true) (ha : W.findIn K (.ref C) name = some none)
    (hq : ∀ h' tk' dx, (∀ b o, b ≠ x → hp.get? b = some o → h'.get? b = some o) → hp.objs.size ≤ dx → dx ≠ x → h'.get? x = some { cls := .ref C, dict := some dx, data := .fields fv } →
      h'.Ns1 dx (fun y => if y = name then some v else none) → R (.ok (.ret .none)) ⟨h', g, d, tk', os⟩) :
    codeAny (model prog w) A (.call (.builtin "object.__setattr__") ⟨[.ref x, .str name tk, v], []⟩) R ⟨hp, g, d, t, os⟩ := by
  have I : W.InstAt hp x { cls := .ref C, data := .fields fv } C none := ⟨hx, rfl, rfl, trivial⟩
  have SF := F.store_object
  have ne := refsEX_ne hm
  have hob : cd.mro.contains (.type "object") = true := (refsEX_contains "object" _ hm).trans (by decide +kernel)
  have hxs : x ≠ hp.objs.size := Nat.ne_of_lt (Heap.lt_size hx)
  have sub : W.Looks (model prog w) hp (isInstance (.ref x) (.type "object")) true := I.type.andThen (W.looks_mroIn X (by unfold W.mroIn; rw [hcd, Option.bind_some, if_neg (by rw [ne]; decide), hob]))
  refine codeAny_call_builtin SF.slot.plain SF.entry (@W.check_slot (model prog w) _ _ ⟨hp, g, d, t, os⟩ "object.__setattr__" "object" "__setattr__" (.ref x) [.str name tk, v] [] _ SF.kind SF.split sub (SF.args (.ref x) (.str name tk) v) ?_)
  have hmr : W.Looks (model prog w) hp (mroOf (.ref C)) cd.mro := (W.looks_clsIn X hcd).andThen .now
  have L3 : W.Looks (model prog w) hp (storeTaker? none) none := .now
  have hcls : W.Looks (model prog w) hp (classData C) cd := W.looks_clsIn X hcd
  rw [W.osa_eq, refuse_eq]
  refine wpAny_bind (wpAny_bind (I.type.at (wpAny_bind (hmr.at ?_))))
  rw [refsEX_pass _ _ hm]
  refine wpAny_pure (wpAny_bind (I.type.at (wpAny_bind ((W.looks_findIn X ha).at (wpAny_bind (L3.at ?_))))))
  show wpAny _ _ (storeInOwnDict (.ref x) (.ref C) (.str name tk) name v false) _ _ _
  obtain ⟨nm, bs, mro, ns, qn, hd, sn, sb, ab, col, del⟩ := cd
  dsimp only at hh
  subst hh
  unfold storeInOwnDict ownDictForStores
  repeat (first | with_reducible refine store_in_new ?_ ?_ | with_reducible refine wpAny_loadPart_at hx ?_ | with_reducible refine hcls.at ?_ | wp_step)
  · exact ⟨_, #[], _, (Heap.get?_update_ne _ _ _ _ hxs.symm).trans (Heap.get?_push_at rfl rfl), rfl, fun e he => absurd he (by simp), fun _ => rfl⟩
  · intro h' tk' hn' hs
    have hx₁ : (hp.push { cls := .type "dict", data := .dict #[] }).get? x = some { cls := .ref C, data := .fields fv } := Heap.get?_push_of_some _ hx
    refine hq h' tk' hp.objs.size (fun b o hb ho => ?_) (Nat.le_refl _) hxs.symm ?_ hn'
    · exact (hs.2 b (Nat.ne_of_lt (Heap.lt_size ho))).trans ((Heap.get?_update_ne _ _ _ _ hb).trans (Heap.get?_push_of_some _ ho))
    · exact (hs.2 x hxs).trans (Heap.get?_update_self _ hx₁ rfl)
theorem osa_old {K : W.Frag} {name : Str} {tk : Tok} {v : Value} {x C dx : Addr} {fv : Array Value} {cd : ClassData} {m0 : Str → Option Value} {nl : List Str}
    (X : K.In hp) (hx : hp.get? x = some { cls := .ref C, dict := some dx, data := .fields fv }) (hns : hp.Ns1 dx m0) (hw : Within m0 nl) (hz : nl.length ≤ 1000) (hcd : W.clsIn K C = some cd) (hm : refsEX cd.mro = true) (hh : cd.hasDict = true)
    (ha : W.findIn K (.ref C) name = some none)
    (hq : ∀ h' tk', (∀ b o, b ≠ dx → hp.get? b = some o → h'.get? b = some o) → h'.Ns1 dx (fun y => if y = name then some v else m0 y) → R (.ok (.ret .none)) ⟨h', g, d, tk', os⟩) :
    codeAny (model prog w) A (.call (.builtin "object.__setattr__") ⟨[.ref x, .str name tk, v], []⟩) R ⟨hp, g, d, t, os⟩ := by
  obtain ⟨oD, esD, epD, hoD, hdD, _⟩ := hns.count hw
  have I : W.InstAt hp x { cls := .ref C, dict := some dx, data := .fields fv } C (some oD) := ⟨hx, rfl, rfl, hoD⟩
  have SF := F.store_object
  have ne := refsEX_ne hm
  have hob : cd.mro.contains (.type "object") = true := (refsEX_contains "object" _ hm).trans (by decide +kernel)
  have sub : W.Looks (model prog w) hp (isInstance (.ref x) (.type "object")) true := I.type.andThen (W.looks_mroIn X (by unfold W.mroIn; rw [hcd, Option.bind_some, if_neg (by rw [ne]; decide), hob]))
  refine codeAny_call_builtin SF.slot.plain SF.entry (@W.check_slot (model prog w) _ _ ⟨hp, g, d, t, os⟩ "object.__setattr__" "object" "__setattr__" (.ref x) [.str name tk, v] [] _ SF.kind SF.split sub (SF.args (.ref x) (.str name tk) v) ?_)
  have hmr : W.Looks (model prog w) hp (mroOf (.ref C)) cd.mro := (W.looks_clsIn X hcd).andThen .now
  have L3 : W.Looks (model prog w) hp (storeTaker? none) none := .now
  have hcls : W.Looks (model prog w) hp (classData C) cd := W.looks_clsIn X hcd
  rw [W.osa_eq, refuse_eq]
  refine wpAny_bind (wpAny_bind (I.type.at (wpAny_bind (hmr.at ?_))))
  rw [refsEX_pass _ _ hm]
  refine wpAny_pure (wpAny_bind (I.type.at (wpAny_bind ((W.looks_findIn X ha).at (wpAny_bind (L3.at ?_))))))
  show wpAny _ _ (storeInOwnDict (.ref x) (.ref C) (.str name tk) name v false) _ _ _
  obtain ⟨nm, bs, mro, ns, qn, hd, sn, sb, ab, col, del⟩ := cd
  dsimp only at hh
  subst hh
  unfold storeInOwnDict ownDictForStores
  repeat (first | with_reducible refine PySem.OEX.store_in_old hns hw hz ?_ | with_reducible refine wpAny_loadPart_at hx ?_ | with_reducible refine hcls.at ?_ | wp_step)
  intro h' tk' hn' hs
  exact hq h' tk' (fun b o hb ho => (hs.2 b hb).trans ho) hn'
end
end ExX
end PySem

set_option Elab.async false
set_option linter.all false
set_option maxRecDepth 100000
set_option maxHeartbeats 4000000
namespace PySem
namespace ExX
open PySem.W PySem.Calls PyProof.Rows PySem.HandSPX
/-- what the written part says of an own exception class, at C, over Exception, and of its __init__, at fI -/
structure ExcT (K : W.Frag) (mg : Str → Option Value) (C fI : Addr) (cn : Str) (fs : List Str) (qual : Str) (st : Stmt) : Prop where
  gC : mg cn = some (.ref C)
  cls : ∃ nm q N bs bm sn sub ab col dd k0 k1 k2 k3 k5, K.lookup C = some (excClassObj nm q C N bs bm true sn sub ab col dd k0 k1 k2 k3 k5 "Exception.__new__") ∧ refsEX bm = true
  sa : findIn K (.ref C) "__setattr__" = some (some (.builtin "object.__setattr__"))
  ga : findIn K (.ref C) "__getattribute__" = some (some (.builtin "BaseException.__getattribute__"))
  gg : findIn K (.ref C) "__getattr__" = some none
  no : ∀ f ∈ fs, findIn K (.ref C) f = some none
  iC : findIn K (.ref C) "__init__" = some (some (.ref fI))
  tC : typeIn K (.ref fI) = some (.type "function")
  kC : keepIn K (.ref C) = true
  exC : subIn K (.ref C) (.type "BaseException") = some true
  tyC : typeIn K (.ref C) = some (.type "type")
  hdC : hasDictIn K C = true
  fn : ∃ (oc : Value) (od : Option Addr) (kV doc pm : Value) (an : Option Addr) (cdv ct : Value) (osl : Array (Option Value)),
    K.lookup fI = some ⟨oc, od, .func (fnOf "__init__" qual (L2.defArgs st) (L2.defBody st) (L2.defScope st) .none kV doc pm an cdv ct), osl⟩ ∧ codeIn K cdv qual = true
theorem ldC {M : Model} {s : Shared} {name : Str} {scope : Scope} {L a : Addr} {cd : Value} {m : Str → Option Value} {x : Str} {pos : Pos} {v : Value} {Q : Value → Shared → Prop} {A : Around} {E : Value → Shared → Prop} (hn : s.heap.Ns L m) (hv : m x = some v) (h : Q v s)
    (hk : scope.kind = .function := by rfl) (hl : (envOfC name scope L a cd).kindOf x = some .local := by rfl) (hd : (x == ("__debug__" : Str)) = false := by decide) :
    wpAny M A (eval (.Name x pos) (envOfC name scope L a cd)) Q E s := wpAny_Name (wpAny_loadName_local hk hl hn hv h) hd
end ExX
end PySem
namespace PySem
namespace ExX
open PySem.W PySem.Calls PyProof.Rows PySem.HandSPX
/-- a made exception of the class at C: itself at e, its dict at d, the fields m -/
structure OwnMade (h h' : Heap) (e C d : Addr) (m : Str → Option Value) : Prop where
  keep : ∀ b o, h.get? b = some o → h'.get? b = some o
  new : h.objs.size ≤ e
  obj : ∃ oe vs, h'.get? e = some oe ∧ oe.cls = .ref C ∧ oe.dict = some d ∧ oe.data = .fields vs ∧ vs[1]? = some .none
  dbig : h.objs.size ≤ d
  dne : d ≠ e
  ns : h'.Ns1 d m
end ExX
end PySem
namespace L2
open PySem PySem.Spec PyProof.Rows PySem.ExX
/-- an exception object of the class at C, its own dict at d, not raised -/
def ExD (C d e : Addr) : HO := .ext fun h => ∃ (oe : Obj) (vs : Array Value), h.get? e = some oe ∧ Zc (.ref C) (some d) oe ∧ oe.data = .fields vs ∧ vs[1]? = some .none
theorem exD_ok {P : Program} {w : World} {H : Hp} {h : Heap} {C d e : Addr} {oe : Obj} {vs : Array Value} (he : h.get? e = some oe) (z : Zc (.ref C) (some d) oe) (hd : oe.data = .fields vs) (h1 : vs[1]? = some .none) : ObjOk P w H h e (ExD C d e) :=
  ⟨⟨oe, vs, he, z, hd, h1⟩, ⟨oe, he⟩, fun _ _ ⟨o, v, q, r⟩ k => ⟨o, v, k o q, r⟩⟩
section
variable {X : Cx} {pins : List (Addr × Obj)} {σ : St} {H : Hp} {hp h' : Heap} {g : Array GenState} {dr : Drawn} {tk tk' : Nat} {os : OsState} {e C d : Addr} {m : Str → Option Value} {fs : List (Str × V)}
/-- the heap without the exception itself: its dict laid -/
theorem own_split (I : Inv X pins σ H ⟨hp, g, dr, tk, os⟩) (M : OwnMade hp h' e C d m) (rel : ∀ f, RelO (fs.lookup f) (m f)) :
    ∃ G' : Heap, (∀ b o, G'.get? b = some o → h'.get? b = some o) ∧ G'.get? e = none ∧ Inv X pins σ (upd H d (.xd fs)) ⟨G', g, dr, tk', os⟩ := by
  have hns := M.ns
  obtain ⟨G', g1, g2⟩ := restrict h' fun b => decide (b ≠ e)
  have gk : ∀ b, b ≠ e → G'.get? b = h'.get? b := fun b hb => g1 b (decide_eq_true hb)
  have ge : G'.get? e = none := g2 e (by simp)
  have old : ∀ b o, hp.get? b = some o → G'.get? b = some o := fun b o q => (gk b (Nat.ne_of_lt (Nat.lt_of_lt_of_le (Heap.lt_size q) M.new))).trans (M.keep b o q)
  have ob : ObjOk X.prog X.w (upd H d (.xd fs)) G' d (.xd fs) := ⟨_, hns.at (fun o q => (gk d M.dne).trans q), fun f => rel f⟩
  have J : Inv X pins σ (upd H d (.xd fs)) ⟨G', g, dr, tk', os⟩ := I.laid (t' := tk') old M.dbig ob
  refine ⟨G', fun b o q => ?_, ge, J⟩
  by_cases hb : b = e
  · rw [hb, ge] at q; cases q
  · exact (gk b hb).symm.trans q
theorem own_value (I : Inv X pins σ H ⟨hp, g, dr, tk, os⟩) (M : OwnMade hp h' e C d m) (rel : ∀ f, RelO (fs.lookup f) (m f)) :
    Inv X pins σ (upd (upd H d (.xd fs)) e (ExD C d e)) ⟨h', g, dr, tk', os⟩ := by
  obtain ⟨G', k, ge, J⟩ := own_split (tk' := tk') I M rel
  obtain ⟨oe, vs, hoe, hc, hd, hdat, h1⟩ := M.obj
  have hn : upd H d (.xd fs) e = none := by
    rw [upd_ne (Ne.symm M.dne)]
    exact I.hok.fresh M.new
  exact J.laidN k ge hn (exD_ok hoe ⟨hc, hd⟩ hdat h1)
theorem own_raise {Q : XK} (I : Inv X pins σ H ⟨hp, g, dr, tk, os⟩) (M : OwnMade hp h' e C d m) (rel : ∀ f, RelO (fs.lookup f) (m f)) (r : Raises X (.ref C)) (q : ∀ d, H d = none → Q (.ref C) (some d) (upd H d (.xd fs))) :
    MkP X pins σ Q (.ref e) ⟨h', g, dr, tk', os⟩ := by
  obtain ⟨G', k, ge, J⟩ := own_split (tk' := tk') I M rel
  obtain ⟨oe, vs, hoe, hc, hd, hdat, h1⟩ := M.obj
  refine ⟨e, oe, vs, ⟨G', g, dr, tk', os⟩, _, .ref C, some d, rfl, J, k, ge, hoe, ⟨hc, hd⟩, hdat, h1, ?_, rfl, I.bare, r, q d (I.hok.fresh M.dbig)⟩
  rw [upd_ne (Ne.symm M.dne)]
  exact I.hok.fresh M.new
end
end L2

set_option Elab.async false
set_option linter.all false
set_option maxRecDepth 100000
set_option maxHeartbeats 4000000
/-! isinstance of exception objects that are values, whatever own dict they have -/
namespace PySem.W
open PySem PySem.Spec PySem.Calls PyProof.Rows
section
variable {prog : Program} {w : World} {A : Around} {E : Value → Shared → Prop} {s : Shared} {K : Frag} {x D : Addr} {ox : Obj} {od : Option Obj}
theorem findObj_dataZ {C : Addr} {name : Str} {a g : Value} (hc : (clsIn K C).isSome = true) (ha : findIn K (.ref C) name = some (some a)) (hg : specialIn K a "__get__" = some (some g)) (ht : takesIn K a = some true) : findObj K C od name = some (.bind g a) := by
  obtain ⟨cd, hc⟩ := Option.isSome_iff_exists.mp hc
  unfold findObj
  rw [hc, Option.bind_some, ha, Option.bind_some]
  simp [hg, ht]
theorem kin_classZ {Q : Option Value → Shared → Prop} (hga : findIn K (.ref D) "__getattribute__" = some (some (.builtin "BaseException.__getattribute__"))) (hgt : findIn K (.ref D) "__getattr__" = some none) (hsub : subIn K (.ref D) (.type "BaseException") = some true)
    (hdct : hasDictIn K D = true) (ha : findIn K (.ref D) "__class__" = some (some (.builtin "object.__class__")))
    (hn : specialIn K (.builtin "object.__class__") "__get__" = some (some (.builtin "getset_descriptor.__get__"))) (htk : takesIn K (.builtin "object.__class__") = some true) (hm : mroIn K D (.type "object") = some true)
    (X : K.In s.heap) (I : InstAt s.heap x ox D od) (h : Q (some (.ref D)) { s with toks := s.toks + 1 }) : wpAny (model prog w) A (getAttr? (.ref x) "__class__") Q E s := by
  have hf : findObj K D od "__class__" = some (.bind (.builtin "getset_descriptor.__get__") (.builtin "object.__class__")) := findObj_dataZ (by obtain ⟨cd, hc, _⟩ := any_some hdct; rw [hc]; rfl) ha hn htk
  obtain ⟨hp, g, d, t, os⟩ := s
  have L0 := I.type (M := model prog w)
  have L1 := looks_findIn (M := model prog w) X hga
  have L2 := looks_findIn (M := model prog w) X hgt
  have L3 := looks_find (M := model prog w) X I hf
  have sub : Looks (model prog w) hp (isInstance (.ref x) (.type "BaseException")) true := L0.andThen (looks_subIn X hsub)
  have hx0 : (false && onTheHeap (Value.builtin "BaseException.__getattribute__")) = false := rfl
  have hx2 : (Value.builtin "BaseException.__getattribute__" == Value.builtin "object.__getattribute__") = false := by decide +kernel
  have hx1 : (onTheHeap (Value.ref D) && Value.builtin "BaseException.__getattribute__" == Value.builtin "object.__getattribute__") = false := by rw [hx2]; rfl
  unfold getAttr? getAttrBy? getAttrBy
  refine wpAny_bind (wpAny_mkText (wpAny_bind (wpAny_attempt (wpAny_holding (wpAny_bind (L0.at (wpAny_bind (L1.at ?_))))))))
  show wpAny _ _ (if (onTheHeap (Value.ref D) && Value.builtin "BaseException.__getattribute__" == Value.builtin "object.__getattribute__") = true then _ else _) _ _ _
  rw [hx1, if_neg Bool.false_ne_true]
  unfold getAttrByItsOwn hookBefore
  refine wpAny_bind ?_
  rw [if_pos (show onTheHeap (Value.ref D) = true from rfl)]
  refine L2.at ?_
  refine wpAny_bind (wpAny_attempt (wpAny_holding ?_))
  unfold callGetattribute
  rw [hx0, if_neg Bool.false_ne_true]
  unfold boundAndCalled
  rw [PySem.F.excAttr_ValueError.ga.bind (.ref x)]
  refine wpAny_bind (wpAny_pure ?_)
  show wpAny _ _ (call (.builtin "BaseException.__getattribute__") [.ref x, .str "__class__" t]) _ _ _
  refine wpAny_call (codeAny_call_builtin PySem.F.excAttr_ValueError.ga.plain PySem.F.entry_bexc_ga ?_)
  refine @check_slot (model prog w) _ _ ⟨hp, g, d, t + 1, os⟩ "BaseException.__getattribute__" "BaseException" "__getattribute__" (.ref x) [.str "__class__" t] [] _ (by decide +kernel) (by decide +kernel) sub (PySem.F.args_bexc_ga (.ref x) (.str "__class__" t)) ?_
  unfold Builtin.«object.__getattribute__»
  refine wpAny_bind (wpAny_of_eq (a := ((Value.ref x : Value), [Value.str "__class__" t])) (by first | rfl | (simp only [slotArgs]; rfl)) ?_)
  refine wpAny_bind (wpAny_pure (wpAny_bind (L0.at (wpAny_bind (L3.at ?_)))))
  show wpAny _ _ (holding [Value.builtin "object.__class__"] (call (.builtin "getset_descriptor.__get__") [.builtin "object.__class__", .ref x, .ref D]) >>= ret) _ _ _
  refine wpAny_bind (wpAny_holding (wpAny_call (class_get (s := ⟨hp, g, d, t + 1, os⟩) (ox := ox) (od := od) X I hm ?_)))
  refine wpAny_pure ?_
  show wpAny _ _ (handedOut (.ref D)) _ _ _
  rw [handedOut_of (v := .ref D) rfl]
  first
    | exact wpAny_pure (wpAny_pure h)
    | exact wpAny_pure h
    | exact wpAny_pure (wpAny_bind (wpAny_pure (wpAny_pure h)))
theorem kitx_excZ (hga : findIn K (.ref D) "__getattribute__" = some (some (.builtin "BaseException.__getattribute__"))) (hgt : findIn K (.ref D) "__getattr__" = some none) (hsub : subIn K (.ref D) (.type "BaseException") = some true) (hdct : hasDictIn K D = true) (ha : findIn K (.ref D) "__class__" = some (some (.builtin "object.__class__")))
    (hn : specialIn K (.builtin "object.__class__") "__get__" = some (some (.builtin "getset_descriptor.__get__"))) (htk : takesIn K (.builtin "object.__class__") = some true) (hm : mroIn K D (.type "object") = some true) :
    KitX K (.ref x) (.ref D) (fun h => InstAt h x ox D od) where
  ty := fun _ _ _ I => I.type
  it := fun _ _ X _ => by
    obtain ⟨cdD, hcD, _⟩ := any_some hdct
    unfold clsIn at hcD
    split at hcD
    · rename_i c' d' cd' sl' ho
      intro A' Q' E' s' k q
      unfold isType loadHead
      exact wpAny_bind (wpAny_loadPart (k _ _ (X _ _ ho)) (wpAny_pure q))
    · cases hcD
  ne := (handS_kitx_exc (x := x) (ox := ox) hga hgt hsub hdct ha hn htk hm).ne
  ca := fun X I k => kin_classZ hga hgt hsub hdct ha hn htk hm X I k
end
end PySem.W
namespace L2
open PySem PySem.Spec PyProof.Rows PySem.ExX
/-- the type of a value: also of an exception object that is a value -/
inductive TyZ (K : PySem.W.Frag) (H : Hp) : V → Value → Prop where
  | x {v : V} {t : Value} (h : TyX K H v t) : TyZ K H v t
  | exo {a C : Addr} (e : H a = some (ExO (.ref C) a)) (c : ExcC K C) : TyZ K H (.ref a) (.ref C)
  | exd {a C d : Addr} {fs : List (Str × V)} (e : H a = some (ExD C d a)) (ed : H d = some (.xd fs)) (c : ExcC K C) : TyZ K H (.ref a) (.ref C)
section
variable {X : Cx} {pins : List (Addr × Obj)} {σ : St} {H : Hp} {s : Shared}
theorem kit_ofZ {x : V} {u t : Value} (I : Inv X pins σ H s) (rx : RelV x u) (ty : TyZ X.K H x t) : ∃ P : Heap → Prop, PySem.W.KitX X.K u t P ∧ P s.heap ∧ u ≠ .builtin "__main__.__loader__#opaque" := by
  cases ty with
  | x h => exact kit_of I rx h
  | @exo a C e c =>
    cases (show u = Value.ref a from rx)
    obtain ⟨⟨oe, vs, ho, hz, hd, _, _⟩, _, _⟩ := I.hok a _ e
    have J : PySem.W.InstAt s.heap a oe C none := by
      obtain ⟨oc, od, oda, osl⟩ := oe
      obtain ⟨h1, h2⟩ := hz
      dsimp only at h1 h2 hd
      subst h1 h2 hd
      exact ⟨ho, rfl, rfl, trivial⟩
    exact ⟨_, PySem.W.kitx_excZ c.hg c.hk c.hs c.hd c.ha c.hn c.ht c.hm, J, fun z => nomatch z⟩
  | @exd a C d fs e ed c =>
    cases (show u = Value.ref a from rx)
    obtain ⟨⟨oe, vs, ho, hz, hd, _⟩, _, _⟩ := I.hok a _ e
    obtain ⟨mA, hns, _⟩ := (show ObjOk X.prog X.w H s.heap d (.xd fs) from I.hok d _ ed)
    obtain ⟨od, hod, _⟩ := lookIn_ns hns
    have J : PySem.W.InstAt s.heap a oe C (some od) := by
      obtain ⟨oc, odd, oda, osl⟩ := oe
      obtain ⟨h1, h2⟩ := hz
      dsimp only at h1 h2 hd
      subst h1 h2 hd
      exact ⟨ho, rfl, rfl, hod⟩
    exact ⟨_, PySem.W.kitx_excZ c.hg c.hk c.hs c.hd c.ha c.hn c.ht c.hm, J, fun z => nomatch z⟩
end
def rIsiZ (K : PySem.W.Frag) : List V → Hp → VK → Prop := fun xs H Q => ∃ (x c : V) (t u : Value) (b : Bool), xs = [x, c] ∧ ClsV c u ∧ TyZ K H x t ∧ PySem.W.kitOne K t u = some b ∧ Q (.bl b) H
def rIsiTZ (K : PySem.W.Frag) : List V → Hp → VK → Prop := fun xs H Q => ∃ (x : V) (tp : Addr) (cs : List V) (t : Value) (us : List Value) (b : Bool), xs = [x, .ref tp] ∧ H tp = some (.tup cs) ∧ Paired ClsV cs us ∧ TyZ K H x t ∧ PySem.W.kitAny K t us = some b ∧ Q (.bl b) H
section
variable {X : Cx} {K : PySem.W.Frag}
theorem call_isiZ (hK : X.K = K) : CallR X (.builtin "isinstance") (rIsiZ K) := by
  subst hK
  intro pins s σ H xs us Q I r h
  obtain ⟨x, c, t, u, b, rfl, k, ty, e, q⟩ := h
  obtain ⟨u1, u2, rfl, r1, r2⟩ := vals2 r
  have e2 := k.eq r2
  subst e2
  obtain ⟨P, Z, p, hx⟩ := kit_ofZ I r1 ty
  exact PySem.W.kia_one Z I.kIn p e hx fun tk => ⟨.bl b, H, I.tok tk, rfl, q⟩
theorem call_isiTZ (hK : X.K = K) : CallR X (.builtin "isinstance") (rIsiTZ K) := by
  subst hK
  intro pins s σ H xs us Q I r h
  obtain ⟨x, tp, cs, t, ws, b, rfl, hT, k, ty, e, q⟩ := h
  obtain ⟨u1, u2, rfl, r1, r2⟩ := vals2 r
  cases (show u2 = Value.ref tp from r2)
  obtain ⟨P, Z, p, hx⟩ := kit_ofZ I r1 ty
  obtain ⟨_, its, rv, o, h1, h2, n, h3⟩ := (show ObjOk X.prog X.w H s.heap tp (.tup cs) from I.hok tp _ hT)
  have e3 := ClsV.all k rv
  subst e3
  obtain ⟨oc, od, dt, sl⟩ := o
  simp only at h2 h3
  subst h2 h3
  exact PySem.W.kia_tup Z I.kIn p h1 e hx fun tk => ⟨.bl b, H, I.tok tk, rfl, q⟩
end
end L2

set_option Elab.async false
set_option linter.all false
set_option maxRecDepth 100000
set_option maxHeartbeats 4000000
namespace PySem
namespace ExX
open PySem.W PySem.Calls PyProof.Rows
theorem refsEX_of : ∀ l : List Value, excTail exTail l = true → refsEX l = true := by
  intro l
  induction l with
  | nil => intro h; exact absurd h (by decide +kernel)
  | cons a r ih =>
    intro h
    rcases excTail_cases (bmB := exTail) (a :: r) h with ⟨c, r', e, q⟩ | e
    · cases e
      exact ih q
    · rw [e]; rfl
theorem excT_cls {K : Frag} {C : Addr} (q : excInitIn K C exTail "Exception.__new__" = true) (hd : hasDictIn K C = true) :
    ∃ nm q N bs bm sn sub ab col dd k0 k1 k2 k3 k5, K.lookup C = some (excClassObj nm q C N bs bm true sn sub ab col dd k0 k1 k2 k3 k5 "Exception.__new__") ∧ refsEX bm = true := by
  unfold excInitIn at q
  split at q
  · rename_i dd cd sl ho
    split at q
    · rename_i C' bm k0 k1 k2 k3 n k5 hm hs
      simp only [Bool.and_eq_true, beq_iff_eq, Bool.not_eq_true'] at q
      obtain ⟨⟨⟨rfl, rfl⟩, hdel⟩, ht⟩ := q
      obtain ⟨nm, bs, mro, ns, qn, hd', sn, sub, ab, col, del⟩ := cd
      dsimp only at hm hdel
      subst hm hdel
      have hsl : sl = #[k0, k1, k2, k3, some (.builtin "Exception.__new__"), k5] := by
        obtain ⟨l⟩ := sl
        simp only at hs
        rw [hs]
      subst hsl
      have e : hd' = true := by
        unfold hasDictIn at hd
        have hc : clsIn K C' = some ⟨nm, bs, .ref C' :: bm, ns, qn, hd', sn, sub, ab, col, false⟩ := by unfold clsIn; rw [ho]
        rw [hc] at hd
        simpa using hd
      subst e
      exact ⟨nm, qn, ns, bs, bm, sn, sub, ab, col, dd, k0, k1, k2, k3, k5, ho, refsEX_of _ ht⟩
    · cases q
  · cases q
end ExX
end PySem

set_option Elab.async false
set_option linter.all false
set_option maxRecDepth 100000
/-! the rules whose reading names the written part, with that part a letter of its own (within a comprehension the place's own name of it can't be found by unification) -/
namespace L2
open PySem PySem.Spec PyProof.Rows
variable {X : Cx} {K : PySem.W.Frag}
theorem ix_listK (h : X.K = K) : IxR X (rIxL K) := by subst h; exact ix_list
theorem ix_tupK (h : X.K = K) : IxR X (rIxT K) := by subst h; exact ix_tup
theorem call_tuple_ofK (h : X.K = K) : CallR X (.type "tuple") (fun xs H Q => ∃ p ys, xs = [.ref p] ∧ ((SqL K H p ys ∧ ∀ l, H l = none → Q (.ref l) (upd H l (.tup ys))) ∨ (SqT K H p ys ∧ Q (.ref p) H))) := by subst h; exact call_tuple_of
theorem call_list_ofK (h : X.K = K) : CallR X (.type "list") (fun xs H Q => ∃ p ys, xs = [.ref p] ∧ (SqL K H p ys ∨ SqT K H p ys) ∧ ∀ l, H l = none → Q (.ref l) (upd H l (.lst ys))) := by subst h; exact call_list_of
theorem call_len_seqK (h : X.K = K) : CallR X (.builtin "len") (fun xs H Q => ∃ p ys, xs = [.ref p] ∧ (SqL K H p ys ∨ SqT K H p ys) ∧ Q (.int ys.length) H) := by subst h; exact call_len_seq
theorem call_isiK' (h : X.K = K) : CallR X (.builtin "isinstance") (rIsi K) := by subst h; exact call_isi
theorem call_isiTK (h : X.K = K) : CallR X (.builtin "isinstance") (rIsiT K) := by subst h; exact call_isiT
theorem sl_listK (h : X.K = K) : SlR X (rSlL K) := by subst h; exact sl_list
theorem cr_allK (h : X.K = K) (hc : X.calm = true) : CallR X (.builtin "all") (rAll K) := by subst h; exact cr_all hc
theorem cr_anyK (h : X.K = K) (hc : X.calm = true) : CallR X (.builtin "any") (rAny K) := by subst h; exact cr_any hc
theorem cr_sumK (h : X.K = K) (hc : X.calm = true) : CallR X (.builtin "sum") (rSum K) := by subst h; exact cr_sum hc
end L2

set_option Elab.async false
set_option linter.all false
set_option maxRecDepth 100000
set_option maxHeartbeats 4000000
/-! zip of two texts, in a for and in a comprehension -/
namespace L2
open PySem PySem.Spec PyProof.Rows
/-- two texts at once, the signs in new pairs -/
def ItzS (x y : Str) : It :=
  ⟨fun i _ => i < min x.cps.size y.cps.size,
    fun i H v H' => ∃ T c d, v = .ref T ∧ H T = none ∧ H' = upd H T (.tup [.str ⟨#[c]⟩, .str ⟨#[d]⟩]) ∧ x.cps[i]? = some c ∧ y.cps[i]? = some d,
    fun i _ => i = min x.cps.size y.cps.size⟩
theorem turn_zipS {P : Program} {w : World} {K : PySem.W.Frag} {elts : List Expr} {kk : Nat} {tpos : Pos} {x y : Str} {t1 t2 : Tok} {z TI TO i1 i2 : Addr} (D : ZipSep2 z TI TO i1 i2 [i1] [i2]) :
    Turn P w K (.Tuple elts kk tpos) (ItzS x y) [z, TI, TO, i1, i2] z (fun i h => IsZip h z TI TO .none ∧ IsTupOf2 h TI (.ref i1) (.ref i2) ∧ (∃ x y, IsTupOf2 h TO x y) ∧ h.IsStrIter i1 (strIterType x) x t1 i ∧ h.IsStrIter i2 (strIterType y) y t2 i) where
  mem := by simp
  obj := fun i h st c hc => by
    obtain ⟨hz, hTI, ⟨x, y, hTO⟩, ⟨o1, e1, _, d1⟩, ⟨o2, e2, _, d2⟩⟩ := st
    have e' : c = z ∨ c = TI ∨ c = TO ∨ c = i1 ∨ c = i2 := by simpa using hc
    rcases e' with q | q | q | q | q
    · rw [q]; exact ⟨_, hz, fun v q => nomatch q⟩
    · rw [q]; exact ⟨_, hTI, fun v q => nomatch q⟩
    · rw [q]; exact ⟨_, hTO, fun v q => nomatch q⟩
    · rw [q]; exact ⟨o1, e1, fun v q => by rw [d1] at q; cases q⟩
    · rw [q]; exact ⟨o2, e2, fun v q => by rw [d2] at q; cases q⟩
  keep := fun i h h' st k => by
    obtain ⟨hz, hTI, ⟨x, y, hTO⟩, ⟨o1, e1, r1⟩, ⟨o2, e2, r2⟩⟩ := st
    exact ⟨k z (by simp) _ hz, k TI (by simp) _ hTI, ⟨x, y, k TO (by simp) _ hTO⟩, ⟨o1, k i1 (by simp) _ e1, r1⟩, ⟨o2, k i2 (by simp) _ e2, r2⟩⟩
  item := by
    intro X hP hw hK hc i pins s σ H E I hf st hg
    subst hP hw hK
    obtain ⟨hz, hTI, ⟨x0, y0, hTO⟩, h1, h2⟩ := st
    have hg' : i < min x.cps.size y.cps.size := hg
    have hzl : z < s.heap.objs.size := Heap.lt_size hz
    have hd := I.ok.hd hc
    refine wpAny_pyNext_zipD2_item D (Draws.text (A := X.A.in1) hd i1 x t1) (Draws.text (A := X.A.in1) hd i2 y t2) hz hTI hTO h1 h2 (by omega) (by omega) fun u u2 h' tk p1 p2 z' TO' h1' h2' hT hsz hk => ?_
    obtain ⟨c, tc, hcx, rfl⟩ := p1
    obtain ⟨d, td, hdy, rfl⟩ := p2
    refine ⟨_, rfl, wpAny_letOwnedTupleGo_zip (s := { s with heap := h', toks := tk }) z' fun h'' z'' sb => ?_⟩
    have hT2 : h''.get? s.heap.objs.size = some { cls := .type "tuple", data := .seq #[.str ⟨#[c]⟩ tc, .str ⟨#[d]⟩ td] } := (sb.2 _ (Nat.ne_of_gt hzl)).trans hT
    have new : ObjOk X.prog X.w (upd H s.heap.objs.size (.tup [.str ⟨#[c]⟩, .str ⟨#[d]⟩])) h'' s.heap.objs.size (.tup [.str ⟨#[c]⟩, .str ⟨#[d]⟩]) :=
      ⟨by show 2 ≤ sizeLine; decide, [.str ⟨#[c]⟩ tc, .str ⟨#[d]⟩ td], .cons ⟨_, rfl⟩ (.cons ⟨_, rfl⟩ .nil), ⟨_, hT2, rfl, _, rfl⟩⟩
    have I1 : Inv X pins σ (upd H s.heap.objs.size (.tup [.str ⟨#[c]⟩, .str ⟨#[d]⟩])) { s with heap := h'', toks := tk } :=
      I.turnedNew (t' := tk) (ch := [z, TI, TO, i1, i2]) (fun c o hb q => (sb.2 c (fun q' => hb (by simp [q']))).trans (hk c o (fun q' => hb (by simp [q'])) (fun q' => hb (by simp [q'])) (fun q' => hb (by simp [q'])) (fun q' => hb (by simp [q'])) q)) hf (Nat.le_refl _) new
    have nz1 : i1 ≠ z := D.zi1.symm
    have nz2 : i2 ≠ z := D.zi2.symm
    refine ⟨.ref s.heap.objs.size, _, I1, rfl, ⟨_, c, d, rfl, I.hok.fresh (Nat.le_refl _), rfl, hcx, hdy⟩, ⟨z'', ?_, ⟨_, _, (sb.2 _ D.TOz).trans TO'⟩, ?_, ?_⟩, fun c hcm => ?_⟩
    · exact (sb.2 _ D.TIz).trans (hk _ _ D.TIz D.TITO D.TIi1 D.TIi2 hTI)
    · obtain ⟨o, e, r⟩ := h1'
      exact ⟨o, (sb.2 _ nz1).trans e, r⟩
    · obtain ⟨o, e, r⟩ := h2'
      exact ⟨o, (sb.2 _ nz2).trans e, r⟩
    · have hlt : c < s.heap.objs.size := by
        have e' : c = z ∨ c = TI ∨ c = TO ∨ c = i1 ∨ c = i2 := by simpa using hcm
        rcases e' with q | q | q | q | q
        · rw [q]; exact hzl
        · rw [q]; exact Heap.lt_size hTI
        · rw [q]; exact Heap.lt_size hTO
        · rw [q]; obtain ⟨_, e1, _⟩ := h1; exact Heap.lt_size e1
        · rw [q]; obtain ⟨_, e2, _⟩ := h2; exact Heap.lt_size e2
      rw [upd_ne (Nat.ne_of_lt hlt)]
      exact (hf c hcm).1
  done := by
    intro X hP hw hK hc i pins s σ H E I hf st hg
    subst hP hw hK
    obtain ⟨hz, hTI, ⟨x0, y0, hTO⟩, h1, h2⟩ := st
    have hg' : i = min x.cps.size y.cps.size := hg
    have hd := I.ok.hd hc
    exact wpAny_pyNext_zipD2_end D (Draws.text (A := X.A.in1) hd i1 x t1) (Draws.text (A := X.A.in1) hd i2 y t2) hz hTI hTO h1 h2 (by omega) (by omega) (by omega) fun h' tk hk => ⟨rfl, I.turnedL (t' := tk) (ch := [z, TI, TO, i1, i2]) (fun c o hb q =>
      hk c o (fun q' => hb (by simp [q'])) (fun q' => hb (by simp [q'])) (fun q' => hb (by simp [q'])) (fun q' => hb (by simp [q'])) q) hf⟩
  self := fun A i s Q E st h => wpAny_pyIter_zip st.1 h
def iZipS (ta : TA) : TI := fun σ H R => ta σ H fun vs H1 => ∃ x y, vs = [.str x, .str y] ∧ R (ItzS x y) H1
theorem pi_zipS {X : Cx} {e e2 : Expr} {ta : TA} {p pos tpos : Pos} {elts : List Expr} {kk : Nat} (hg : Gl X "zip") (hm : X.mg "zip" = none) (ha : PA X [e, e2] ta)
    (hs : starEach [e, e2] X.env = (false, eval e X.env) :: starEach [e2] X.env := by rfl) (hpl : (backTo pos (starEach [e2] X.env)).any (·.1) = false := by rfl) :
    PI X (.Tuple elts kk tpos) (.Call (.Name "zip" p) [e, e2] [] pos) (iZipS ta) := by
  refine ⟨fun pins s σ H R I h => ?_⟩
  refine Call_ (ld_blt I hg hm PyProof.Rows.boot_zip (PyProof.Rows.callWith_type1 (thn (ha.run pos pins s σ H _ I h) fun us s1 ⟨vs, H1, I1, r1, q1⟩ => ?_) hs hpl))
  obtain ⟨x, y, ex, q⟩ := q1
  subst ex
  cases r1 with
  | cons r rr =>
    cases rr with
    | cons r' rr =>
      cases rr
      obtain ⟨t1, rfl⟩ := r
      obtain ⟨t2, rfl⟩ := r'
      refine zip_begins2 (begins_text x t1) (begins_text y t2) trivial trivial fun h' hz hTI hTO h1 h2 hsz hk => wpAny_pyIter_zip hz ?_
      have I2 : Inv X pins σ H1 { s1 with heap := h' } := I1.kept (t' := s1.toks) hk
      generalize hn : s1.heap.objs.size = n at hz hTI hTO h1 h2 hsz ⊢
      have D : ZipSep2 (n + 4) (n + 2) (n + 3) n (n + 1) [n] [n + 1] := by constructor <;> simp <;> omega
      refine ⟨n + 4, [n + 4, n + 2, n + 3, n, n + 1], _, _, H1, rfl, I2, turn_zipS (t1 := t1) (t2 := t2) D, ⟨hz, hTI, ⟨_, _, hTO⟩, ⟨_, h1, rfl, rfl⟩, ⟨_, h2, rfl, rfl⟩⟩, fun c hcm => ?_, q⟩
      have e' : c = n + 4 ∨ c = n + 2 ∨ c = n + 3 ∨ c = n ∨ c = n + 1 := by simpa using hcm
      have hle : s1.heap.objs.size ≤ c := by
        rw [hn]
        rcases e' with q | q | q | q | q
        · rw [q]; exact Nat.le_add_right _ _
        · rw [q]; exact Nat.le_add_right _ _
        · rw [q]; exact Nat.le_add_right _ _
        · rw [q]; exact Nat.le_refl _
        · rw [q]; exact Nat.le_add_right _ _
      exact I1.fpOk hle (I1.hok.fresh hle)
end L2

set_option Elab.async false
set_option linter.all false
set_option maxRecDepth 100000
set_option maxHeartbeats 4000000
namespace J
open PySem L2
def topS (i : Nat) : Stmt := PySem.Challenge.pw_onewayread_k78_rows_written_and_read.main.body.getD i (.Pass ⟨0, 0, 0, 0⟩)
abbrev s_InvalidLoom_init : Stmt := inClass (topS 2) 0
abbrev N_InvalidLoom_init : List Str := ["self", "part", "at"]
abbrev P_InvalidLoom_init : List Str := ["self", "part", "at"]
theorem sc_InvalidLoom_init : FnScope N_InvalidLoom_init P_InvalidLoom_init (defScope s_InvalidLoom_init) := ⟨rfl, rfl, rfl, by decide +kernel, rfl, by decide +kernel, by decide +kernel⟩
abbrev s_InvalidRow_init : Stmt := inClass (topS 3) 0
abbrev N_InvalidRow_init : List Str := ["self", "at"]
abbrev P_InvalidRow_init : List Str := ["self", "at"]
theorem sc_InvalidRow_init : FnScope N_InvalidRow_init P_InvalidRow_init (defScope s_InvalidRow_init) := ⟨rfl, rfl, rfl, by decide +kernel, rfl, by decide +kernel, by decide +kernel⟩
abbrev s_InvalidPage_init : Stmt := inClass (topS 4) 0
abbrev N_InvalidPage_init : List Str := ["self", "line"]
abbrev P_InvalidPage_init : List Str := ["self", "line"]
theorem sc_InvalidPage_init : FnScope N_InvalidPage_init P_InvalidPage_init (defScope s_InvalidPage_init) := ⟨rfl, rfl, rfl, by decide +kernel, rfl, by decide +kernel, by decide +kernel⟩
abbrev s_is_number : Stmt := topS 9
abbrev N_is_number : List Str := ["thing", "low", "high"]
abbrev P_is_number : List Str := ["thing", "low", "high"]
theorem sc_is_number : FnScope N_is_number P_is_number (defScope s_is_number) := ⟨rfl, rfl, rfl, by decide +kernel, rfl, by decide +kernel, by decide +kernel⟩
abbrev s_is_sequence : Stmt := topS 10
abbrev N_is_sequence : List Str := ["thing", "fewest", "most"]
abbrev P_is_sequence : List Str := ["thing", "fewest", "most"]
theorem sc_is_sequence : FnScope N_is_sequence P_is_sequence (defScope s_is_sequence) := ⟨rfl, rfl, rfl, by decide +kernel, rfl, by decide +kernel, by decide +kernel⟩
abbrev s_is_signs : Stmt := topS 11
abbrev N_is_signs : List Str := ["thing", "letters", "sign", "one", "other"]
abbrev P_is_signs : List Str := ["thing"]
theorem sc_is_signs : FnScope N_is_signs P_is_signs (defScope s_is_signs) := ⟨rfl, rfl, rfl, by decide +kernel, rfl, by decide +kernel, by decide +kernel⟩
abbrev s_is_string_over : Stmt := topS 12
abbrev N_is_string_over : List Str := ["signs", "thing", "fewest", "most", "sign"]
abbrev P_is_string_over : List Str := ["signs", "thing", "fewest", "most"]
theorem sc_is_string_over : FnScope N_is_string_over P_is_string_over (defScope s_is_string_over) := ⟨rfl, rfl, rfl, by decide +kernel, rfl, by decide +kernel, by decide +kernel⟩
abbrev s_is_word : Stmt := topS 13
abbrev N_is_word : List Str := ["signs", "thing"]
abbrev P_is_word : List Str := ["signs", "thing"]
theorem sc_is_word : FnScope N_is_word P_is_word (defScope s_is_word) := ⟨rfl, rfl, rfl, by decide +kernel, rfl, by decide +kernel, by decide +kernel⟩
abbrev s_first_wrong : Stmt := topS 14
abbrev N_first_wrong : List Str := ["thing", "fewest", "most", "low", "high", "at", "item"]
abbrev P_first_wrong : List Str := ["thing", "fewest", "most", "low", "high"]
theorem sc_first_wrong : FnScope N_first_wrong P_first_wrong (defScope s_first_wrong) := ⟨rfl, rfl, rfl, by decide +kernel, rfl, by decide +kernel, by decide +kernel⟩
abbrev s_check_signs : Stmt := topS 15
abbrev N_check_signs : List Str := ["signs"]
abbrev P_check_signs : List Str := ["signs"]
theorem sc_check_signs : FnScope N_check_signs P_check_signs (defScope s_check_signs) := ⟨rfl, rfl, rfl, by decide +kernel, rfl, by decide +kernel, by decide +kernel⟩
abbrev s_is_arc : Stmt := topS 18
abbrev N_is_arc : List Str := ["signs", "thing", "state", "word", "goal"]
abbrev P_is_arc : List Str := ["signs", "thing"]
theorem sc_is_arc : FnScope N_is_arc P_is_arc (defScope s_is_arc) := ⟨rfl, rfl, rfl, by decide +kernel, rfl, by decide +kernel, by decide +kernel⟩
abbrev s_Loom_init : Stmt := inClass (topS 19) 0
abbrev N_Loom_init : List Str := ["self", "signs", "arcs", "at", "arc"]
abbrev P_Loom_init : List Str := ["self", "signs", "arcs"]
theorem sc_Loom_init : FnScope N_Loom_init P_Loom_init (defScope s_Loom_init) := ⟨rfl, rfl, rfl, by decide +kernel, rfl, by decide +kernel, by decide +kernel⟩
abbrev s_Loom_eq : Stmt := inClass (topS 19) 1
abbrev N_Loom_eq : List Str := ["self", "other"]
abbrev P_Loom_eq : List Str := ["self", "other"]
theorem sc_Loom_eq : FnScope N_Loom_eq P_Loom_eq (defScope s_Loom_eq) := ⟨rfl, rfl, rfl, by decide +kernel, rfl, by decide +kernel, by decide +kernel⟩
abbrev s_numbers_up_to : Stmt := topS 23
abbrev N_numbers_up_to : List Str := ["last", "number"]
abbrev P_numbers_up_to : List Str := ["last"]
theorem sc_numbers_up_to : FnScope N_numbers_up_to P_numbers_up_to (defScope s_numbers_up_to) := ⟨rfl, rfl, rfl, by decide +kernel, rfl, by decide +kernel, by decide +kernel⟩
abbrev s_write_row : Stmt := topS 24
abbrev N_write_row : List Str := ["row", "at", "number"]
abbrev P_write_row : List Str := ["row"]
theorem sc_write_row : FnScope N_write_row P_write_row (defScope s_write_row) := ⟨rfl, rfl, rfl, by decide +kernel, rfl, by decide +kernel, by decide +kernel⟩
abbrev s_read_row : Stmt := topS 25
abbrev N_read_row : List Str := ["text", "known", "parts", "part"]
abbrev P_read_row : List Str := ["text"]
theorem sc_read_row : FnScope N_read_row P_read_row (defScope s_read_row) := ⟨rfl, rfl, rfl, by decide +kernel, rfl, by decide +kernel, by decide +kernel⟩
abbrev s_l_pool : Stmt := topS 27
abbrev N_l_pool : List Str := ["_law_script", "_law_cells", "_law_great", "_law_small", "_law_cell"]
abbrev P_l_pool : List Str := ["_law_script"]
theorem sc_l_pool : FnScope N_l_pool P_l_pool (defScope s_l_pool) := ⟨rfl, rfl, rfl, by decide +kernel, rfl, by decide +kernel, by decide +kernel⟩
abbrev s_l_draw : Stmt := topS 28
abbrev N_l_draw : List Str := ["_law_pool_here", "_law_much", "_law_great", "_law_digit", "_law_seed", "_law_number"]
abbrev P_l_draw : List Str := ["_law_pool_here", "_law_much"]
theorem sc_l_draw : FnScope N_l_draw P_l_draw (defScope s_l_draw) := ⟨rfl, rfl, rfl, by decide +kernel, rfl, by decide +kernel, by decide +kernel⟩
abbrev s_l_pick : Stmt := topS 29
abbrev N_l_pick : List Str := ["_law_pool_here", "_law_items"]
abbrev P_l_pick : List Str := ["_law_pool_here", "_law_items"]
theorem sc_l_pick : FnScope N_l_pick P_l_pick (defScope s_l_pick) := ⟨rfl, rfl, rfl, by decide +kernel, rfl, by decide +kernel, by decide +kernel⟩
abbrev s_l_line : Stmt := topS 30
abbrev N_l_line : List Str := ["_law_numbers", "_law_found", "_law_number"]
abbrev P_l_line : List Str := ["_law_numbers"]
theorem sc_l_line : FnScope N_l_line P_l_line (defScope s_l_line) := ⟨rfl, rfl, rfl, by decide +kernel, rfl, by decide +kernel, by decide +kernel⟩
abbrev s_l_due : Stmt := topS 31
abbrev N_l_due : List Str := ["_law_page", "_law_known", "_law_k", "_law_parts", "_law_part"]
abbrev P_l_due : List Str := ["_law_page"]
theorem sc_l_due : FnScope N_l_due P_l_due (defScope s_l_due) := ⟨rfl, rfl, rfl, by decide +kernel, rfl, by decide +kernel, by decide +kernel⟩
abbrev s_l_read : Stmt := topS 32
abbrev N_l_read : List Str := ["_law_page", "e"]
abbrev P_l_read : List Str := ["_law_page"]
theorem sc_l_read : FnScope N_l_read P_l_read (defScope s_l_read) := ⟨rfl, rfl, rfl, by decide +kernel, rfl, by decide +kernel, by decide +kernel⟩
abbrev s_l_written : Stmt := topS 33
abbrev N_l_written : List Str := ["_law_numbers", "e"]
abbrev P_l_written : List Str := ["_law_numbers"]
theorem sc_l_written : FnScope N_l_written P_l_written (defScope s_l_written) := ⟨rfl, rfl, rfl, by decide +kernel, rfl, by decide +kernel, by decide +kernel⟩
abbrev s_l_spoiled : Stmt := topS 34
abbrev N_l_spoiled : List Str := ["_law_pool_here", "_law_page", "_law_at", "_law_sign", "_law_kind"]
abbrev P_l_spoiled : List Str := ["_law_pool_here", "_law_page"]
theorem sc_l_spoiled : FnScope N_l_spoiled P_l_spoiled (defScope s_l_spoiled) := ⟨rfl, rfl, rfl, by decide +kernel, rfl, by decide +kernel, by decide +kernel⟩
abbrev s_l_same_lists : Stmt := topS 35
abbrev N_l_same_lists : List Str := ["_law_told", "_law_due_here", "_law_number"]
abbrev P_l_same_lists : List Str := ["_law_told", "_law_due_here"]
theorem sc_l_same_lists : FnScope N_l_same_lists P_l_same_lists (defScope s_l_same_lists) := ⟨rfl, rfl, rfl, by decide +kernel, rfl, by decide +kernel, by decide +kernel⟩
abbrev s_law : Stmt := topS 36
abbrev N_law : List Str := ["_law_script", "_law_pool_here", "_law_turn", "_law_numbers", "_law_due_here", "_law_told", "_law_page", "_law_at", "_law_odd", "_law_strange", "_law_k"]
abbrev P_law : List Str := ["_law_script"]
theorem sc_law : FnScope N_law P_law (defScope s_law) := ⟨rfl, rfl, rfl, by decide +kernel, rfl, by decide +kernel, by decide +kernel⟩
/-- what the top has written -/
structure Tx (K : PySem.W.Frag) (mg : Str → Option Value) : Type where
  f_InvalidLoom_init : Addr
  fd_InvalidLoom_init : FuncData
  F_InvalidLoom_init : Fun K "__init__" "InvalidLoom.__init__" s_InvalidLoom_init f_InvalidLoom_init fd_InvalidLoom_init
  b_InvalidLoom_init : Binds K fd_InvalidLoom_init P_InvalidLoom_init []
  f_InvalidRow_init : Addr
  fd_InvalidRow_init : FuncData
  F_InvalidRow_init : Fun K "__init__" "InvalidRow.__init__" s_InvalidRow_init f_InvalidRow_init fd_InvalidRow_init
  b_InvalidRow_init : Binds K fd_InvalidRow_init P_InvalidRow_init []
  f_InvalidPage_init : Addr
  fd_InvalidPage_init : FuncData
  F_InvalidPage_init : Fun K "__init__" "InvalidPage.__init__" s_InvalidPage_init f_InvalidPage_init fd_InvalidPage_init
  b_InvalidPage_init : Binds K fd_InvalidPage_init P_InvalidPage_init []
  f_is_number : Addr
  fd_is_number : FuncData
  F_is_number : Fun K "is_number" "is_number" s_is_number f_is_number fd_is_number
  b_is_number : Binds K fd_is_number P_is_number []
  m_is_number : mg "is_number" = some (.ref f_is_number)
  f_is_sequence : Addr
  fd_is_sequence : FuncData
  F_is_sequence : Fun K "is_sequence" "is_sequence" s_is_sequence f_is_sequence fd_is_sequence
  b_is_sequence : Binds K fd_is_sequence P_is_sequence []
  m_is_sequence : mg "is_sequence" = some (.ref f_is_sequence)
  f_is_signs : Addr
  fd_is_signs : FuncData
  F_is_signs : Fun K "is_signs" "is_signs" s_is_signs f_is_signs fd_is_signs
  b_is_signs : Binds K fd_is_signs P_is_signs []
  m_is_signs : mg "is_signs" = some (.ref f_is_signs)
  f_is_string_over : Addr
  fd_is_string_over : FuncData
  F_is_string_over : Fun K "is_string_over" "is_string_over" s_is_string_over f_is_string_over fd_is_string_over
  b_is_string_over : Binds K fd_is_string_over P_is_string_over []
  m_is_string_over : mg "is_string_over" = some (.ref f_is_string_over)
  f_is_word : Addr
  fd_is_word : FuncData
  F_is_word : Fun K "is_word" "is_word" s_is_word f_is_word fd_is_word
  b_is_word : Binds K fd_is_word P_is_word []
  m_is_word : mg "is_word" = some (.ref f_is_word)
  f_first_wrong : Addr
  fd_first_wrong : FuncData
  F_first_wrong : Fun K "first_wrong" "first_wrong" s_first_wrong f_first_wrong fd_first_wrong
  b_first_wrong : Binds K fd_first_wrong P_first_wrong []
  m_first_wrong : mg "first_wrong" = some (.ref f_first_wrong)
  f_check_signs : Addr
  fd_check_signs : FuncData
  F_check_signs : Fun K "check_signs" "check_signs" s_check_signs f_check_signs fd_check_signs
  b_check_signs : Binds K fd_check_signs P_check_signs []
  m_check_signs : mg "check_signs" = some (.ref f_check_signs)
  f_is_arc : Addr
  fd_is_arc : FuncData
  F_is_arc : Fun K "is_arc" "is_arc" s_is_arc f_is_arc fd_is_arc
  b_is_arc : Binds K fd_is_arc P_is_arc []
  m_is_arc : mg "is_arc" = some (.ref f_is_arc)
  f_Loom_init : Addr
  fd_Loom_init : FuncData
  F_Loom_init : Fun K "__init__" "Loom.__init__" s_Loom_init f_Loom_init fd_Loom_init
  b_Loom_init : Binds K fd_Loom_init P_Loom_init []
  f_Loom_eq : Addr
  fd_Loom_eq : FuncData
  F_Loom_eq : Fun K "__eq__" "Loom.__eq__" s_Loom_eq f_Loom_eq fd_Loom_eq
  b_Loom_eq : Binds K fd_Loom_eq P_Loom_eq []
  f_numbers_up_to : Addr
  fd_numbers_up_to : FuncData
  F_numbers_up_to : Fun K "numbers_up_to" "numbers_up_to" s_numbers_up_to f_numbers_up_to fd_numbers_up_to
  b_numbers_up_to : Binds K fd_numbers_up_to P_numbers_up_to []
  m_numbers_up_to : mg "numbers_up_to" = some (.ref f_numbers_up_to)
  f_write_row : Addr
  fd_write_row : FuncData
  F_write_row : Fun K "write_row" "write_row" s_write_row f_write_row fd_write_row
  b_write_row : Binds K fd_write_row P_write_row []
  m_write_row : mg "write_row" = some (.ref f_write_row)
  f_read_row : Addr
  fd_read_row : FuncData
  F_read_row : Fun K "read_row" "read_row" s_read_row f_read_row fd_read_row
  b_read_row : Binds K fd_read_row P_read_row []
  m_read_row : mg "read_row" = some (.ref f_read_row)
  f_l_pool : Addr
  fd_l_pool : FuncData
  F_l_pool : Fun K "_law_pool" "_law_pool" s_l_pool f_l_pool fd_l_pool
  b_l_pool : Binds K fd_l_pool P_l_pool []
  m_l_pool : mg "_law_pool" = some (.ref f_l_pool)
  f_l_draw : Addr
  fd_l_draw : FuncData
  F_l_draw : Fun K "_law_draw" "_law_draw" s_l_draw f_l_draw fd_l_draw
  b_l_draw : Binds K fd_l_draw P_l_draw []
  m_l_draw : mg "_law_draw" = some (.ref f_l_draw)
  f_l_pick : Addr
  fd_l_pick : FuncData
  F_l_pick : Fun K "_law_pick" "_law_pick" s_l_pick f_l_pick fd_l_pick
  b_l_pick : Binds K fd_l_pick P_l_pick []
  m_l_pick : mg "_law_pick" = some (.ref f_l_pick)
  f_l_line : Addr
  fd_l_line : FuncData
  F_l_line : Fun K "_law_line" "_law_line" s_l_line f_l_line fd_l_line
  b_l_line : Binds K fd_l_line P_l_line []
  m_l_line : mg "_law_line" = some (.ref f_l_line)
  f_l_due : Addr
  fd_l_due : FuncData
  F_l_due : Fun K "_law_due" "_law_due" s_l_due f_l_due fd_l_due
  b_l_due : Binds K fd_l_due P_l_due []
  m_l_due : mg "_law_due" = some (.ref f_l_due)
  f_l_read : Addr
  fd_l_read : FuncData
  F_l_read : Fun K "_law_read" "_law_read" s_l_read f_l_read fd_l_read
  b_l_read : Binds K fd_l_read P_l_read []
  m_l_read : mg "_law_read" = some (.ref f_l_read)
  f_l_written : Addr
  fd_l_written : FuncData
  F_l_written : Fun K "_law_written" "_law_written" s_l_written f_l_written fd_l_written
  b_l_written : Binds K fd_l_written P_l_written []
  m_l_written : mg "_law_written" = some (.ref f_l_written)
  f_l_spoiled : Addr
  fd_l_spoiled : FuncData
  F_l_spoiled : Fun K "_law_spoiled" "_law_spoiled" s_l_spoiled f_l_spoiled fd_l_spoiled
  b_l_spoiled : Binds K fd_l_spoiled P_l_spoiled []
  m_l_spoiled : mg "_law_spoiled" = some (.ref f_l_spoiled)
  f_l_same_lists : Addr
  fd_l_same_lists : FuncData
  F_l_same_lists : Fun K "_law_same_lists" "_law_same_lists" s_l_same_lists f_l_same_lists fd_l_same_lists
  b_l_same_lists : Binds K fd_l_same_lists P_l_same_lists []
  m_l_same_lists : mg "_law_same_lists" = some (.ref f_l_same_lists)
  f_law : Addr
  fd_law : FuncData
  F_law : Fun K "law" "law" s_law f_law fd_law
  b_law : Binds K fd_law P_law []
  m_law : mg "law" = some (.ref f_law)
  n_abs : mg "abs" = none
  n_all : mg "all" = none
  n_bool : mg "bool" = none
  n_enumerate : mg "enumerate" = none
  n_int : mg "int" = none
  n_isinstance : mg "isinstance" = none
  n_len : mg "len" = none
  n_list : mg "list" = none
  n_range : mg "range" = none
  n_str : mg "str" = none
  n_tuple : mg "tuple" = none
  n_zip : mg "zip" = none
  t_MOST_SIGNS : Tok
  g_MOST_SIGNS : mg "MOST_SIGNS" = some (.int 4 t_MOST_SIGNS)
  t_LONGEST_WORD : Tok
  g_LONGEST_WORD : mg "LONGEST_WORD" = some (.int 12 t_LONGEST_WORD)
  t_LAST_STATE : Tok
  g_LAST_STATE : mg "LAST_STATE" = some (.int 63 t_LAST_STATE)
  t_MOST_ARCS : Tok
  g_MOST_ARCS : mg "MOST_ARCS" = some (.int 200 t_MOST_ARCS)
  t_MOST_ITEMS : Tok
  g_MOST_ITEMS : mg "MOST_ITEMS" = some (.int 2000 t_MOST_ITEMS)
  t_EMPTY_ROW : Tok
  g_EMPTY_ROW : mg "EMPTY_ROW" = some (.str "-" t_EMPTY_ROW)
  C_Loom : Addr
  M_Loom : Mk K C_Loom f_Loom_init
  cl_Loom : Cls K C_Loom
  g_Loom : mg "Loom" = some (.ref C_Loom)
  na_Loom_signs : NoAttr K C_Loom "signs"
  na_Loom_arcs : NoAttr K C_Loom "arcs"
  C_ReadError : Addr
  C_InvalidRow : Addr
  C_InvalidPage : Addr
  g_ReadError : mg "ReadError" = some (.ref C_ReadError)
  kc_ReadError : PySem.W.keepIn K (.ref C_ReadError) = true
  E_ReadError : ExcC K C_ReadError
  ty_ReadError : PySem.W.typeIn K (.ref C_ReadError) = some (.type "type")
  in_ReadError : PySem.W.excIn K C_ReadError [.type "Exception", .type "BaseException", .type "object"] "Exception.__new__" = true
  g_InvalidRow : mg "InvalidRow" = some (.ref C_InvalidRow)
  kc_InvalidRow : PySem.W.keepIn K (.ref C_InvalidRow) = true
  E_InvalidRow : ExcC K C_InvalidRow
  ty_InvalidRow : PySem.W.typeIn K (.ref C_InvalidRow) = some (.type "type")
  X_InvalidRow : PySem.ExX.ExcT K mg C_InvalidRow f_InvalidRow_init "InvalidRow" ["at"] "InvalidRow.__init__" s_InvalidRow_init
  g_InvalidPage : mg "InvalidPage" = some (.ref C_InvalidPage)
  kc_InvalidPage : PySem.W.keepIn K (.ref C_InvalidPage) = true
  E_InvalidPage : ExcC K C_InvalidPage
  ty_InvalidPage : PySem.W.typeIn K (.ref C_InvalidPage) = some (.type "type")
  X_InvalidPage : PySem.ExX.ExcT K mg C_InvalidPage f_InvalidPage_init "InvalidPage" ["line"] "InvalidPage.__init__" s_InvalidPage_init
  ic_Loom : PySem.W.findIn K (.ref C_Loom) "__class__" = some (some (.builtin "object.__class__"))
  ig : PySem.W.specialIn K (.builtin "object.__class__") "__get__" = some (some (.builtin "getset_descriptor.__get__"))
  it : PySem.W.takesIn K (.builtin "object.__class__") = some true
  im_Loom : PySem.W.mroIn K C_Loom (.type "object") = some true
  sl_Loom : PySem.W.subIn K (.ref C_Loom) (.type "list") = some false
  st_Loom : PySem.W.subIn K (.ref C_Loom) (.type "tuple") = some false
  cl_InvalidRow : PySem.W.isClsIn K C_InvalidRow = true
  ss_InvalidRow : PySem.W.subIn K (.ref C_InvalidRow) (.ref C_InvalidRow) = some true
  nx_InvalidRow_at : PySem.W.findIn K (.ref C_InvalidRow) "at" = some none
  cl_InvalidPage : PySem.W.isClsIn K C_InvalidPage = true
  ss_InvalidPage : PySem.W.subIn K (.ref C_InvalidPage) (.ref C_InvalidPage) = some true
  nx_InvalidPage_line : PySem.W.findIn K (.ref C_InvalidPage) "line" = some none
end J

set_option Elab.async false
set_option linter.all false
set_option maxRecDepth 100000
set_option maxHeartbeats 4000000
namespace J
open PySem L2
/-! ### frames -/
def Ex (p : Addr) (H H' : Hp) : Prop := ∀ b o, b ≠ p → H b = some o → H' b = some o
theorem Ex.refl (p : Addr) (H : Hp) : Ex p H H := fun _ _ _ h => h
theorem Ex.trans {p : Addr} {H H1 H2 : Hp} (a : Ex p H H1) (b : Ex p H1 H2) : Ex p H H2 := fun c o n h => b c o n (a c o n h)
theorem Ex.upd {p : Addr} {H : Hp} (o : HO) : Ex p H (upd H p o) := fun c u n h => by rw [upd_ne n]; exact h
theorem Ex.new {p q : Addr} {H : Hp} (o : HO) (h : H q = none) : Ex p H (L2.upd H q o) := fun c u n e => by
  rw [upd_ne (ne_of_none e h)]; exact e
theorem Same.ex {p : Addr} {H H' : Hp} (s : Same H H') : Ex p H H' := fun c o _ h => s c o h
theorem Same.new {q : Addr} {H : Hp} (o : HO) (h : H q = none) : Same H (L2.upd H q o) := fun c u e => by
  rw [upd_ne (ne_of_none e h)]; exact e
theorem hp_ne {H : Hp} {p q : Addr} {o : HO} (h : H p = some o) (hq : H q = none) : q ≠ p := by
  intro z
  rw [z, h] at hq
  cases hq
theorem Ex.free {p q : Addr} {H H' : Hp} (x : Ex p H H') (hq : H' q = none) (n : q ≠ p) : H q = none := by
  cases e : H q with
  | none => rfl
  | some o => rw [x _ _ n e] at hq; cases hq
theorem Ex.updNew {p q : Addr} {H H' : Hp} {o : HO} (x : Ex p H H') (hq : H q = none) : Ex p H (L2.upd H' q o) := fun b u n e => by
  rw [upd_ne (ne_of_none e hq)]; exact x b u n e
theorem _root_.L2.Same.updNew {q : Addr} {H H' : Hp} {o : HO} (x : Same H H') (hq : H q = none) : Same H (L2.upd H' q o) := fun b u e => by
  rw [upd_ne (ne_of_none e hq)]; exact x b u e
theorem fm_nonneg (a : Int) {b : Int} (h : 0 < b) : 0 ≤ a.fmod b := Int.fmod_nonneg_of_pos a h
theorem fm_lt (a : Int) {b : Int} (h : 0 < b) : a.fmod b < b := Int.fmod_lt_of_pos a h
theorem atI_ints {ns : List Int} {a : Int} (h0 : 0 ≤ a) (h1 : a < ns.length) : ∃ n, atI (ns.map V.int) a = some (V.int n) := by
  obtain ⟨j, rfl⟩ := Int.eq_ofNat_of_zero_le h0
  have hj : j < ns.length := by exact_mod_cast h1
  exact ⟨ns[j], atI_nat (by rw [List.getElem?_map, List.getElem?_eq_getElem hj]; rfl)⟩
/-! ### the pool of draws: two lists and two numbers; an address that is none of them -/
def PoolAt (H : Hp) (p : Addr) : Prop := ∃ (gl sl : Addr) (gs ss : List Int) (b c : Int), H p = some (.lst [.ref gl, .ref sl, .int b, .int c]) ∧ H gl = some (.lst (gs.map V.int)) ∧ H sl = some (.lst (ss.map V.int))
/-- d stands, and is no part of the pool -/
def Off (H : Hp) (p d : Addr) : Prop := d ≠ p ∧ H d ≠ none ∧ ∀ (gl sl : Addr) (b c : Int), H p = some (.lst [.ref gl, .ref sl, .int b, .int c]) → gl ≠ d ∧ sl ≠ d
/-- draws were made, and other things stand as before -/
def Dr (p : Addr) (H H' : Hp) : Prop := Ex p H H' ∧ PoolAt H' p ∧ ∀ d, Off H p d → Off H' p d
theorem PoolAt.same {H H' : Hp} {p : Addr} (h : PoolAt H p) (s : Same H H') : PoolAt H' p := by
  obtain ⟨gl, sl, gs, ss, b, c, h1, h2, h3⟩ := h
  exact ⟨gl, sl, gs, ss, b, c, s _ _ h1, s _ _ h2, s _ _ h3⟩
theorem PoolAt.ne {H : Hp} {p q : Addr} (h : PoolAt H p) (hq : H q = none) : q ≠ p := by
  obtain ⟨gl, sl, gs, ss, b, c, h1, _⟩ := h
  exact hp_ne h1 hq
theorem none_ne {H : Hp} {p : Addr} {o : HO} (h : H p = some o) : H p ≠ none := by
  rw [h]
  intro z
  cases z
theorem Off.same {H H' : Hp} {p d : Addr} (h : Off H p d) (g : PoolAt H p) (s : Same H H') : Off H' p d := by
  obtain ⟨gl, sl, gs, ss, b, c, h1, h2, h3⟩ := g
  refine ⟨h.1, ?_, fun gl' sl' b' c' e => ?_⟩
  · cases e : H d with
    | none => exact absurd e h.2.1
    | some o => rw [s _ _ e]; exact fun z => nomatch z
  · rw [s _ _ h1] at e
    cases e
    exact h.2.2 _ _ _ _ h1
theorem Dr.refl {H : Hp} {p : Addr} (h : PoolAt H p) : Dr p H H := ⟨Ex.refl _ _, h, fun _ x => x⟩
theorem Dr.trans {p : Addr} {H H1 H2 : Hp} (a : Dr p H H1) (b : Dr p H1 H2) : Dr p H H2 := ⟨a.1.trans b.1, b.2.1, fun d h => b.2.2 d (a.2.2 d h)⟩
theorem Dr.same {p : Addr} {H H' : Hp} (h : PoolAt H p) (s : Same H H') : Dr p H H' := ⟨Same.ex s, h.same s, fun _ x => x.same h s⟩
theorem Off.new {H : Hp} {p q : Addr} {o : HO} (h : PoolAt H p) (hq : H q = none) : Off (L2.upd H q o) p q := by
  obtain ⟨gl, sl, gs, ss, b, c, h1, h2, h3⟩ := h
  refine ⟨hp_ne h1 hq, by rw [upd_same]; exact (fun z => nomatch z), fun gl' sl' b' c' e => ?_⟩
  rw [upd_ne (hp_ne h1 hq).symm, h1] at e
  cases e
  exact ⟨fun z => (by rw [z, hq] at h2; cases h2), fun z => (by rw [z, hq] at h3; cases h3)⟩
theorem PoolAt.upd {H : Hp} {p d : Addr} {o : HO} (h : PoolAt H p) (f : Off H p d) : PoolAt (L2.upd H d o) p := by
  obtain ⟨gl, sl, gs, ss, b, c, h1, h2, h3⟩ := h
  obtain ⟨n1, n2⟩ := f.2.2 _ _ _ _ h1
  exact ⟨gl, sl, gs, ss, b, c, by rw [upd_ne f.1.symm]; exact h1, by rw [upd_ne n1]; exact h2, by rw [upd_ne n2]; exact h3⟩
theorem Off.upd {H : Hp} {p d e : Addr} {o : HO} (f : Off H p d) (g : Off H p e) : Off (L2.upd H e o) p d := by
  refine ⟨f.1, ?_, fun gl sl b c h => ?_⟩
  · by_cases z : d = e
    · rw [z, upd_same]; exact fun z => nomatch z
    · rw [upd_ne z]; exact f.2.1
  · rw [upd_ne g.1.symm] at h
    exact f.2.2 _ _ _ _ h
/-- a list that came since is written -/
theorem Dr.upd {p d : Addr} {H H' : Hp} {o : HO} (x : Dr p H H') (h : H d = none) (f : Off H' p d) : Dr p H (L2.upd H' d o) :=
  ⟨x.1.updNew h, x.2.1.upd f, fun e g => (x.2.2 e g).upd f⟩
theorem Dr.new {p q : Addr} {H H' : Hp} {o : HO} (x : Dr p H H') (h : H' q = none) : Dr p H (L2.upd H' q o) := x.trans (Dr.same x.2.1 (Same.new _ h))
theorem Off.at {H H' : Hp} {p d : Addr} {o : HO} (f : Off H p d) (x : Dr p H H') (h : H d = some o) : H' d = some o := x.1 _ _ f.1 h
theorem Dr.free {p d : Addr} {H H' : Hp} (x : Dr p H H') (h : H' d = none) : H d = none := x.1.free h (x.2.1.ne h)
theorem ints_ne {xs : List Int} {a : Addr} {r : List V} : xs.map V.int ≠ .ref a :: r := by
  cases xs with
  | nil => intro z; cases z
  | cons x t => intro z; cases z
theorem cut_intsL (ns : List Int) (lo hi : Option Int) : ∃ ms : List Int, cutV (ns.map V.int) lo hi = ms.map V.int ∧ ms.length ≤ ns.length := by
  unfold cutV
  refine ⟨_, by rw [← List.map_drop, ← List.map_take], ?_⟩
  rw [List.length_take, List.length_drop]
  omega
theorem cut_ints (ns : List Int) (lo hi : Option Int) : ∃ ms : List Int, cutV (ns.map V.int) lo hi = ms.map V.int := by
  obtain ⟨ms, h, _⟩ := cut_intsL ns lo hi
  exact ⟨ms, h⟩
theorem le_size {n : Nat} (h : n ≤ 100000) : n ≤ sizeLine := Nat.le_trans h (by decide)
theorem lt_size {n : Nat} (h : n ≤ 100000) : n < sizeLine := Nat.lt_of_le_of_lt h (by decide)
def spDraw : Sp := fun vs H Q _ => ∃ (p : Addr) (m : Int), vs = [.ref p, .int m] ∧ PoolAt H p ∧ 0 < m ∧ m < 1073741824 ∧
  ∀ H' (r : Int), Dr p H H' → 0 ≤ r → r < m → Q (.int r) H'
def spPick : Sp := fun vs H Q _ => ∃ (p q : Addr) (xs : List V), vs = [.ref p, .ref q] ∧ PoolAt H p ∧ q ≠ p ∧ H q = some (.lst xs) ∧ 0 < xs.length ∧ xs.length < 1000 ∧
  ∀ H' x, Dr p H H' → x ∈ xs → Q x H'
def spPickS : Sp := fun vs H Q _ => ∃ (p : Addr) (xs : List Nat), vs = [.ref p, .str (SX.S xs)] ∧ PoolAt H p ∧ 0 < xs.length ∧ xs.length < 1000 ∧
  ∀ H' x, Dr p H H' → x ∈ xs → Q (.str (SX.S [x])) H'
def spPool (K : PySem.W.Frag) : Sp := fun vs H Q _ => ∃ (a : Addr) (ns : List Int), vs = [.ref a] ∧ SqL K H a (ns.map V.int) ∧ ns.length ≤ 63 ∧ ∀ (p : Addr) H', PoolAt H' p → Same H H' → H p = none → Q (.ref p) H'
end J


set_option Elab.async false
set_option linter.all false
set_option maxRecDepth 100000
set_option maxHeartbeats 4000000
namespace J
open PySem L2
theorem pool_ne {H : Hp} {p gl sl : Addr} {gs ss : List Int} {b c : Int} (hp : H p = some (.lst [.ref gl, .ref sl, .int b, .int c])) (hg : H gl = some (.lst (gs.map V.int))) (hs : H sl = some (.lst (ss.map V.int))) : gl ≠ p ∧ sl ≠ p := by
  constructor
  · intro q
    rw [q, hp] at hg
    injection hg with hg
    injection hg with hg
    exact ints_ne hg.symm
  · intro q
    rw [q, hp] at hs
    injection hs with hs
    injection hs with hs
    exact ints_ne hs.symm
theorem Dr.put {H : Hp} {p gl sl : Addr} {gs ss : List Int} {b c b' c' : Int} (hp : H p = some (.lst [.ref gl, .ref sl, .int b, .int c])) (hg : H gl = some (.lst (gs.map V.int))) (hs : H sl = some (.lst (ss.map V.int))) : Dr p H (L2.upd H p (.lst [.ref gl, .ref sl, .int b', .int c'])) := by
  obtain ⟨n1, n2⟩ := pool_ne hp hg hs
  refine ⟨Ex.upd _, ⟨gl, sl, gs, ss, b', c', upd_same, by rw [upd_ne n1]; exact hg, by rw [upd_ne n2]; exact hs⟩, fun d h => ⟨h.1, by rw [upd_ne h.1]; exact h.2.1, fun gl' sl' b2 c2 e => ?_⟩⟩
  rw [upd_same] at e
  cases e
  exact h.2.2 _ _ _ _ hp
theorem Dr.swap {H : Hp} {p q gl sl : Addr} {gs ss ms : List Int} {b c b' c' : Int} (hp : H p = some (.lst [.ref gl, .ref sl, .int b, .int c])) (hg : H gl = some (.lst (gs.map V.int))) (hs : H sl = some (.lst (ss.map V.int))) (hq : H q = none) :
    Dr p H (L2.upd (L2.upd H q (.lst (ms.map V.int))) p (.lst [.ref q, .ref sl, .int b', .int c'])) := by
  obtain ⟨n1, n2⟩ := pool_ne hp hg hs
  have nq := hp_ne hp hq
  refine ⟨fun z o hz e => ?_, ⟨q, sl, ms, ss, b', c', upd_same, ?_, ?_⟩, fun d h => ⟨h.1, ?_, fun gl' sl' b2 c2 e => ?_⟩⟩
  · rw [upd_ne hz, upd_ne (ne_of_none e hq)]
    exact e
  · rw [upd_ne nq]; exact upd_same
  · rw [upd_ne n2, upd_ne (ne_of_none hs hq)]; exact hs
  · rw [upd_ne h.1]
    by_cases z : d = q
    · rw [z, upd_same]; exact fun z => nomatch z
    · rw [upd_ne z]; exact h.2.1
  · rw [upd_same] at e
    cases e
    exact ⟨fun z => h.2.1 (by rw [← z]; exact hq), (h.2.2 _ _ _ _ hp).2⟩
section
variable {P : Program} {w : World} {K : PySem.W.Frag} {mg : Str → Option Value} {base : Heap}
theorem ok_l_draw (T : Tx K mg) : FnOk P w K mg base CX0 1 T.f_l_draw T.fd_l_draw P_l_draw spDraw := by
  refine T.F_l_draw.ok sc_l_draw (fun vs H Q E h => ?_) (fun cdv A outer s H vs Q E hr h => ?_)
  · obtain ⟨p, m, rfl, _⟩ := h
    rfl
  · obtain ⟨p, m, rfl, hst, hm, hm2, k⟩ := h
    refine ⟨_, (C8.pss_cut (ps_if (PW.pt (pw_and (pt_cmpR op_eq (pe_ix (ix_listK (K := K) rfl) (pv 0) pe_int (fun _ _ => rfl)) pe_int (nomark _)) (pw_and1 (pt_cmpR op_gt (pe_callB (call_len_seqK (K := K) rfl) rfl T.n_len (by decide +kernel) (pa_cons (pe_ix (ix_listK (K := K) rfl) (pv 0) pe_int (fun _ _ => rfl)) pa_nil)) pe_int (nomark _))))) (pss_cons (ps_set (i := 2) sc_l_draw.nd rfl (Or.inl rfl) (pe_ix (ix_listK (K := K) rfl) (pv 0) pe_int (fun _ _ => rfl)))
        (pss_cons (ps_asg (pe_ix (ix_listK (K := K) rfl) (pv 2) pe_int (fun _ _ => rfl)) (pg_sub (pv 0) pe_int set_list))
        (pss_one (ps_asg (pe_slice (sl_listK (K := K) rfl) (pv 2) (po_some pe_int) po_none) (pg_sub (pv 0) pe_int set_list))))) pss_nil)
        (C8.pss_cut (ps_if (pt_cmpR op_gt (pe_ix (ix_listK (K := K) rfl) (pv 0) pe_int (fun _ _ => rfl)) pe_int (nomark _)) (pss_cons (ps_set (i := 3) sc_l_draw.nd rfl (Or.inl rfl) (pe_op op_modN (pe_callTy call_int1 rfl T.n_int (by decide +kernel) (pa_cons (pe_ix (ix_listK (K := K) rfl) (pv 0) pe_int (fun _ _ => rfl)) pa_nil)) (pv 1)))
        (pss_cons (ps_asg (pe_op op_fdivN (pe_ix (ix_listK (K := K) rfl) (pv 0) pe_int (fun _ _ => rfl)) (pv 1)) (pg_sub (pv 0) pe_int set_list))
        (pss_one (ps_ret (pv 3))))) pss_nil)
        (pss_cons (ps_asg (pe_op op_add (pe_ix (ix_listK (K := K) rfl) (pv 0) pe_int (fun _ _ => rfl)) pe_int) (pg_sub (pv 0) pe_int set_list))
        (pss_cons (ps_set (i := 4) sc_l_draw.nd rfl (Or.inl rfl) pe_int)
        (C8.pss_cut (ps_if (pt_cmpR op_gt (pe_callB (call_len_seqK (K := K) rfl) rfl T.n_len (by decide +kernel) (pa_cons (pe_ix (ix_listK (K := K) rfl) (pv 0) pe_int (fun _ _ => rfl)) pa_nil)) pe_int (nomark _)) (pss_one (ps_set (i := 4) sc_l_draw.nd rfl (Or.inl rfl) (pe_ix (ix_listK (K := K) rfl) (pe_ix (ix_listK (K := K) rfl) (pv 0) pe_int (fun _ _ => rfl)) (pe_op op_modN (pe_callTy call_int1 rfl T.n_int (by decide +kernel) (pa_cons (pe_ix (ix_listK (K := K) rfl) (pv 0) pe_int (fun _ _ => rfl)) pa_nil)) (pe_callB (call_len_seqK (K := K) rfl) rfl T.n_len (by decide +kernel) (pa_cons (pe_ix (ix_listK (K := K) rfl) (pv 0) pe_int (fun _ _ => rfl)) pa_nil))) (fun _ _ => rfl)))) pss_nil)
        (pss_cons (ps_set (i := 5) sc_l_draw.nd rfl (Or.inl rfl) (pe_op op_modN (pe_callTy call_int1 rfl T.n_int (by decide +kernel) (pa_cons (pe_op op_mul (pe_op op_add (pe_op op_add (pv 4) (pe_op op_mul pe_int (pe_ix (ix_listK (K := K) rfl) (pv 0) pe_int (fun _ _ => rfl)))) pe_int) pe_int) pa_nil)) pe_int))
        (pss_cons (ps_set (i := 5) sc_l_draw.nd rfl (Or.inl rfl) (pe_op op_modN (pe_callTy call_int1 rfl T.n_int (by decide +kernel) (pa_cons (pe_op op_mul (pv 5) (pe_op op_add (pe_op op_fdivN (pv 5) pe_int) pe_int)) pa_nil)) pe_int))
        (pss_cons (ps_set (i := 5) sc_l_draw.nd rfl (Or.inl rfl) (pe_op op_modN (pe_callTy call_int1 rfl T.n_int (by decide +kernel) (pa_cons (pe_op op_mul (pv 5) (pe_op op_add (pe_op op_fdivN (pv 5) pe_int) pe_int)) pa_nil)) pe_int))
        (pss_one (ps_ret (pe_op op_modN (pe_callTy call_int1 rfl T.n_int (by decide +kernel) (pa_cons (pe_op op_fdivN (pv 5) pe_int) pa_nil)) (pv 1)))))))))))), ?_⟩
    have hst0 := hst
    obtain ⟨gl, sl, gs, ss, b, c, hp, hg, hs⟩ := hst
    obtain ⟨npg, nps⟩ := pool_ne hp hg hs
    refine ⟨fun σ' H' => (∃ v, σ' = [some (.ref p), some (.int m), v, none, none, none]) ∧ Dr p H H', ?_, ?_⟩
    · refine ⟨_, rfl, _, _, _, _, rfl, rfl, SqL.of hp, rfl, rfl, _, rfl, ?_⟩
      refine ite2 (fun c1 => ?_) (fun c1 => ?_)
      · refine ⟨_, rfl, _, _, _, _, rfl, rfl, SqL.of hp, rfl, gl, _, rfl, .inl (SqL.of hg), _, _, rfl, rfl, _, rfl, ?_⟩
        refine ite2 (fun c2 => ?_) (fun c2 => ?_)
        · rw [List.length_map] at c2
          obtain ⟨n, hn⟩ := atI_ints (ns := gs) (Int.le_refl 0) (by simpa using c2)
          refine ⟨_, rfl, _, _, _, _, rfl, rfl, SqL.of hp, rfl, ?_⟩
          refine ⟨_, rfl, gl, _, _, _, rfl, rfl, SqL.of hg, hn, _, rfl, p, _, _, _, rfl, rfl, hp, rfl, ?_⟩
          refine ⟨_, rfl, _, rfl, gl, gs.map V.int, rfl, SqL.of (by rw [upd_ne npg]; exact hg), fun q hq => ?_⟩
          have hqp : q ≠ p := hp_ne upd_same hq
          refine ⟨_, rfl, p, _, _, _, rfl, rfl, by rw [upd_ne hqp.symm]; exact upd_same, rfl, ?_⟩
          obtain ⟨ms, hms⟩ := cut_ints gs (some 1) none
          refine ⟨⟨_, rfl⟩, (Dr.put (b' := n) (c' := c) hp hg hs).trans ?_⟩
          show Dr p _ (L2.upd (L2.upd _ q (.lst (cutV (gs.map V.int) (some 1) none))) p (.lst [.ref q, .ref sl, .int n, .int c]))
          rw [hms]
          exact Dr.swap (gs := gs) upd_same (by rw [upd_ne npg]; exact hg) (by rw [upd_ne nps]; exact hs) hq
        · exact ⟨⟨_, rfl⟩, Dr.refl hst0⟩
      · exact iteF ⟨⟨_, rfl⟩, Dr.refl hst0⟩
    · rintro σ' H1 ⟨⟨v, rfl⟩, x1⟩
      have st1 := x1.2.1
      obtain ⟨gl, sl, gs, ss, b, c, hp, hg, hs⟩ := st1
      obtain ⟨npg, nps⟩ := pool_ne hp hg hs
      refine ⟨fun σ' H' => (∃ v, σ' = [some (.ref p), some (.int m), v, none, none, none]) ∧ H' = H1, ?_, ?_⟩
      · refine ⟨_, rfl, _, _, _, _, rfl, rfl, SqL.of hp, rfl, _, _, rfl, rfl, _, rfl, ?_⟩
        refine ite2 (fun c1 => ?_) (fun c1 => ?_)
        · refine ⟨_, rfl, _, _, _, _, rfl, rfl, SqL.of hp, rfl, .inl ⟨_, rfl, _, rfl, _, _, rfl, rfl, by omega, ?_⟩⟩
          refine ⟨_, rfl, _, _, _, _, rfl, rfl, SqL.of hp, rfl, _, rfl, _, _, rfl, rfl, ⟨by omega, by omega⟩, _, rfl, p, _, _, _, rfl, rfl, hp, rfl, ?_⟩
          exact ⟨_, rfl, k _ _ (x1.trans (Dr.put hp hg hs)) (fm_nonneg _ hm) (fm_lt _ hm)⟩
        · exact ⟨⟨_, rfl⟩, rfl⟩
      · rintro σ' H' ⟨⟨v, rfl⟩, rfl⟩
        refine ⟨_, rfl, _, _, _, _, rfl, rfl, SqL.of hp, rfl, _, _, rfl, rfl, _, rfl, p, _, _, _, rfl, rfl, hp, rfl, ?_⟩
        have hg2 : ∀ o, upd H' p o gl = some (.lst (gs.map V.int)) := fun o => by rw [upd_ne npg]; exact hg
        have hs2 : ∀ o, upd H' p o sl = some (.lst (ss.map V.int)) := fun o => by rw [upd_ne nps]; exact hs
        refine ⟨fun σ2 H2 => (∃ n : Int, σ2 = [some (.ref p), some (.int m), v, none, some (.int n), none]) ∧ Dr p H' H2 ∧ ∃ c', H2 p = some (.lst [.ref gl, .ref sl, .int b, .int c']), ?_, ?_⟩
        · refine ⟨_, rfl, _, _, _, _, rfl, rfl, SqL.of upd_same, rfl, sl, _, rfl, .inl (SqL.of (hs2 _)), _, _, rfl, rfl, _, rfl, ?_⟩
          refine ite2 (fun c1 => ?_) (fun c1 => ?_)
          · rw [List.length_map] at c1
            have c2 : (0 : Int) < (ss.length : Int) := by simpa using c1
            refine ⟨_, rfl, _, _, _, _, rfl, rfl, SqL.of upd_same, rfl, _, rfl, _, _, _, _, rfl, rfl, SqL.of upd_same, rfl, .inl ⟨_, rfl, ?_⟩⟩
            obtain ⟨n, hn⟩ := atI_ints (ns := ss) (fm_nonneg (c + 1) c2) (fm_lt (c + 1) c2)
            refine ⟨_, rfl, _, _, _, _, rfl, rfl, SqL.of upd_same, rfl, sl, _, rfl, .inl (SqL.of (hs2 _)), _, _, rfl, rfl, by rw [List.length_map]; omega, ?_⟩
            exact ⟨_, _, _, _, rfl, rfl, SqL.of (hs2 _), by rw [List.length_map]; exact hn, ⟨_, rfl⟩, Dr.put hp hg hs, _, upd_same⟩
          · exact ⟨⟨_, rfl⟩, Dr.put hp hg hs, _, upd_same⟩
        · rintro σ2 H2 ⟨⟨n, rfl⟩, x2, c', hp2⟩
          have hx0 := fm_nonneg ((n + 8237 * c' + 1) * 48271) (b := 2147483647) (by decide)
          have hx1 := fm_lt ((n + 8237 * c' + 1) * 48271) (b := 2147483647) (by decide)
          refine ⟨_, rfl, _, rfl, _, _, _, _, rfl, rfl, SqL.of hp2, rfl, _, _, rfl, rfl, .inl (by decide), _, _, rfl, rfl, _, _, rfl, rfl, _, _, rfl, rfl, .inr (by decide), .inl ⟨_, rfl, _, _, rfl, rfl, (by decide : (2147483647 : Int) ≠ 0), ?_⟩⟩
          refine ⟨_, rfl, _, rfl, _, _, rfl, rfl, ⟨by decide, by decide⟩, _, _, rfl, rfl, _, _, rfl, rfl, .inl ⟨Int.lt_of_lt_of_le (by decide) hx0, Int.lt_trans hx1 (by decide)⟩, .inl ⟨_, rfl, _, _, rfl, rfl, (by decide : (2147483647 : Int) ≠ 0), ?_⟩⟩
          refine ⟨_, rfl, _, rfl, _, _, rfl, rfl, ⟨by decide, by decide⟩, _, _, rfl, rfl, _, _, rfl, rfl, .inl ⟨Int.lt_of_lt_of_le (by decide) (fm_nonneg _ (by decide)), Int.lt_trans (fm_lt _ (by decide)) (by decide)⟩, .inl ⟨_, rfl, _, _, rfl, rfl, (by decide : (2147483399 : Int) ≠ 0), ?_⟩⟩
          refine ⟨_, rfl, _, _, rfl, rfl, ⟨by decide, by decide⟩, .inl ⟨_, rfl, _, rfl, _, _, rfl, rfl, by omega, ?_⟩⟩
          exact k _ _ (x1.trans x2) (fm_nonneg _ hm) (fm_lt _ hm)
theorem ok_l_pick (T : Tx K mg) : FnOk P w K mg base CX0 2 T.f_l_pick T.fd_l_pick P_l_pick spPick := by
  have G_l_draw : FnOk P w K mg base CX0 1 T.f_l_draw T.fd_l_draw P_l_draw spDraw := ok_l_draw T
  refine T.F_l_pick.ok sc_l_pick (fun vs H Q E h => ?_) (fun cdv A outer s H vs Q E hr h => ?_)
  · obtain ⟨p, q, xs, rfl, _⟩ := h
    rfl
  · obtain ⟨p, q, xs, rfl, hst, hn, hq, h0, h1, k⟩ := h
    refine ⟨_, (pss_one (ps_ret (pe_ix (ix_listK (K := K) rfl) (pv 1) (pe_call G_l_draw (hr.mono (by decide)) rfl T.m_l_draw T.F_l_draw.kp T.b_l_draw .nil pass0 (pa_cons (pv 0) (pa_cons (pe_callB (call_len_seqK (K := K) rfl) rfl T.n_len (by decide +kernel) (pa_cons (pv 1) pa_nil)) pa_nil))) (fun _ _ => rfl)))), ?_⟩
    refine ⟨_, rfl, _, rfl, _, rfl, q, xs, rfl, .inl (SqL.of hq), p, _, rfl, hst, by omega, by omega, fun H' r x r0 r1 => ?_⟩
    obtain ⟨j, rfl⟩ := Int.eq_ofNat_of_zero_le r0
    have hj : j < xs.length := by exact_mod_cast r1
    refine ⟨q, xs, _, _, rfl, rfl, SqL.of (x.1 _ _ hn hq), atI_nat (List.getElem?_eq_getElem hj), ?_⟩
    exact k _ _ x (List.getElem_mem hj)
theorem ok_l_pickS (T : Tx K mg) : FnOk P w K mg base CX0 2 T.f_l_pick T.fd_l_pick P_l_pick spPickS := by
  have G_l_draw : FnOk P w K mg base CX0 1 T.f_l_draw T.fd_l_draw P_l_draw spDraw := ok_l_draw T
  refine T.F_l_pick.ok sc_l_pick (fun vs H Q E h => ?_) (fun cdv A outer s H vs Q E hr h => ?_)
  · obtain ⟨p, xs, rfl, _⟩ := h
    rfl
  · obtain ⟨p, xs, rfl, hst, h0, h1, k⟩ := h
    refine ⟨_, (pss_one (ps_ret (pe_ix ix_str (pv 1) (pe_call G_l_draw (hr.mono (by decide)) rfl T.m_l_draw T.F_l_draw.kp T.b_l_draw .nil pass0 (pa_cons (pv 0) (pa_cons (pe_callB call_len_str rfl T.n_len (by decide +kernel) (pa_cons (pv 1) pa_nil)) pa_nil))) (fun _ _ => rfl)))), ?_⟩
    have hl : (SX.S xs).length ≤ sizeLine := le_size (by rw [SX.S_len]; omega)
    refine ⟨_, rfl, _, rfl, _, rfl, _, rfl, hl, p, _, rfl, hst, by rw [SX.S_len]; omega, by rw [SX.S_len]; omega, fun H' r x r0 r1 => ?_⟩
    rw [SX.S_len] at r1
    obtain ⟨j, rfl⟩ := Int.eq_ofNat_of_zero_le r0
    have hj : j < xs.length := by exact_mod_cast r1
    exact ⟨_, _, xs[j], rfl, rfl, hl, atI_nat (List.getElem?_eq_getElem hj), k _ _ x (List.getElem_mem hj)⟩
theorem ok_l_pool (T : Tx K mg) : FnOk P w K mg base CX0 1 T.f_l_pool T.fd_l_pool P_l_pool (spPool K) := by
  refine T.F_l_pool.ok sc_l_pool (fun vs H Q E h => ?_) (fun cdv A outer s H vs Q E hr h => ?_)
  · obtain ⟨a, ns, rfl, _⟩ := h
    rfl
  · obtain ⟨a, ns, rfl, hS, hlen, kq⟩ := h
    refine ⟨_, (pss_cons (ps_setLc (i := 1) (own := [("_law_cell", 4)]) (g := (gName 4)) rfl sc_l_pool.nd rfl rfl (sw_true rfl rfl rfl (by decide +kernel)) (pi_list (pe_slice (sl_listK (K := K) rfl) (pv 0) po_none (po_some pe_int))) (blkOk_by (N := N_l_pool) (sc := defScope s_l_pool) (by decide +kernel)) (fun _ _ _ _ _ => (pg_name (i := 4) sc_l_pool.nd rfl (Or.inl rfl))) (fun _ _ _ _ _ => pts_nil) (fun _ _ _ _ _ => (pe_callB call_abs rfl T.n_abs (by decide +kernel) (pa_cons (pe_callTy call_int1 rfl T.n_int (by decide +kernel) (pa_cons (pv 4) pa_nil)) pa_nil))))
        (pss_cons (ps_setLc (i := 2) (own := [("_law_cell", 4)]) (g := (gName 4)) rfl sc_l_pool.nd rfl rfl (sw_true rfl rfl rfl (by decide +kernel)) (pi_list (pv 1)) (blkOk_by (N := N_l_pool) (sc := defScope s_l_pool) (by decide +kernel)) (fun _ _ _ _ _ => (pg_name (i := 4) sc_l_pool.nd rfl (Or.inl rfl))) (fun _ _ _ _ _ => (pts_one (pt_cmpR op_ge (pv 4) (pe_op op_pow pe_int pe_int) (nomark _)))) (fun _ _ _ _ _ => (pv 4)))
        (pss_cons (ps_setLc (i := 3) (own := [("_law_cell", 4)]) (g := (gName 4)) rfl sc_l_pool.nd rfl rfl (sw_true rfl rfl rfl (by decide +kernel)) (pi_list (pv 1)) (blkOk_by (N := N_l_pool) (sc := defScope s_l_pool) (by decide +kernel)) (fun _ _ _ _ _ => (pg_name (i := 4) sc_l_pool.nd rfl (Or.inl rfl))) (fun _ _ _ _ _ => (pts_one (pt_cmpR op_lt (pv 4) (pe_op op_pow pe_int pe_int) (nomark _)))) (fun _ _ _ _ _ => (pe_op op_modN (pe_callTy call_int1 rfl T.n_int (by decide +kernel) (pa_cons (pv 4) pa_nil)) pe_int)))
        (pss_one (ps_ret (pe_lst (pa_cons (pv 2) (pa_cons (pv 3) (pa_cons pe_int (pa_cons pe_int pa_nil)))))))))), ?_⟩
    refine ⟨_, rfl, _, rfl, a, _, rfl, hS, fun q hq => ?_⟩
    obtain ⟨ms, hms, hml⟩ := cut_intsL ns none (some 63)
    rw [hms]
    have s1 : Same H (upd H q (.lst (ms.map V.int))) := Same.new _ hq
    have g1 : upd H q (.lst (ms.map V.int)) q = some (.lst (ms.map V.int)) := upd_same
    generalize upd H q (.lst (ms.map V.int)) = H1 at *
    refine ⟨q, rfl, ⟨_, SqL.of g1⟩, fun D hD => lc_list (K := K) (a := q) (xs := ms.map V.int) (fun i H' => ∃ cs : List Int, cs.length = i ∧ H' D = some (.lst (cs.map V.int)) ∧ Same H1 H') ⟨[], rfl, upd_same, Same.new _ hD⟩ (fun i H' _ ⟨_, _, _, sm⟩ => SqL.of (sm _ _ g1)) ?_ ?_⟩
    · rintro i y H2 hy ⟨cs, rfl, hDl, sm⟩
      have hil := (List.getElem?_eq_some_iff.mp hy).1
      rw [List.length_map] at hil
      rw [List.getElem?_map] at hy
      obtain ⟨z, _, rfl⟩ := Option.map_eq_some_iff.mp hy
      refine ⟨rfl, _, rfl, .inl ⟨_, rfl, _, rfl, _, hDl, lt_size (by rw [List.length_map]; omega), cs ++ [if z < 0 then -z else z], by simp, ?_, sm.updNew hD⟩⟩
      rw [upd_same, List.map_append]
      rfl
    · rintro H2 ⟨cs, hcl, hDl, sm⟩
      have s2 : Same H H2 := s1.trans sm
      have hcm : cs.length ≤ 63 := by rw [hcl, List.length_map]; omega
      clear hcl
      refine ⟨_, rfl, D, rfl, ⟨_, SqL.of hDl⟩, fun E1 hE => lc_list (K := K) (a := D) (xs := cs.map V.int) (fun i H' => ∃ gs : List Int, gs.length ≤ i ∧ H' E1 = some (.lst (gs.map V.int)) ∧ Same H2 H') ⟨[], Nat.le_refl _, upd_same, Same.new _ hE⟩ (fun i H' _ ⟨_, _, _, sm⟩ => SqL.of (sm _ _ hDl)) ?_ ?_⟩
      · rintro i y H3 hy ⟨gs, hgl, hEl, sm3⟩
        have hil := (List.getElem?_eq_some_iff.mp hy).1
        rw [List.length_map] at hil
        rw [List.getElem?_map] at hy
        obtain ⟨z, _, rfl⟩ := Option.map_eq_some_iff.mp hy
        refine ⟨rfl, _, rfl, _, _, rfl, rfl, ⟨by decide, by decide, by decide⟩, _, _, rfl, rfl, _, rfl, ?_⟩
        refine ite2 (fun c => ?_) (fun c => ?_)
        · refine ⟨_, rfl, _, hEl, lt_size (by rw [List.length_map]; omega), gs ++ [z], by simp; omega, ?_, sm3.updNew hE⟩
          rw [upd_same, List.map_append]
          rfl
        · exact ⟨gs, by omega, hEl, sm3⟩
      · rintro H3 ⟨gs, hgl, hEl, sm3⟩
        have hD3 := sm3 _ _ hDl
        refine ⟨_, rfl, D, rfl, ⟨_, SqL.of hD3⟩, fun F1 hF => lc_list (K := K) (a := D) (xs := cs.map V.int) (fun i H' => ∃ ss : List Int, ss.length ≤ i ∧ H' F1 = some (.lst (ss.map V.int)) ∧ Same H3 H') ⟨[], Nat.le_refl _, upd_same, Same.new _ hF⟩ (fun i H' _ ⟨_, _, _, sm⟩ => SqL.of (sm _ _ hD3)) ?_ ?_⟩
        · rintro i y H4 hy ⟨ss, hsl, hFl, sm4⟩
          have hil := (List.getElem?_eq_some_iff.mp hy).1
          rw [List.length_map] at hil
          rw [List.getElem?_map] at hy
          obtain ⟨z, _, rfl⟩ := Option.map_eq_some_iff.mp hy
          refine ⟨rfl, _, rfl, _, _, rfl, rfl, ⟨by decide, by decide, by decide⟩, _, _, rfl, rfl, _, rfl, ?_⟩
          refine ite2 (fun c => ?_) (fun c => ?_)
          · refine ⟨_, rfl, .inl ⟨_, rfl, _, _, rfl, rfl, (by decide : (1000003 : Int) ≠ 0), _, hFl, lt_size (by rw [List.length_map]; omega), ss ++ [z.fmod 1000003], by simp; omega, ?_, sm4.updNew hF⟩⟩
            rw [upd_same, List.map_append]
            rfl
          · exact ⟨ss, by omega, hFl, sm4⟩
        · rintro H4 ⟨ss, hsl, hFl, sm4⟩
          refine ⟨_, rfl, _, rfl, le_size (by simp), fun p hp => ?_⟩
          refine kq _ _ ⟨E1, F1, gs, ss, 0, 0, upd_same, by rw [upd_ne (ne_of_none (sm4 _ _ hEl) hp)]; exact sm4 _ _ hEl, by rw [upd_ne (ne_of_none hFl hp)]; exact hFl⟩ (((s2.trans sm3).trans sm4).trans (Same.new _ hp)) (((s2.trans sm3).trans sm4).free hp)
end
end J


set_option Elab.async false
set_option linter.all false
set_option maxRecDepth 100000
set_option maxHeartbeats 4000000
namespace J
open PySem L2
theorem joinL_nil : ∀ ys : List (List Nat), TL.joinL [] ys = ys.flatten
  | [] => rfl
  | [p] => by simp [TL.joinL]
  | p :: q :: r => by
    show p ++ ([] ++ TL.joinL [] (q :: r)) = _
    rw [joinL_nil (q :: r)]
    simp
theorem join_flat (ys : List (List Nat)) : Txt.join (SX.S []) (ys.map SX.S) = SX.S ys.flatten := by rw [SX.join_S, joinL_nil]
theorem emptyS : Str.ofString "" = SX.S [] := rfl
theorem sum_ones (us : List Nat) : ((us.map fun c => SX.S [c]).map (·.length)).sum = us.length := by
  induction us with
  | nil => rfl
  | cons a r ih => simp only [List.map_cons, List.sum_cons, ih, SX.S_len, List.length_cons, List.length_nil]; omega
theorem atI_mem {α : Type} {xs : List α} {i : Int} (h0 : 0 ≤ i) (h1 : i < xs.length) : ∃ v, v ∈ xs ∧ atI xs i = some v := by
  obtain ⟨j, rfl⟩ := Int.eq_ofNat_of_zero_le h0
  have hj : j < xs.length := by exact_mod_cast h1
  exact ⟨xs[j], List.getElem_mem hj, atI_nat (List.getElem?_eq_getElem hj)⟩
/-- signs: one to four small letters, ascending -/
def Signs (sg : List Nat) : Prop := 1 ≤ sg.length ∧ sg.length ≤ 4 ∧ (∀ c ∈ sg, 97 ≤ c ∧ c ≤ 122) ∧ sg.Pairwise (· < ·)
instance (sg : List Nat) : Decidable (Signs sg) := by unfold Signs; infer_instance
theorem Signs.len {sg : List Nat} (h : Signs sg) : 1 ≤ sg.length ∧ sg.length ≤ 4 := ⟨h.1, h.2.1⟩
/-- a word over the signs -/
def Word (sg u : List Nat) : Prop := 1 ≤ u.length ∧ u.length ≤ 12 ∧ ∀ c ∈ u, c ∈ sg
def txts (ws : List (List Nat)) : List V := ws.map fun u => V.str (SX.S u)
end J


set_option Elab.async false
set_option linter.all false
set_option maxRecDepth 100000
set_option maxHeartbeats 4000000
namespace J
open PySem L2
abbrev Arc := Nat × List Nat × Nat
def arcHO (a : Arc) : HO := .tup [.int (a.1 : Int), .str (SX.S a.2.1), .int (a.2.2 : Int)]
def Arcs (H : Hp) (vs : List V) (as : List Arc) : Prop := vs.length = as.length ∧ ∀ (i : Nat) (a : Arc), as[i]? = some a → ∃ t, vs[i]? = some (V.ref t) ∧ H t = some (arcHO a)
theorem Arcs.same {H H' : Hp} {vs : List V} {as : List Arc} (h : Arcs H vs as) (s : Same H H') : Arcs H' vs as :=
  ⟨h.1, fun i a e => by obtain ⟨t, h1, h2⟩ := h.2 i a e; exact ⟨t, h1, s _ _ h2⟩⟩
theorem Arcs.ex {H H' : Hp} {p : Addr} {xs : List V} {vs : List V} {as : List Arc} (h : Arcs H vs as) (x : Ex p H H') (hp : H p = some (.lst xs)) : Arcs H' vs as :=
  ⟨h.1, fun i a e => by
    obtain ⟨t, h1, h2⟩ := h.2 i a e
    exact ⟨t, h1, x _ _ (fun z => by rw [z, hp] at h2; cases h2) h2⟩⟩
theorem Arcs.snoc {H : Hp} {vs : List V} {as : List Arc} {t : Addr} {a : Arc} (h : Arcs H vs as) (ht : H t = some (arcHO a)) : Arcs H (vs ++ [V.ref t]) (as ++ [a]) := by
  refine ⟨by simp [h.1], fun i b e => ?_⟩
  by_cases hi : i < as.length
  · rw [List.getElem?_append_left hi] at e
    rw [List.getElem?_append_left (by rw [h.1]; exact hi)]
    exact h.2 i b e
  · rw [List.getElem?_append_right (by omega)] at e
    have e0 : i - as.length = 0 := by
      have q := (List.getElem?_eq_some_iff.mp e).1
      simp at q
      omega
    rw [e0] at e
    cases e
    refine ⟨t, ?_, ht⟩
    rw [List.getElem?_append_right (by rw [h.1]; omega), h.1, e0]
    rfl
theorem Arcs.updL {H : Hp} {vs xs : List V} {as : List Arc} {p : Addr} {o : HO} (h : Arcs H vs as) (hp : H p = some (.lst xs)) : Arcs (upd H p o) vs as := h.ex (Ex.upd o) hp

theorem Arcs.nil (H : Hp) : Arcs H [] [] := ⟨rfl, fun i a e => by simp at e⟩
theorem ex_upd_lst {p : Addr} {H : Hp} {o : HO} : Ex p H (upd H p o) := Ex.upd o
def OkArc (sg : List Nat) (a : Arc) : Prop := a.1 ≤ 63 ∧ Word sg a.2.1 ∧ a.2.2 ≤ 63
def OkArcs (sg : List Nat) (as : List Arc) : Prop := 1 ≤ as.length ∧ as.length ≤ 13 ∧ (∀ a ∈ as, OkArc sg a) ∧ ∃ a : Arc, as[0]? = some a ∧ a.1 = 0
end J


set_option Elab.async false
set_option linter.all false
set_option maxRecDepth 100000
set_option maxHeartbeats 4000000
namespace J
open PySem L2

def spNumber : Sp := fun vs H Q _ => ∃ i lo hi : Int, vs = [.int i, .int lo, .int hi] ∧ ∀ b : Bool, (b = true ↔ lo ≤ i ∧ i ≤ hi) → Q (.bl b) H
def spSequence (K : PySem.W.Frag) : Sp := fun vs H Q _ => ∃ (a : Addr) (xs : List V) (lo hi : Int), vs = [.ref a, .int lo, .int hi] ∧ (H a = some (.lst xs) ∨ H a = some (.tup xs)) ∧ ∀ (H' : Hp) (b : Bool), Same H H' → (b = true ↔ lo ≤ xs.length ∧ xs.length ≤ hi) → Q (.bl b) H'
def spOver : Sp := fun vs H Q _ => ∃ (sg u : List Nat) (lo hi : Int), vs = [.str (SX.S sg), .str (SX.S u), .int lo, .int hi] ∧ lo ≤ u.length ∧ u.length ≤ hi ∧ hi ≤ 100000 ∧ (∀ c ∈ u, c ∈ sg) ∧ ∀ H' : Hp, Same H H' → Q (.bl true) H'
def spIsWord : Sp := fun vs H Q _ => ∃ (sg u : List Nat), vs = [.str (SX.S sg), .str (SX.S u)] ∧ Word sg u ∧ ∀ H' : Hp, Same H H' → Q (.bl true) H'
def spSigns : Sp := fun vs H Q _ => ∃ sg : List Nat, vs = [.str (SX.S sg)] ∧ Signs sg ∧ ∀ H' : Hp, Same H H' → Q (.bl true) H'
def spArc : Sp := fun vs H Q _ => ∃ (sg : List Nat) (t : Addr) (a : Arc), vs = [.str (SX.S sg), .ref t] ∧ H t = some (arcHO a) ∧ OkArc sg a ∧ ∀ H' : Hp, Same H H' → Q (.bl true) H'
def spState1 : Sp := fun vs H Q _ => ∃ i : Int, vs = [.int i] ∧ 0 ≤ i ∧ i ≤ 63 ∧ Q .non H
def spText1 : Sp := fun vs H Q _ => ∃ (sg u : List Nat), vs = [.str (SX.S sg), .str (SX.S u)] ∧ u.length ≤ 2000 ∧ (∀ c ∈ u, c ∈ sg) ∧ ∀ H' : Hp, Same H H' → Q .non H'
theorem rep_snoc (n : Nat) : (HO.lst ((List.replicate n true).map V.bl ++ [V.bl true])) = HO.lst ((List.replicate (n + 1) true).map V.bl) := by
  congr 1
  rw [List.replicate_succ']
  simp
theorem all_true {n : Nat} : (List.replicate n true).all id = true := by simp
section
variable {P : Program} {w : World} {K : PySem.W.Frag} {mg : Str → Option Value} {base : Heap}

theorem ok_is_number (T : Tx K mg) : FnOk P w K mg base CX0 1 T.f_is_number T.fd_is_number P_is_number spNumber := by
  refine T.F_is_number.ok sc_is_number (fun vs H Q E h => ?_) (fun cdv A outer s H vs Q E hr h => ?_)
  · obtain ⟨i, lo, hi, rfl, _⟩ := h
    rfl
  · obtain ⟨i, lo, hi, rfl, k⟩ := h
    refine ⟨_, (pss_one (ps_ret (pe_and (pe_callB (call_isiK' (K := K) rfl) rfl T.n_isinstance (by decide +kernel) (pa_cons (pv 0) (pa_cons (pe_bltn (v := V.ty "int") (u := .type "int") rfl T.n_int (by decide +kernel) rfl) pa_nil))) (pe_and (pe_not (pe_callB (call_isiK' (K := K) rfl) rfl T.n_isinstance (by decide +kernel) (pa_cons (pv 0) (pa_cons (pe_bltn (v := V.ty "bool") (u := .type "bool") rfl T.n_bool (by decide +kernel) rfl) pa_nil)))) (pe_one (pe_chain op_le op_le (pv 1) (pv 0) (pv 2))))))), ?_⟩
    refine ⟨_, rfl, _, _, _, _, true, rfl, .ty "int", .base (.int i), kit_ty (by decide +kernel), true, rfl, ?_⟩
    refine ⟨_, rfl, _, _, _, _, false, rfl, .ty "bool", .base (.int i), kit_ty (by decide +kernel), false, rfl, true, rfl, ?_⟩
    refine ⟨_, rfl, _, rfl, _, _, rfl, rfl, _, rfl, ?_⟩
    refine ite2 (fun c => ?_) (fun c => ?_)
    · refine ⟨_, rfl, _, _, rfl, rfl, k _ ?_⟩
      have c1 := of_decide_eq_true c
      constructor
      · intro h; exact ⟨c1, of_decide_eq_true h⟩
      · intro h; exact decide_eq_true h.2
    · refine k _ ?_
      constructor
      · intro h; cases h
      · intro h; exact absurd (decide_eq_true h.1) c

theorem ok_is_sequence (T : Tx K mg) : FnOk P w K mg base CX0 1 T.f_is_sequence T.fd_is_sequence P_is_sequence (spSequence K) := by
  refine T.F_is_sequence.ok sc_is_sequence (fun vs H Q E h => ?_) (fun cdv A outer s H vs Q E hr h => ?_)
  · obtain ⟨a, xs, lo, hi, rfl, _⟩ := h
    rfl
  · obtain ⟨a, xs, lo, hi, rfl, ha, k⟩ := h
    refine ⟨_, (pss_one (ps_ret (pe_and (pe_callB (call_isiTK (K := K) rfl) rfl T.n_isinstance (by decide +kernel) (pa_cons (pv 0) (pa_cons (pe_tup (pa_cons (pe_bltn (v := V.ty "list") (u := .type "list") rfl T.n_list (by decide +kernel) rfl) (pa_cons (pe_bltn (v := V.ty "tuple") (u := .type "tuple") rfl T.n_tuple (by decide +kernel) rfl) pa_nil))) pa_nil))) (pe_one (pe_chain op_le op_le (pv 1) (pe_callB (call_len_seqK (K := K) rfl) rfl T.n_len (by decide +kernel) (pa_cons (pv 0) pa_nil)) (pv 2)))))), ?_⟩
    refine ⟨_, rfl, le_size (by decide), fun t ht => ?_⟩
    have st := Same.new (.tup [V.ty "list", V.ty "tuple"]) ht
    have two : ∃ tv, TyX K (upd H t (.tup [V.ty "list", V.ty "tuple"])) (.ref a) tv ∧ PySem.W.kitAny K tv [.type "list", .type "tuple"] = some true := by
      rcases ha with ha | ha
      · exact ⟨_, .base (.lst (st _ _ ha)), kitAny_cons (b := true) (kit_ty (by decide +kernel)) (fun q => nomatch q) (fun _ => rfl)⟩
      · exact ⟨_, .base (.tup (st _ _ ha)), kitAny_cons (b := false) (kit_ty (by decide +kernel)) (fun _ => kitAny_cons (b := true) (kit_ty (by decide +kernel)) (fun q => nomatch q) (fun _ => rfl)) (fun q => nomatch q)⟩
    have one : SqL K (upd H t (.tup [V.ty "list", V.ty "tuple"])) a xs ∨ SqT K (upd H t (.tup [V.ty "list", V.ty "tuple"])) a xs := by
      rcases ha with ha | ha
      · exact .inl (SqL.of (st _ _ ha))
      · exact .inr (SqT.of (st _ _ ha))
    obtain ⟨tv, htv, hkt⟩ := two
    refine ⟨_, _, _, _, [.type "list", .type "tuple"], true, rfl, upd_same, .cons (.ty _) (.cons (.ty _) .nil), htv, hkt, true, rfl, ?_⟩
    refine ⟨_, rfl, _, rfl, a, xs, rfl, one, _, _, rfl, rfl, _, rfl, ?_⟩
    refine ite2 (fun c => ?_) (fun c => ?_)
    · refine ⟨_, rfl, _, _, rfl, rfl, k _ _ st ?_⟩
      have c1 := of_decide_eq_true c
      constructor
      · intro h; exact ⟨c1, of_decide_eq_true h⟩
      · intro h; exact decide_eq_true h.2
    · refine k _ _ st ?_
      constructor
      · intro h; cases h
      · intro h; exact absurd (decide_eq_true h.1) c

theorem ok_is_string_over (T : Tx K mg) : FnOk P w K mg base CX0 1 T.f_is_string_over T.fd_is_string_over P_is_string_over spOver := by
  refine T.F_is_string_over.ok sc_is_string_over (fun vs H Q E h => ?_) (fun cdv A outer s H vs Q E hr h => ?_)
  · obtain ⟨sg, u, lo, hi, rfl, _⟩ := h
    rfl
  · obtain ⟨sg, u, lo, hi, rfl, h1, h2, h3, hu, k⟩ := h
    refine ⟨_, (pss_cons (ps_if (PW.pt (pw_or (pt_not (pt_val (pe_callB (call_isiK' (K := K) rfl) rfl T.n_isinstance (by decide +kernel) (pa_cons (pv 1) (pa_cons (pe_bltn (v := V.ty "str") (u := .type "str") rfl T.n_str (by decide +kernel) rfl) pa_nil))))) (pw_or1 (pt_not (pt_chain op_le op_le (pv 2) (pe_callB call_len_str rfl T.n_len (by decide +kernel) (pa_cons (pv 1) pa_nil)) (pv 3)))))) (pss_one (ps_ret pe_bl)) pss_nil)
        (pss_one (ps_ret (pe_callB (cr_allK (K := K) rfl rfl) rfl T.n_all (by decide +kernel) (pa_cons (pe_lc (own := [("sign", 4)]) (g := (gName 4)) rfl sc_is_string_over.nd (pi_str (pv 1)) (blkOk_by (N := N_is_string_over) (sc := defScope s_is_string_over) (by decide +kernel)) (fun _ _ _ _ _ => (pg_name (i := 4) sc_is_string_over.nd rfl (Or.inl rfl))) (fun _ _ _ _ _ => pts_nil) (fun _ _ _ _ _ => (pe_cmpR op_in_sign (pv 4) (pv 0) rfl))) pa_nil))))), ?_⟩
    have hl : (SX.S u).length ≤ sizeLine := le_size (by rw [SX.S_len]; omega)
    refine ⟨_, rfl, _, _, _, _, true, rfl, .ty "str", .base (.str _), kit_ty (by decide +kernel), true, rfl, ?_⟩
    have e : ((SX.S u).length : Int) = u.length := by rw [SX.S_len]
    refine ⟨_, rfl, _, rfl, _, rfl, hl, _, _, rfl, rfl, true, congrArg V.bl (decide_eq_true (by rw [e]; exact h1)), ?_⟩
    refine ⟨_, rfl, _, _, rfl, rfl, true, congrArg V.bl (decide_eq_true (by rw [e]; exact h2)), ?_⟩
    refine ⟨_, rfl, _, rfl, fun D hD => lc_it (walk_str (z := SX.S u)) (fun i H' => H' D = some (.lst ((List.replicate i true).map V.bl)) ∧ Same H H') ⟨upd_same, Same.new _ hD⟩ (fun _ _ _ _ => trivial) ?_ ?_⟩
    · rintro i x H1 H2 hi ⟨hDl, sm⟩ ⟨rfl, c, hc, rfl⟩
      have hcu : c ∈ u := by
        have q : u[i]? = some c := by simpa using hc
        exact List.mem_of_getElem? q
      have hi2 : i ≤ 100000 := by
        have q : i < (SX.S u).length := hi
        rw [SX.S_len] at q
        omega
      refine ⟨rfl, _, rfl, _, rfl, c, _, rfl, rfl, _, hDl, lt_size (by simp; exact hi2), ?_, sm.updNew hD⟩
      rw [upd_same, decide_eq_true (by simpa using hu c hcu), rep_snoc]
    · rintro H1 ⟨hDl, sm⟩
      refine ⟨D, _, rfl, SqL.of hDl, ?_⟩
      rw [all_true]
      exact k _ sm

theorem ok_is_word (T : Tx K mg) : FnOk P w K mg base CX0 2 T.f_is_word T.fd_is_word P_is_word spIsWord := by
  have G_is_string_over : FnOk P w K mg base CX0 1 T.f_is_string_over T.fd_is_string_over P_is_string_over spOver := ok_is_string_over T
  refine T.F_is_word.ok sc_is_word (fun vs H Q E h => ?_) (fun cdv A outer s H vs Q E hr h => ?_)
  · obtain ⟨sg, u, rfl, _⟩ := h
    rfl
  · obtain ⟨sg, u, rfl, ⟨h1, h2, h3⟩, k⟩ := h
    refine ⟨_, (pss_one (ps_ret (pe_call G_is_string_over (hr.mono (by decide)) rfl T.m_is_string_over T.F_is_string_over.kp T.b_is_string_over .nil pass0 (pa_cons (pv 0) (pa_cons (pv 1) (pa_cons pe_int (pa_cons (pe_glob (v := V.int 12) rfl T.g_LONGEST_WORD ⟨_, rfl⟩) pa_nil))))))), ?_⟩
    exact ⟨_, rfl, _, rfl, sg, u, 1, 12, rfl, by omega, by omega, by omega, h3, k⟩
theorem ok_is_arc (T : Tx K mg) : FnOk P w K mg base CX0 3 T.f_is_arc T.fd_is_arc P_is_arc spArc := by
  have G_is_number : FnOk P w K mg base CX0 1 T.f_is_number T.fd_is_number P_is_number spNumber := ok_is_number T
  have G_is_word : FnOk P w K mg base CX0 2 T.f_is_word T.fd_is_word P_is_word spIsWord := ok_is_word T
  refine T.F_is_arc.ok sc_is_arc (fun vs H Q E h => ?_) (fun cdv A outer s H vs Q E hr h => ?_)
  · obtain ⟨sg, t, a, rfl, _⟩ := h
    rfl
  · obtain ⟨sg, t, ⟨s1, u, g1⟩, rfl, ht, ⟨hs, hw, hg⟩, k⟩ := h
    refine ⟨_, (pss_cons (ps_if (PW.pt (pw_or (pt_not (pt_val (pe_callB (call_isiK' (K := K) rfl) rfl T.n_isinstance (by decide +kernel) (pa_cons (pv 1) (pa_cons (pe_bltn (v := V.ty "tuple") (u := .type "tuple") rfl T.n_tuple (by decide +kernel) rfl) pa_nil))))) (pw_or1 (pt_cmpR op_ne (pe_callB (call_len_seqK (K := K) rfl) rfl T.n_len (by decide +kernel) (pa_cons (pv 1) pa_nil)) pe_int (nomark _))))) (pss_one (ps_ret pe_bl)) pss_nil)
        (pss_cons (ps_asg (pv 1) (pg_tup rfl (pgs_cons (pg_name (i := 2) sc_is_arc.nd rfl (Or.inl rfl)) (pgs_cons (pg_name (i := 3) sc_is_arc.nd rfl (Or.inl rfl)) (pgs_cons (pg_name (i := 4) sc_is_arc.nd rfl (Or.inl rfl)) pgs_nil)))))
        (pss_one (ps_ret (pe_and (pe_call G_is_number (hr.mono (by decide)) rfl T.m_is_number T.F_is_number.kp T.b_is_number .nil pass0 (pa_cons (pv 2) (pa_cons pe_int (pa_cons (pe_glob (v := V.int 63) rfl T.g_LAST_STATE ⟨_, rfl⟩) pa_nil)))) (pe_and (pe_call G_is_word (hr.mono (by decide)) rfl T.m_is_word T.F_is_word.kp T.b_is_word .nil pass0 (pa_cons (pv 0) (pa_cons (pv 3) pa_nil))) (pe_one (pe_call G_is_number (hr.mono (by decide)) rfl T.m_is_number T.F_is_number.kp T.b_is_number .nil pass0 (pa_cons (pv 4) (pa_cons pe_int (pa_cons (pe_glob (v := V.int 63) rfl T.g_LAST_STATE ⟨_, rfl⟩) pa_nil))))))))))), ?_⟩
    refine ⟨_, rfl, _, _, _, _, true, rfl, .ty "tuple", .base (.tup ht), kit_ty (by decide +kernel), true, rfl, ?_⟩
    refine ⟨_, rfl, t, _, rfl, .inr (SqT.of ht), rfl, false, rfl, ?_⟩
    refine ⟨_, rfl, t, _, rfl, SqT.of ht, rfl, ?_⟩
    have e1 : (0 : Int) ≤ ((s1 : Nat) : Int) ∧ ((s1 : Nat) : Int) ≤ 63 := by omega
    have e2 : (0 : Int) ≤ ((g1 : Nat) : Int) ∧ ((g1 : Nat) : Int) ≤ 63 := by have hg' : g1 ≤ 63 := hg; omega
    refine ⟨_, _, rfl, _, _, rfl, _, _, rfl, rfl, ?_⟩
    refine ⟨_, rfl, _, 0, 63, rfl, fun b hb => ⟨b, rfl, ?_⟩⟩
    rw [hb.mpr e1]
    refine ⟨_, rfl, _, rfl, sg, u, rfl, hw, fun H' sm => ⟨true, rfl, ?_⟩⟩
    refine ⟨_, rfl, _, 0, 63, rfl, fun b hb => ?_⟩
    rw [hb.mpr e2]
    exact k H' sm
end
end J


set_option Elab.async false
set_option linter.all false
set_option maxRecDepth 100000
set_option maxHeartbeats 4000000
namespace J
open PySem L2

theorem walk_zipS {x y : Str} : Walk (ItzS x y) (min x.cps.size y.cps.size) (fun _ => True) (fun i H v H' => ∃ T c d, v = .ref T ∧ H T = none ∧ H' = upd H T (.tup [.str ⟨#[c]⟩, .str ⟨#[d]⟩]) ∧ x.cps[i]? = some c ∧ y.cps[i]? = some d) :=
  ⟨fun _ _ h _ => h, fun _ _ => rfl, fun _ _ _ _ _ _ h => h⟩
theorem one_lt {c d : Nat} : ([c] < ([d] : List Nat)) ↔ c < d := by
  rw [List.cons_lt_cons_iff]
  constructor
  · rintro (h | ⟨_, h⟩)
    · exact h
    · exact absurd h (List.lt_irrefl _)
  · exact .inl
theorem signs_le {sg : List Nat} (h : Signs sg) : ∀ c ∈ sg, (!decide ([c] < ([97] : List Nat))) = true ∧ (!decide (([122] : List Nat) < [c])) = true := fun c hc => by
  obtain ⟨h1, h2⟩ := h.2.2.1 c hc
  rw [decide_eq_false (fun z => by rw [one_lt] at z; omega), decide_eq_false (fun z => by rw [one_lt] at z; omega)]
  exact ⟨rfl, rfl⟩
theorem signs_pair {sg : List Nat} (h : Signs sg) {i c d : Nat} (h1 : sg[i]? = some c) (h2 : (sg.drop 1)[i]? = some d) : decide ([c] < [d]) = true := by
  rw [List.getElem?_drop] at h2
  obtain ⟨l1, e1⟩ := List.getElem?_eq_some_iff.mp h1
  obtain ⟨l2, e2⟩ := List.getElem?_eq_some_iff.mp h2
  refine decide_eq_true (one_lt.mpr ?_)
  rw [← e1, ← e2]
  exact List.pairwise_iff_getElem.mp h.2.2.2 i (1 + i) l1 l2 (by omega)
section
variable {P : Program} {w : World} {K : PySem.W.Frag} {mg : Str → Option Value} {base : Heap}

theorem ok_is_signs (T : Tx K mg) : FnOk P w K mg base CX0 1 T.f_is_signs T.fd_is_signs P_is_signs spSigns := by
  refine T.F_is_signs.ok sc_is_signs (fun vs H Q E h => ?_) (fun cdv A outer s H vs Q E hr h => ?_)
  · obtain ⟨sg, rfl, _⟩ := h
    rfl
  · obtain ⟨sg, rfl, hsg, k⟩ := h
    refine ⟨_, (pss_cons (ps_if (PW.pt (pw_or (pt_not (pt_val (pe_callB (call_isiK' (K := K) rfl) rfl T.n_isinstance (by decide +kernel) (pa_cons (pv 0) (pa_cons (pe_bltn (v := V.ty "str") (u := .type "str") rfl T.n_str (by decide +kernel) rfl) pa_nil))))) (pw_or1 (pt_not (pt_chain op_le op_le pe_int (pe_callB call_len_str rfl T.n_len (by decide +kernel) (pa_cons (pv 0) pa_nil)) (pe_glob (v := V.int 4) rfl T.g_MOST_SIGNS ⟨_, rfl⟩)))))) (pss_one (ps_ret pe_bl)) pss_nil)
        (pss_cons (ps_set (i := 1) sc_is_signs.nd rfl (Or.inl rfl) (pe_callB (cr_allK (K := K) rfl rfl) rfl T.n_all (by decide +kernel) (pa_cons (pe_lc (own := [("sign", 2)]) (g := (gName 2)) rfl sc_is_signs.nd (pi_str (pv 0)) (blkOk_by (N := N_is_signs) (sc := defScope s_is_signs) (by decide +kernel)) (fun _ _ _ _ _ => (pg_name (i := 2) sc_is_signs.nd rfl (Or.inl rfl))) (fun _ _ _ _ _ => pts_nil) (fun _ _ _ _ _ => (pe_chain op_le_str op_le_str pe_str (pv 2) pe_str))) pa_nil)))
        (pss_one (ps_ret (pe_and (pv 1) (pe_one (pe_callB (cr_allK (K := K) rfl rfl) rfl T.n_all (by decide +kernel) (pa_cons (pe_lc (own := [("one", 3), ("other", 4)]) (g := (gTup K 2 (gCons (gName 3) (gCons (gName 4) gNil)))) rfl sc_is_signs.nd (pi_zipS rfl T.n_zip (pa_cons (pv 0) (pa_cons (pe_slice sl_str (pv 0) (po_some pe_int) po_none) pa_nil))) (blkOk_by (N := N_is_signs) (sc := defScope s_is_signs) (by decide +kernel)) (fun _ _ _ _ _ => (pg_tup rfl (pgs_cons (pg_name (i := 3) sc_is_signs.nd rfl (Or.inl rfl)) (pgs_cons (pg_name (i := 4) sc_is_signs.nd rfl (Or.inl rfl)) pgs_nil)))) (fun _ _ _ _ _ => pts_nil) (fun _ _ _ _ _ => (pe_cmpR op_lt_str (pv 3) (pv 4) (nomark _)))) pa_nil)))))))), ?_⟩
    have hlen := hsg.len
    have hl : (SX.S sg).length ≤ sizeLine := le_size (by rw [SX.S_len]; omega)
    have e : ((SX.S sg).length : Int) = sg.length := by rw [SX.S_len]
    refine ⟨_, rfl, _, _, _, _, true, rfl, .ty "str", .base (.str _), kit_ty (by decide +kernel), true, rfl, ?_⟩
    refine ⟨_, rfl, _, rfl, hl, _, _, rfl, rfl, true, congrArg V.bl (decide_eq_true (by rw [e]; omega)), ?_⟩
    refine ⟨_, _, rfl, rfl, true, congrArg V.bl (decide_eq_true (by rw [e]; omega)), ?_⟩
    refine ⟨_, rfl, _, rfl, fun D hD => lc_it (walk_str (z := SX.S sg)) (fun i H' => H' D = some (.lst ((List.replicate i true).map V.bl)) ∧ Same H H') ⟨upd_same, Same.new _ hD⟩ (fun _ _ _ _ => trivial) ?_ ?_⟩
    · rintro i x H1 H2 hi ⟨hDl, sm⟩ ⟨rfl, c, hc, rfl⟩
      have hcu : c ∈ sg := by
        have q : sg[i]? = some c := by simpa using hc
        exact List.mem_of_getElem? q
      have hi2 : i ≤ 100000 := by
        have q : i < (SX.S sg).length := hi
        rw [SX.S_len] at q
        omega
      obtain ⟨l1, l2⟩ := signs_le hsg c hcu
      refine ⟨rfl, _, rfl, _, _, rfl, rfl, true, congrArg V.bl l1, _, _, rfl, rfl, _, hDl, lt_size (by simp; exact hi2), ?_, sm.updNew hD⟩
      rw [upd_same]
      show some (HO.lst (_ ++ [V.bl (!decide (([122] : List Nat) < [c]))])) = _
      rw [l2, rep_snoc]
    · rintro H1 ⟨hDl, sm⟩
      refine ⟨D, _, rfl, SqL.of hDl, ?_⟩
      rw [all_true]
      refine ⟨_, rfl, true, rfl, ?_⟩
      refine ⟨_, rfl, _, rfl, _, rfl, _, rfl, hl, ?_⟩
      rw [C8.cutS_slice, SX.slice_from (by decide)]
      refine ⟨_, _, rfl, fun D2 hD2 => lc_it (walk_zipS (x := SX.S sg) (y := SX.S (sg.drop 1))) (fun i H' => H' D2 = some (.lst ((List.replicate i true).map V.bl)) ∧ Same H H') ⟨upd_same, sm.trans (Same.new _ hD2)⟩ (fun _ _ _ _ => trivial) ?_ ?_⟩
      · rintro i x H2 H3 hi ⟨hDl2, sm2⟩ ⟨t, c, d, rfl, ht, rfl, hc, hd⟩
        have hcu : sg[i]? = some c := by simpa using hc
        have hdu : (sg.drop 1)[i]? = some d := by simpa using hd
        have hi2 : i ≤ 100000 := by
          have q := (List.getElem?_eq_some_iff.mp hcu).1
          omega
        have nt : D2 ≠ t := fun z => hp_ne hDl2 ht z.symm
        refine ⟨t, _, rfl, SqT.of upd_same, rfl, _, _, rfl, _, _, rfl, rfl, rfl, _, rfl, _, rfl, _, _, rfl, rfl, _, by rw [upd_ne nt]; exact hDl2, lt_size (by simp; exact hi2), ?_, (sm2.trans (Same.new _ ht)).updNew (sm.free hD2)⟩
        rw [upd_same]
        show some (HO.lst (_ ++ [V.bl (decide ([c] < [d]))])) = _
        rw [signs_pair hsg hcu hdu, rep_snoc]
      · rintro H2 ⟨hDl2, sm2⟩
        refine ⟨D2, _, rfl, SqL.of hDl2, ?_⟩
        rw [all_true]
        exact k _ sm2
end
end J


set_option Elab.async false
set_option linter.all false
set_option maxRecDepth 100000
set_option maxHeartbeats 4000000
namespace J
open PySem L2
/-- arcs that a loom may have -/
def OkW (sg : List Nat) (as : List Arc) : Prop := 1 ≤ as.length ∧ as.length ≤ 200 ∧ ∀ a ∈ as, OkArc sg a
theorem OkArcs.w {sg : List Nat} {as : List Arc} (h : OkArcs sg as) : OkW sg as := ⟨h.1, by have := h.2.1; omega, h.2.2.1⟩
/-- a loom's fields -/
def lf (sg : List Nat) (T : Addr) : List (Str × V) := putF "arcs" (.ref T) (putF "signs" (.str (SX.S sg)) [])
theorem ne_sa : ¬ (("signs" : Str) = "arcs") := by decide +kernel
theorem lf_signs (sg : List Nat) (T : Addr) : (lf sg T).lookup ("signs" : Str) = some (.str (SX.S sg)) := by
  unfold lf
  rw [lookup_putF, if_neg ne_sa, lookup_putF, if_pos rfl]
theorem lf_arcs (sg : List Nat) (T : Addr) : (lf sg T).lookup ("arcs" : Str) = some (.ref T) := by
  unfold lf
  rw [lookup_putF, if_pos rfl]
/-- a loom stands at p -/
def LoomAt (C : Addr) (H : Hp) (p : Addr) (sg : List Nat) (us : List V) (as : List Arc) : Prop := ∃ dx T, H p = some (.ins C dx (lf sg T)) ∧ H T = some (.tup us) ∧ Arcs H us as ∧ OkW sg as ∧ Signs sg
def spInit (C : Addr) : Sp := fun vs H Q _ => ∃ (p dx a : Addr) (sg : List Nat) (us : List V) (as : List Arc), vs = [.ref p, .str (SX.S sg), .ref a] ∧ H p = some (.ins C dx []) ∧ H a = some (.lst us) ∧ Arcs H us as ∧ OkW sg as ∧ Signs sg ∧
  ∀ (H' : Hp) (T : Addr), Ex p H H' → H T = none → H' T = some (.tup us) → H' p = some (.ins C dx (lf sg T)) → Q .non H'
theorem take_snoc {α : Type} {l : List α} {i : Nat} {x : α} (h : l[i]? = some x) : l.take i ++ [x] = l.take (i + 1) := by
  rw [List.take_add_one, h]
  rfl
def spChkSigns : Sp := fun vs H Q _ => ∃ sg : List Nat, vs = [.str (SX.S sg)] ∧ Signs sg ∧ ∀ H', Same H H' → Q .non H'
section
variable {P : Program} {w : World} {K : PySem.W.Frag} {mg : Str → Option Value} {base : Heap}
theorem ok_check_signs (T : Tx K mg) : FnOk P w K mg base CX0 2 T.f_check_signs T.fd_check_signs P_check_signs spChkSigns := by
  have G_is_signs : FnOk P w K mg base CX0 1 T.f_is_signs T.fd_is_signs P_is_signs spSigns := ok_is_signs T
  refine T.F_check_signs.ok sc_check_signs (fun vs H Q E h => ?_) (fun cdv A outer s H vs Q E hr h => ?_)
  · obtain ⟨sg, rfl, _⟩ := h
    rfl
  · obtain ⟨sg, rfl, hsg, k⟩ := h
    refine ⟨_, (pss_one (ps_if (pt_not (pt_val (pe_call G_is_signs (hr.mono (by decide)) rfl T.m_is_signs T.F_is_signs.kp T.b_is_signs .nil pass0 (pa_cons (pv 0) pa_nil)))) (pss_one ps_never) pss_nil)), ?_⟩
    refine ⟨_, rfl, sg, rfl, hsg, fun H1 s1 => ⟨true, rfl, ?_⟩⟩
    exact k _ s1
theorem ok_Loom_init (T : Tx K mg) : FnOk P w K mg base CX0 4 T.f_Loom_init T.fd_Loom_init P_Loom_init (spInit T.C_Loom) := by
  have G_check_signs : FnOk P w K mg base CX0 2 T.f_check_signs T.fd_check_signs P_check_signs spChkSigns := ok_check_signs T
  have G_is_sequence : FnOk P w K mg base CX0 1 T.f_is_sequence T.fd_is_sequence P_is_sequence (spSequence K) := ok_is_sequence T
  have G_is_arc : FnOk P w K mg base CX0 3 T.f_is_arc T.fd_is_arc P_is_arc spArc := ok_is_arc T
  refine T.F_Loom_init.ok sc_Loom_init (fun vs H Q E h => ?_) (fun cdv A outer s H vs Q E hr h => ?_)
  · obtain ⟨p, dx, a, sg, us, as, rfl, _⟩ := h
    rfl
  · obtain ⟨p, dx, a, sg, us, as, rfl, hp, ha, harc, hok, hsg, k⟩ := h
    refine ⟨_, (pss_cons (ps_expr (pe_call G_check_signs (hr.mono (by decide)) rfl T.m_check_signs T.F_check_signs.kp T.b_check_signs .nil pass0 (pa_cons (pv 1) pa_nil)))
        (pss_cons (ps_if (pt_not (pt_val (pe_call G_is_sequence (hr.mono (by decide)) rfl T.m_is_sequence T.F_is_sequence.kp T.b_is_sequence .nil pass0 (pa_cons (pv 2) (pa_cons pe_int (pa_cons (pe_glob (v := V.int 200) rfl T.g_MOST_ARCS ⟨_, rfl⟩) pa_nil)))))) (pss_one ps_never) pss_nil)
        (pss_cons (ps_for PassesOwn.never rfl (pi_enum rfl T.n_enumerate (pa_cons (pv 2) pa_nil)) (pg_tup rfl (pgs_cons (pg_name (i := 3) sc_Loom_init.nd rfl (Or.inl rfl)) (pgs_cons (pg_name (i := 4) sc_Loom_init.nd rfl (Or.inl rfl)) pgs_nil))) (pss_one (ps_if (pt_not (pt_val (pe_call G_is_arc (hr.mono (by decide)) rfl T.m_is_arc T.F_is_arc.kp T.b_is_arc .nil pass0 (pa_cons (pv 1) (pa_cons (pv 4) pa_nil))))) (pss_one ps_never) pss_nil)))
        (pss_cons (ps_fld (pv 0) (pv 1) rfl)
        (pss_one (ps_fld (pv 0) (pe_callTy (call_tuple_ofK (K := K) rfl) rfl T.n_tuple (by decide +kernel) (pa_cons (pe_lc (own := [("arc", 4)]) (g := (gName 4)) rfl sc_Loom_init.nd (pi_list (pv 2)) (blkOk_by (N := N_Loom_init) (sc := defScope s_Loom_init) (by decide +kernel)) (fun _ _ _ _ _ => (pg_name (i := 4) sc_Loom_init.nd rfl (Or.inl rfl))) (fun _ _ _ _ _ => pts_nil) (fun _ _ _ _ _ => (pe_callTy (call_tuple_ofK (K := K) rfl) rfl T.n_tuple (by decide +kernel) (pa_cons (pv 4) pa_nil)))) pa_nil)) rfl)))))), ?_⟩
    refine ⟨_, rfl, sg, rfl, hsg, fun H1 s1 => ?_⟩
    refine ⟨_, rfl, a, us, 1, 200, rfl, .inl (s1 _ _ ha), fun H2 b s2 hb => ⟨b, rfl, ?_⟩⟩
    have hl := hok.2.1
    have hl0 := hok.1
    have hl2 := harc.1
    rw [hb.mpr ⟨by omega, by omega⟩]
    have s12 := s1.trans s2
    refine ⟨_, rfl, a, us, rfl, SqL.of (s12 _ _ ha), for_it walk_enum (fun i σ H' => ∃ v3 v4, σ = [some (.ref p), some (.str (SX.S sg)), some (.ref a), v3, v4] ∧ Same H H') ⟨_, _, rfl, s12⟩ (fun i σ H' _ ⟨_, _, _, sm⟩ => SqL.of (sm _ _ ha)) ?_ ?_⟩
    · rintro i x σ H3 H4 hi ⟨v3, v4, rfl, s3⟩ ⟨tp, x1, y1, rfl, ht, rfl, hx1, hy1⟩
      cases hx1
      have hia : i < as.length := by omega
      obtain ⟨t, hut, htt⟩ := harc.2 i as[i] (List.getElem?_eq_getElem hia)
      replace hy1 : us[i]? = some y1 := hy1
      rw [hut] at hy1
      cases hy1
      have sn := Same.new (.tup [V.int (i : Int), .ref t]) ht
      refine ⟨tp, _, rfl, SqT.of upd_same, rfl, _, _, rfl, _, _, rfl, rfl, ?_⟩
      refine ⟨_, rfl, _, rfl, sg, t, as[i], rfl, sn _ _ (s3 _ _ htt), hok.2.2 _ (List.getElem_mem hia), fun H5 s5 => ⟨true, rfl, ?_⟩⟩
      exact ⟨_, _, rfl, s3.trans (sn.trans s5)⟩
    · rintro σ H3 ⟨v3, v4, rfl, s3⟩
      have hp3 := s3 _ _ hp
      refine ⟨_, rfl, _, rfl, p, _, dx, _, rfl, hp3, T.cl_Loom, T.na_Loom_signs, (by show 0 < 1000; decide), ?_⟩
      have x3 : Ex p H (upd H3 p (.ins T.C_Loom dx (putF "signs" (.str (SX.S sg)) []))) := (Same.ex s3).trans (Ex.upd _)
      have nap : a ≠ p := fun z => by rw [z, hp] at ha; cases ha
      refine ⟨_, rfl, a, rfl, ⟨_, SqL.of (x3 _ _ nap ha)⟩, fun D hD => lc_list (K := K) (a := a) (xs := us) (fun i H' => H' D = some (.lst (us.take i)) ∧ Ex p H H' ∧ H' p = some (.ins T.C_Loom dx (putF "signs" (.str (SX.S sg)) []))) ?_ ?_ ?_ ?_⟩
      · have nDp : D ≠ p := hp_ne upd_same hD
        exact ⟨upd_same, x3.trans (Ex.new _ hD), by rw [upd_ne nDp.symm]; exact upd_same⟩
      · rintro i H4 hi ⟨_, x4, _⟩
        exact SqL.of (x4 _ _ nap ha)
      · rintro i y H4 hy ⟨hDl, x4, hp4⟩
        have hia : i < us.length := (List.getElem?_eq_some_iff.mp hy).1
        obtain ⟨t, hut, htt⟩ := harc.2 i as[i] (List.getElem?_eq_getElem (by omega))
        rw [hut] at hy
        cases hy
        have ntp : t ≠ p := fun z => by rw [z, hp] at htt; cases htt
        have nDp : D ≠ p := hp_ne upd_same hD
        refine ⟨rfl, _, rfl, t, _, rfl, .inr ⟨SqT.of (x4 _ _ ntp htt), _, hDl, lt_size (by simp; omega), ?_, x4.updNew (x3.free hD nDp), by rw [upd_ne nDp.symm]; exact hp4⟩⟩
        rw [upd_same, take_snoc hut]
      · rintro H4 ⟨hDl, x4, hp4⟩
        rw [List.take_length] at hDl
        refine ⟨D, us, rfl, .inl ⟨SqL.of hDl, fun T1 hT1 => ?_⟩⟩
        have nT : T1 ≠ p := hp_ne hp4 hT1
        refine ⟨_, rfl, p, _, dx, _, rfl, by rw [upd_ne nT.symm]; exact hp4, T.cl_Loom, T.na_Loom_arcs, (by show 1 < 1000; decide), ?_⟩
        exact k _ T1 ((x4.trans (Ex.new _ hT1)).trans (Ex.upd _)) (x4.free hT1 nT) (by rw [upd_ne nT]; exact upd_same) upd_same
end
end J


set_option Elab.async false
set_option linter.all false
set_option maxRecDepth 100000
set_option maxHeartbeats 4000000
/-! x != y of two objects of a class with an own __eq__ and no __ne__ -/
namespace HNB
open PySem PySem.Spec PyProof.Rows PySem.SeqAt
section
variable {M : Model} {prog : Program} {w : World} {A : Around} {E : Value → Shared → Prop} {s : Shared} {K : PySem.W.Frag} {x C f : Addr} {ox : Obj} {od : Option Obj} {b tb : Value} {rb : Bool}
theorem ifBound_objNe {args : List Value} {Q : Option Value → Shared → Prop} (X : K.In s.heap) (I : PySem.W.InstAt s.heap x ox C od) (hs : PySem.W.findIn K (.ref C) "__ne__" = some (some (.builtin "object.__ne__")))
    (h : wpAny M A (call (.builtin "object.__ne__") (.ref x :: args)) (fun v => Q (some v)) E s) : wpAny M A (callSpecialIfBound? (.ref x) "__ne__" args) Q E s := by
  simp only [callSpecialIfBound?, bindSpecialIfBound?]
  refine wpAny_holding (wpAny_bind (wpAny_bind (wpAny_bind (I.type.here ((PySem.W.looks_findIn X hs).here ?_)))))
  refine wpAny_bind (wpAny_askSetting (wpAny_ite ?_))
  have fin : wpAny M A (call (.builtin "object.__ne__") ([.ref x] ++ args) >>= fun v => pure (some v)) Q E s := wpAny_bind (wpAny_mono h (fun v s' h' => wpAny_pure h') fun _ _ h' => h')
  split
  · exact wpAny_bind (wpAny_of_eq (F.cmp_object.ne.bind _) (wpAny_pure (by exact fin)))
  · exact wpAny_tryCatch (wpAny_bind (wpAny_of_eq (F.cmp_object.ne.bind _) (wpAny_pure (by exact fin))))
/-- what object.__ne__ does, where the class's own __eq__ says True -/
theorem entry_ne {R : Fin → Shared → Prop} (hu : A.units < cLine) (X : K.In s.heap) (I : PySem.W.InstAt s.heap x ox C od) (hs : PySem.W.findIn K (.ref C) "__eq__" = some (some (.ref f))) (hf : PySem.W.isFn K (.ref f) = true)
    (h : wpAny M A (call (.ref f) [.ref x, b]) (fun v s' => v = .bool rb ∧ R (.done (.ret (.bool (!rb)))) s') E s) : wpAny M A (Builtin.«object.__ne__» ⟨[.ref x, b], []⟩) R E s := by
  unfold Builtin.«object.__ne__»
  have q : wpAny M A (callSpecialIfBound? (.ref x) "__eq__" [b]) (fun r s' => r = some (.bool rb) ∧ R (.done (.ret (.bool (!rb)))) s') E s :=
    PySem.W.ifBound_K X I hs hf (wpAny_mono h (fun v s' ⟨e, z⟩ => ⟨by rw [e], z⟩) fun _ _ z => z)
  repeat (first | with_reducible refine wpAny_cRoomFor hu ?_ | with_reducible refine wpAny_bind (wpAny_mono q (fun r s' ⟨e, z⟩ => ?_) fun _ _ z => z) | wp_step)
  subst e
  refine wpAny_bind (wpAny_truthy_bool ?_)
  exact wpAny_pure z
theorem call_objNe {Q : Value → Shared → Prop} (hu : A.in1.units < cLine) (X : K.In s.heap) (I : PySem.W.InstAt s.heap x ox C od) (hm : PySem.W.mroIn K C (.type "object") = some true) (hs : PySem.W.findIn K (.ref C) "__eq__" = some (some (.ref f))) (hf : PySem.W.isFn K (.ref f) = true)
    (h : wpAny (model prog w) A.in1 (call (.ref f) [.ref x, b]) (fun v s' => v = .bool rb ∧ Q (.bool (!rb)) s') E s) :
    wpAny (model prog w) A (call (.builtin "object.__ne__") [.ref x, b]) Q E s :=
  wpAny_call (codeAny_call_builtin F.cmp_object.ne.plain F.cmpEntry_ne (PySem.W.check_slot F.cmpKind_ne F.cmpSplit_ne (I.type.andThen (PySem.W.looks_mroIn X hm)) (F.cmpArgs_ne _ _) (entry_ne (rb := rb) hu X I hs hf h)))
theorem rc_ne {L : Addr} {h₀ : Heap} {m : Str → Option Value} {Q : Value → Shared → Prop} (hu : A.units < cLine) (hu1 : A.in1.units < cLine) (F : Fr h₀ L s.heap m) (X₀ : K.In h₀) (I : PySem.W.InstAt s.heap x ox C od) (hb : PySem.W.Looks (model prog w) s.heap (typeOf b) tb) (hn : PySem.W.notFirst K C tb = true)
    (hm : PySem.W.mroIn K C (.type "object") = some true) (hne : PySem.W.findIn K (.ref C) "__ne__" = some (some (.builtin "object.__ne__"))) (hs : PySem.W.findIn K (.ref C) "__eq__" = some (some (.ref f))) (hf : PySem.W.isFn K (.ref f) = true)
    (h : wpAny (model prog w) A.in1 (call (.ref f) [.ref x, b]) (fun v s' => v = .bool rb ∧ Q (.bool (!rb)) s') E s) : wpAny (model prog w) A (richCompare .NotEq (.ref x) b) Q E s := by
  have X := X₀.keeps F.keep
  have one : wpAny (model prog w) A (tryCompare (.ref x) (cmpInfo .NotEq).2.1 b) (fun r s' => ∃ v, r = some v ∧ Q v s') E s := by
    unfold tryCompare
    refine wpAny_bind (ifBound_objNe X I hne (call_objNe (rb := rb) hu1 X I hm hs hf (wpAny_mono h (fun v s' hv => ?_) fun _ _ e => e)))
    exact ⟨hv.1, wpAny_pure ⟨_, rfl, hv.2⟩⟩
  unfold richCompare
  simp only [oneThing_ref]
  refine wpAny_holding (wpAny_bind (wpAny_cRoomFor hu ?_))
  refine wpAny_bind (I.type.here (wpAny_bind (hb.here ?_)))
  split
  · rename_i q
    have e : PySem.W.subIn K tb (.ref C) = some false := by
      rcases Bool.or_eq_true_iff.mp hn with e | e
      · rw [beq_iff_eq.mp e] at q; simp at q
      · exact beq_iff_eq.mp e
    refine wpAny_bind ((PySem.W.looks_subIn X e).here ?_)
    simp only [Bool.false_eq_true, if_false]
    refine wpAny_bind (wpAny_mono one (fun r s' z => ?_) fun _ _ e => e)
    obtain ⟨v, rfl, hq⟩ := z
    exact wpAny_pure hq
  · refine wpAny_bind (wpAny_pure ?_)
    simp only [Bool.false_eq_true, if_false]
    refine wpAny_bind (wpAny_mono one (fun r s' z => ?_) fun _ _ e => e)
    obtain ⟨v, rfl, hq⟩ := z
    exact wpAny_pure hq
end
end HNB
namespace L2
open PySem PySem.Spec PyProof.Rows
section
variable {X : Cx} {n : Nat}
/-- what the own == says of two objects -/
def spEqB (R : Addr → Addr → Bool → Hp → Prop) : Sp := fun vs H Q _ => ∃ a b r, vs = [.ref a, .ref b] ∧ R a b r H ∧ ∀ H', Ext H H' → Q (.bl r) H'
def rEqB (C : Addr) (R : Addr → Addr → Bool → Hp → Prop) : R2 := fun x y H Q => ∃ a b dx dy fs gs r, x = .ref a ∧ y = .ref b ∧ H a = some (.ins C dx fs) ∧ H b = some (.ins C dy gs) ∧ R a b r H ∧ ∀ H', Ext H H' → Q (.bl r) H'
def rNeB (C : Addr) (R : Addr → Addr → Bool → Hp → Prop) : R2 := fun x y H Q => ∃ a b dx dy fs gs r, x = .ref a ∧ y = .ref b ∧ H a = some (.ins C dx fs) ∧ H b = some (.ins C dy gs) ∧ R a b r H ∧ ∀ H', Ext H H' → Q (.bl (!r)) H'
/-- the call of the own == -/
theorem call_eqB {CX : CXT} {f : Addr} {fd : FuncData} {ps : List Str} {R : Addr → Addr → Bool → Hp → Prop} {E : XK} {A : Around} {pins : List (Addr × Obj)} {σ : St} {H : Hp} {s : Shared} {a b : Addr} {r : Bool} (F : FnOk X.prog X.w X.K X.mg X.base CX n f fd ps (spEqB R))
    (hb : Binds X.K fd ps []) (hx : Passes CX X E) (sb : Sub X n A) (I : Inv X pins σ H s) (hr : R a b r H) :
    wpAny (model X.prog X.w) A (call (.ref f) [.ref a, .ref b]) (fun v s' => v = .bool r ∧ ∃ H', Inv X pins σ H' s' ∧ Ext H H') X.xe s := by
  have hsp : spEqB R [.ref a, .ref b] H (fun v H' => v = .bl r ∧ Ext H H') E := ⟨a, b, r, rfl, hr, fun H' e => ⟨rfl, e⟩⟩
  have e0 : Env0 X.prog X.w X.K X.mg X.base A X.stack s H := by
    obtain ⟨p1, p2, p3, p4, p5, p6, p7, p8⟩ := I.env0
    exact ⟨by rw [sb.fr]; exact p1, p2, p3, p4, p5, p6, p7, p8⟩
  have two : Vals [V.ref a, V.ref b] [Value.ref a, Value.ref b] := .cons rfl (.cons rfl .nil)
  have bd := hb s [.ref a, .ref b] I.kIn (by simpa using F.len _ _ _ _ hsp)
  have go := F.run A X.stack s H ⟨[.ref a, .ref b], []⟩ [.ref a, .ref b] [.ref a, .ref b] _ E sb.room e0 (by simpa using bd) two hsp
  refine wpAny_call (codeAny_mono go fun z t hz => ?_)
  match z, hz with
  | .error e, hz => exact hx pins σ H s e t I hz
  | .ok (.ret w'), hz =>
    obtain ⟨y, H', I', ry, rfl, ex⟩ := I.after hz
    cases ry
    exact ⟨rfl, H', I', ex⟩
  | .ok .next, hz => exact hz.elim
  | .ok .brk, hz => exact hz.elim
  | .ok .cont, hz => exact hz.elim
theorem op_eqB {CX : CXT} {C f : Addr} {fd : FuncData} {ps : List Str} {R : Addr → Addr → Bool → Hp → Prop} {E : XK} (F : FnOk X.prog X.w X.K X.mg X.base CX n f fd ps (spEqB R))
    (hs : PySem.W.findIn X.K (.ref C) "__eq__" = some (some (.ref f))) (hf : PySem.W.isFn X.K (.ref f) = true) (hb : Binds X.K fd ps []) (hx : Passes CX X E) (hr : Room n X.A) : OpR X (compareOp .Eq) (rEqB C R) := by
  intro pins s σ H x y u v Q I rx ry hq
  obtain ⟨a, b, dx, dy, fs, gs, r, rfl, rfl, ha, hb', hR, q⟩ := hq
  cases rx
  cases ry
  obtain ⟨mA, J, _⟩ := ins_get I.hok ha
  obtain ⟨mB, J', _⟩ := ins_get I.hok hb'
  obtain ⟨od, J, _⟩ := J.look
  obtain ⟨od', J', _⟩ := J'.look
  obtain ⟨m, hF⟩ := I.fr
  show wpAny (model X.prog X.w) X.A (richCompare .Eq (.ref a) (.ref b)) (EP X pins σ Q) X.xe s
  refine PySem.W.cmp_K (tb := .ref C) hr.units0 hF I.ok.mod.kin J J'.type (by simp [PySem.W.notFirst]) hs hf (wpAny_mono (call_eqB F hb hx ⟨hr, rfl⟩ I hR) (fun w' t z => ?_) fun _ _ e => e)
  obtain ⟨rfl, H', I', ex⟩ := z
  exact ⟨.bl r, H', I', rfl, q H' ex⟩
theorem op_neB {CX : CXT} {C f : Addr} {fd : FuncData} {ps : List Str} {R : Addr → Addr → Bool → Hp → Prop} {E : XK} (F : FnOk X.prog X.w X.K X.mg X.base CX n f fd ps (spEqB R))
    (hs : PySem.W.findIn X.K (.ref C) "__eq__" = some (some (.ref f))) (hf : PySem.W.isFn X.K (.ref f) = true) (hne : PySem.W.findIn X.K (.ref C) "__ne__" = some (some (.builtin "object.__ne__"))) (hm : PySem.W.mroIn X.K C (.type "object") = some true)
    (hb : Binds X.K fd ps []) (hx : Passes CX X E) (hr : Room (n + 1) X.A) : OpR X (compareOp .NotEq) (rNeB C R) := by
  intro pins s σ H x y u v Q I rx ry hq
  obtain ⟨a, b, dx, dy, fs, gs, r, rfl, rfl, ha, hb', hR, q⟩ := hq
  cases rx
  cases ry
  obtain ⟨mA, J, _⟩ := ins_get I.hok ha
  obtain ⟨mB, J', _⟩ := ins_get I.hok hb'
  obtain ⟨od, J, _⟩ := J.look
  obtain ⟨od', J', _⟩ := J'.look
  obtain ⟨m, hF⟩ := I.fr
  have sb : Sub X n X.A.in1 := Sub.in1 ⟨hr, rfl⟩
  show wpAny (model X.prog X.w) X.A (richCompare .NotEq (.ref a) (.ref b)) (EP X pins σ Q) X.xe s
  refine HNB.rc_ne (tb := .ref C) (rb := r) hr.units0 sb.room.units0 hF I.ok.mod.kin J J'.type (by simp [PySem.W.notFirst]) hm hne hs hf (wpAny_mono (call_eqB F hb hx sb I hR) (fun w' t z => ?_) fun _ _ e => e)
  obtain ⟨rfl, H', I', ex⟩ := z
  exact ⟨rfl, .bl (!r), H', I', rfl, q H' ex⟩
end
end L2

set_option Elab.async false
set_option linter.all false
set_option maxRecDepth 100000
/-! a dict comprehension over whatever a Walk tells of; an expression whose rule is either of two -/
namespace L2
open PySem PySem.Spec PyProof.Rows
theorem pe_either {X : Cx} {e : Expr} {ta tb : TE} (ha : PE X e ta) (hb : PE X e tb) : PE X e (fun σ H Q => ta σ H Q ∨ tb σ H Q) :=
  ⟨fun pins s σ H Q I h => h.elim (ha.run pins s σ H Q I) (hb.run pins s σ H Q I)⟩
/-- an f-string, as a name of its own -/
def tJ (ts : List TE) : TE := fun σ H Q => tJs ts Str.empty σ H fun out H1 => Q (.str out) H1
theorem pe_joinT {X : Cx} {v1 v2 : Expr} {rest : List Expr} {ts : List TE} {pos : Pos} (h : PJ X (v1 :: v2 :: rest) ts) : PE X (.JoinedStr (v1 :: v2 :: rest) pos) (tJ ts) := pe_joined h
theorem dc_it {J : It} {n : Nat} {G : Hp → Prop} {Y : Nat → Hp → V → Hp → Prop} (w : Walk J n G Y) {g : TG} {tt : TT} {tk tv : TE} {vs : List Nat} {σ : St} {H1 : Hp} {D : Addr} {Qd : Hp → Prop} (Pv : Nat → Hp → Prop)
    (h0 : Pv 0 (upd H1 D (.dK []))) (hG : ∀ i H, i ≤ n → Pv i H → G H) (hs : ∀ i x H H', i < n → Pv i H → Y i H x H' → (g x (wipe σ vs) H' fun σ2 H2 => wipe σ2 vs = wipe σ vs ∧ tt σ2 H2 fun b H3 => if b = true then (tk σ2 H3 fun y H4 => tv σ2 H4 fun z H5 => ∃ kvs k, y = kV k ∧ H5 D = some (.dK kvs) ∧ kvs.length < sizeLine ∧ Pv (i + 1) (upd H5 D (.dK (putK kvs k z)))) else Pv (i + 1) H3)) (hd : ∀ H, Pv n H → Qd H) :
    ∃ W : Nat → Nat → Hp → Prop, (∃ m, W 0 m (upd H1 D (.dK []))) ∧ ∀ i m H, W i m H → (J.stop i H ∧ Qd H) ∨
      (J.go i H ∧ ∃ Nx : Hp → Prop, (∀ H', Nx H' → ∃ m', m' < m ∧ W (i + 1) m' H') ∧ ∀ x H', J.yld i H x H' → (g x (wipe σ vs) H' fun σ2 H2 => wipe σ2 vs = wipe σ vs ∧ tt σ2 H2 fun b H3 => if b = true then (tk σ2 H3 fun y H4 => tv σ2 H4 fun z H5 => ∃ kvs k, y = kV k ∧ H5 D = some (.dK kvs) ∧ kvs.length < sizeLine ∧ Nx (upd H5 D (.dK (putK kvs k z)))) else Nx H3)) := by
  refine ⟨fun i m H => (m = n - i ∧ i ≤ n) ∧ Pv i H, ⟨n, ⟨rfl, Nat.zero_le _⟩, h0⟩, ?_⟩
  rintro i m H ⟨⟨rfl, hi⟩, p⟩
  rcases Nat.lt_or_ge i n with hlt | hge
  · exact .inr ⟨w.goes i H hlt (hG i H hi p), Pv (i + 1), fun H' p' => ⟨n - (i + 1), by omega, ⟨rfl, hlt⟩, p'⟩, fun x H' y => hs i x H H' hlt p (w.yields i H x H' hlt (hG i H hi p) y)⟩
  · have e : n = i := Nat.le_antisymm hge hi
    subst e
    exact .inl ⟨w.stops H (hG _ H hi p), hd H p⟩
end L2

set_option Elab.async false
set_option linter.all false
set_option maxRecDepth 100000
set_option maxHeartbeats 4000000
namespace J
open PySem L2
theorem LoomAt.same {C : Addr} {H H' : Hp} {p : Addr} {sg : List Nat} {us : List V} {as : List Arc} (h : LoomAt C H p sg us as) (s : Same H H') : LoomAt C H' p sg us as := by
  obtain ⟨dx, T, h1, h2, h3, h4, h5⟩ := h
  exact ⟨dx, T, s _ _ h1, s _ _ h2, h3.same s, h4, h5⟩
/-- a list or a tuple -/
def Seq (H : Hp) (a : Addr) (xs : List V) : Prop := H a = some (.lst xs) ∨ H a = some (.tup xs)
theorem Seq.same {H H' : Hp} {a : Addr} {xs : List V} (h : Seq H a xs) (s : Same H H') : Seq H' a xs := h.imp (s _ _) (s _ _)
theorem kit_self {K : PySem.W.Frag} (t : Value) : PySem.W.kitOne K t t = some true := by unfold PySem.W.kitOne; simp
theorem txt_at {ws : List (List Nat)} {i : Nat} {y : V} (h : (txts ws)[i]? = some y) : ∃ u, ws[i]? = some u ∧ y = .str (SX.S u) := by
  rw [txts, List.getElem?_map] at h
  obtain ⟨u, hu, e⟩ := Option.map_eq_some_iff.mp h
  exact ⟨u, hu, e.symm⟩
theorem S_inj {u v : List Nat} (h : SX.S u = SX.S v) : u = v := by
  unfold SX.S at h
  injection h with h
  simpa using h
def arcD (a : Arc) : PyData := .tuple [.int (a.1 : Int), .str (SX.S a.2.1), .int (a.2.2 : Int)]
theorem dp_arc {K : PySem.W.Frag} {H : Hp} {t : Addr} {a : Arc} (h : H t = some (arcHO a)) : Dp K H (.ref t) (arcD a) := .tup (SqT.of h) (.cons (.int _) (.cons (.str _) (.cons (.int _) .nil)))
theorem dp_arcs {K : PySem.W.Frag} {H : Hp} : ∀ {us : List V} {as : List Arc}, Arcs H us as → DpAll K H us (as.map arcD)
  | [], [], _ => .nil
  | [], _ :: _, h => by have := h.1; simp at this
  | _ :: _, [], h => by have := h.1; simp at this
  | u :: us, a :: as, h => by
    obtain ⟨t, e, ht⟩ := h.2 0 a rfl
    cases e
    refine .cons (dp_arc ht) (dp_arcs ⟨by have := h.1; simpa using this, fun i b hb => ?_⟩)
    obtain ⟨t', e', ht'⟩ := h.2 (i + 1) b (by simpa using hb)
    exact ⟨t', by simpa using e', ht'⟩
theorem str_beq (u v : List Nat) : (SX.S u == SX.S v) = decide (u = v) := by
  by_cases h : u = v
  · subst h; simp
  · have n : SX.S u ≠ SX.S v := fun z => h (S_inj z)
    rw [decide_eq_false h]
    exact beq_false_of_ne n
theorem nat_beq (m n : Nat) : ((m : Int) == (n : Int)) = decide (m = n) := by
  by_cases h : m = n
  · subst h; simp
  · rw [decide_eq_false h]
    exact beq_false_of_ne (fun z => h (by exact_mod_cast z))
theorem eqv_arc (a b : Arc) : PyData.eqv (arcD a) (arcD b) = decide (a = b) := by
  show (((a.1 : Int) == (b.1 : Int)) && ((SX.S a.2.1 == SX.S b.2.1) && (((a.2.2 : Int) == (b.2.2 : Int)) && true))) = _
  rw [nat_beq, nat_beq, str_beq]
  obtain ⟨a1, a2, a3⟩ := a
  obtain ⟨b1, b2, b3⟩ := b
  rw [Bool.eq_iff_iff]
  simp
theorem eqv_arcs : ∀ as bs : List Arc, PyData.eqvAll (as.map arcD) (bs.map arcD) = decide (as = bs)
  | [], [] => rfl
  | [], b :: bs => by rw [decide_eq_false (by simp)]; rfl
  | a :: as, [] => by rw [decide_eq_false (by simp)]; rfl
  | a :: as, b :: bs => by
    show (PyData.eqv (arcD a) (arcD b) && PyData.eqvAll (as.map arcD) (bs.map arcD)) = _
    rw [eqv_arc, eqv_arcs as bs, Bool.eq_iff_iff]
    simp
def txtD (ws : List (List Nat)) : List PyData := ws.map fun u => .str (SX.S u)
theorem dp_txts {K : PySem.W.Frag} {H : Hp} : ∀ ws : List (List Nat), DpAll K H (txts ws) (txtD ws)
  | [] => .nil
  | _ :: r => .cons (.str _) (dp_txts r)
theorem eqv_txts : ∀ as bs : List (List Nat), PyData.eqvAll (txtD as) (txtD bs) = decide (as = bs)
  | [], [] => rfl
  | [], b :: bs => by rw [decide_eq_false (by simp)]; rfl
  | a :: as, [] => by rw [decide_eq_false (by simp)]; rfl
  | a :: as, b :: bs => by
    show ((SX.S a == SX.S b) && PyData.eqvAll (txtD as) (txtD bs)) = _
    rw [str_beq, eqv_txts as bs, Bool.eq_iff_iff]
    simp
theorem str_ok {u : List Nat} (h : ∀ c ∈ u, c < 1114112) : PyData.strOk (SX.S u) = true := by
  unfold PyData.strOk SX.S
  simp only [List.all_toArray, List.all_eq_true, decide_eq_true_eq]
  exact h
theorem word_small {sg u : List Nat} (hs : Signs sg) (h : Word sg u) : ∀ c ∈ u, c < 1114112 := fun c hc => by
  have := (hs.2.2.1 c (h.2.2 c hc)).2
  omega
theorem lay_arcs {sg : List Nat} (hs : Signs sg) : ∀ as : List Arc, (∀ a ∈ as, OkArc sg a) → PyData.canLayAll0 (as.map arcD) = true
  | [], _ => rfl
  | a :: r, h => by
    have e : PyData.strOk (SX.S a.2.1) = true := str_ok (word_small hs (h a (by simp)).2.1)
    have ea : PyData.canLay0 (arcD a) = true := by
      show (true && (PyData.strOk (SX.S a.2.1) && (true && true))) = true
      rw [e]; rfl
    show (PyData.canLay0 (arcD a) && PyData.canLayAll0 (r.map arcD)) = true
    rw [ea, lay_arcs hs r fun b hb => h b (by simp [hb])]
    rfl
theorem deep_arcs : ∀ as : List Arc, PyData.depthAll (as.map arcD) ≤ 1
  | [] => by simp [PyData.depthAll]
  | a :: r => by
    show max (PyData.depth (arcD a)) (PyData.depthAll (r.map arcD)) ≤ 1
    have e : PyData.depth (arcD a) = 1 := by simp [arcD, PyData.depth, PyData.depthAll]
    have := deep_arcs r
    omega
theorem shaped_arcsL {sg : List Nat} {as : List Arc} (hs : Signs sg) (h : ∀ a ∈ as, OkArc sg a) : SeqAt.shaped (.tuple (as.map arcD)) = true ∧ SeqAt.shaped (.list (as.map arcD)) = true := by
  have e1 := lay_arcs hs as h
  have e2 : PyData.depthAll (as.map arcD) + 1 ≤ 64 := by
    have := deep_arcs as
    omega
  constructor
  · have q1 : PyData.canLay0 (.tuple (as.map arcD)) = true := e1
    have q2 : PyData.depth (.tuple (as.map arcD)) ≤ 64 := e2
    unfold SeqAt.shaped
    rw [q1, decide_eq_true q2]
    rfl
  · have q1 : PyData.canLay0 (.list (as.map arcD)) = true := e1
    have q2 : PyData.depth (.list (as.map arcD)) ≤ 64 := e2
    unfold SeqAt.shaped
    rw [q1, decide_eq_true q2]
    rfl
theorem lay_txts : ∀ ws : List (List Nat), (∀ u ∈ ws, ∀ c ∈ u, c < 1114112) → PyData.canLayAll0 (txtD ws) = true
  | [], _ => rfl
  | u :: r, h => by
    show (PyData.strOk (SX.S u) && PyData.canLayAll0 (txtD r)) = true
    rw [str_ok (h u (by simp)), lay_txts r fun v hv => h v (by simp [hv])]
    rfl
theorem deep_txts : ∀ ws : List (List Nat), PyData.depthAll (txtD ws) = 0
  | [] => by simp [txtD, PyData.depthAll]
  | u :: r => by
    show max (PyData.depth (.str (SX.S u))) (PyData.depthAll (txtD r)) = 0
    rw [deep_txts r]
    simp [PyData.depth]
theorem shaped_txts {ws : List (List Nat)} (h : ∀ u ∈ ws, ∀ c ∈ u, c < 1114112) : SeqAt.shaped (.list (txtD ws)) = true := by
  have q1 : PyData.canLay0 (.list (txtD ws)) = true := lay_txts ws h
  have q2 : PyData.depth (.list (txtD ws)) ≤ 64 := by
    show PyData.depthAll (txtD ws) + 1 ≤ 64
    rw [deep_txts]
    decide
  unfold SeqAt.shaped
  rw [q1, decide_eq_true q2]
  rfl
/-- two looms, and whether they are the same -/
def Eql (C : Addr) (a b : Addr) (r : Bool) (H : Hp) : Prop := ∃ sg us as sg' us' as', LoomAt C H a sg us as ∧ LoomAt C H b sg' us' as' ∧ r = decide (sg = sg' ∧ as = as')
section
variable {P : Program} {w : World} {K : PySem.W.Frag} {mg : Str → Option Value} {base : Heap}
theorem ok_Loom_eq (T : Tx K mg) : FnOk P w K mg base CX0 1 T.f_Loom_eq T.fd_Loom_eq P_Loom_eq (spEqB (Eql T.C_Loom)) := by
  refine T.F_Loom_eq.ok sc_Loom_eq (fun vs H Q E h => ?_) (fun cdv A outer s H vs Q E hr h => ?_)
  · obtain ⟨a, b, r, rfl, _⟩ := h
    rfl
  · obtain ⟨a, b, r, rfl, ⟨sg, us, as, sg', us', as', ⟨dx, TT, hq, hT, harc, hok, hsg⟩, ⟨dx', TT', hq', hT', harc', hok', hsg'⟩, rfl⟩, k⟩ := h
    refine ⟨_, (pss_one (ps_ret (pe_and (pe_callB (call_isiZ (K := K) rfl) rfl T.n_isinstance (by decide +kernel) (pa_cons (pv 1) (pa_cons (pe_glob (v := V.ref T.C_Loom) rfl T.g_Loom rfl) pa_nil))) (pe_and (pe_cmpR op_eq (pe_fld (pv 0) rfl) (pe_fld (pv 1) rfl) (nomark _)) (pe_one (pe_cmpR (op_eqD hr.units) (pe_fld (pv 0) rfl) (pe_fld (pv 1) rfl) (nomark _))))))), ?_⟩
    refine ⟨_, rfl, _, _, _, _, true, rfl, .own _, .x (.base (.ins hq' T.cl_Loom T.ic_Loom T.ig T.it T.im_Loom)), kit_self _, true, rfl, ?_⟩
    refine ⟨_, rfl, a, _, dx, _, _, rfl, hq, T.cl_Loom, T.na_Loom_signs, lf_signs _ _, ?_⟩
    refine ⟨_, rfl, b, _, dx', _, _, rfl, hq', T.cl_Loom, T.na_Loom_signs, lf_signs _ _, ?_⟩
    refine ⟨rfl, _, rfl, ?_⟩
    refine ite2 (fun c => ?_) (fun c => ?_)
    · have e0 := of_decide_eq_true c
      injection e0 with e0
      have e1 : sg = sg' := S_inj e0
      subst e1
      refine ⟨_, rfl, a, _, dx, _, _, rfl, hq, T.cl_Loom, T.na_Loom_arcs, lf_arcs _ _, ?_⟩
      refine ⟨_, rfl, b, _, dx', _, _, rfl, hq', T.cl_Loom, T.na_Loom_arcs, lf_arcs _ _, ?_⟩
      refine ⟨_, _, .tup (SqT.of hT) (dp_arcs harc), .tup (SqT.of hT') (dp_arcs harc'), (shaped_arcsL hsg hok.2.2).1, (shaped_arcsL hsg hok'.2.2).1, ?_⟩
      have e2 : PyData.eqv (.tuple (as.map arcD)) (.tuple (as'.map arcD)) = decide (sg = sg ∧ as = as') := by
        show PyData.eqvAll (as.map arcD) (as'.map arcD) = _
        rw [eqv_arcs]
        simp
      rw [e2]
      exact k H Ext.rfl'
    · have n : ¬ (sg = sg' ∧ as = as') := fun z => c (decide_eq_true (by rw [z.1]))
      rw [decide_eq_false n] at k
      exact k H Ext.rfl'
end
end J


set_option Elab.async false
set_option linter.all false
set_option maxRecDepth 100000
set_option maxHeartbeats 4000000
namespace J
open PySem L2
/-! ### numbers as texts, lines, pages -/
def nt (n : Nat) : List Nat := (Str.ofString (toString (n : Int))).cps.toList
theorem nt_S (n : Nat) : Str.ofString (toString (n : Int)) = SX.S (nt n) := rfl
theorem nt_facts : ∀ n, n < 200 → (nt n).foldl (fun a c => 10 * a + (c - 48)) 0 = n ∧ (∀ c ∈ nt n, 48 ≤ c ∧ c ≤ 57) ∧ 1 ≤ (nt n).length ∧ (nt n).length ≤ 3 := by decide +kernel
theorem nt_inj {a b : Nat} (ha : a < 200) (hb : b < 200) (h : nt a = nt b) : a = b := by
  rw [← (nt_facts a ha).1, ← (nt_facts b hb).1, h]
theorem val_range (f : Nat → Key) (g : Nat → V) : ∀ (n i : Nat), i < n → (∀ a, a < n → f a = f i → a = i) → valV ((List.range n).map fun j => (f j, g j)) (f i) = some (g i)
  | 0, i, h, _ => absurd h (Nat.not_lt_zero _)
  | n + 1, i, h, inj => by
    rw [List.range_succ, List.map_append]
    unfold valV
    rw [List.find?_append]
    by_cases e : i < n
    · have q := val_range f g n i e (fun a ha => inj a (by omega))
      unfold valV at q
      obtain ⟨kv, h1, h2⟩ := Option.map_eq_some_iff.mp q
      rw [h1]
      exact congrArg some h2
    · have e2 : i = n := by omega
      subst e2
      have q : (List.find? (fun kv : Key × V => decide (kv.1 = f i)) ((List.range i).map fun j => (f j, g j))) = none := by
        rw [List.find?_eq_none]
        intro x hx
        obtain ⟨a, ha, rfl⟩ := List.mem_map.mp hx
        have hai := List.mem_range.mp ha
        simp only [decide_eq_true_eq]
        intro z
        have := inj a (by omega) z
        omega
      rw [q]
      simp
theorem val_none (f : Nat → Key) (g : Nat → V) (n : Nat) (k : Key) (h : ∀ a, a < n → f a ≠ k) : valV ((List.range n).map fun j => (f j, g j)) k = none := by
  unfold valV
  have q : (List.find? (fun kv : Key × V => decide (kv.1 = k)) ((List.range n).map fun j => (f j, g j))) = none := by
    rw [List.find?_eq_none]
    intro x hx
    obtain ⟨a, ha, rfl⟩ := List.mem_map.mp hx
    simp only [decide_eq_true_eq]
    exact h a (List.mem_range.mp ha)
  rw [q]
  rfl
/-- the numbers below n by their texts -/
def nd (n : Nat) : List (Key × V) := (List.range n).map fun j => ((.inr (SX.S (nt j)) : Key), V.int (j : Int))
theorem nd_len (n : Nat) : (nd n).length = n := by simp [nd]
theorem key_inj {u v : List Nat} (h : (.inr (SX.S u) : Key) = .inr (SX.S v)) : u = v := by
  injection h with h
  exact SX.S_inj h
theorem nd_get {n i : Nat} (h : i < n) (hn : n ≤ 200) : valV (nd n) (.inr (SX.S (nt i))) = some (.int (i : Int)) :=
  val_range (fun j => (.inr (SX.S (nt j)) : Key)) (fun j => V.int (j : Int)) n i h fun a ha e => nt_inj (by omega) (by omega) (key_inj e)
theorem nd_put {n : Nat} (h : n < 200) : putK (nd n) (.inr (SX.S (nt n))) (.int (n : Int)) = nd (n + 1) := by
  unfold putK
  have q : ((nd n).any fun kv => decide (kv.1 = (.inr (SX.S (nt n)) : Key))) = false := by
    rw [List.any_eq_false]
    intro x hx
    obtain ⟨a, ha, rfl⟩ := List.mem_map.mp hx
    have hai := List.mem_range.mp ha
    simp only [decide_eq_true_eq]
    intro z
    have := nt_inj (by omega) h (key_inj z)
    omega
  rw [q, if_neg (by decide)]
  unfold nd
  rw [List.range_succ, List.map_append]
  rfl
/-- the line of signs, the line of an arc, a page -/
def sgl (sg : List Nat) : List Nat := TL.joinL [32] [[115, 105, 103, 110, 115], sg]
def arl (a : Arc) : List Nat := TL.joinL [32] [[97, 114, 99], nt a.1, a.2.1, nt a.2.2]
def lns (sg : List Nat) (as : List Arc) : List (List Nat) := sgl sg :: as.map arl
def page (sg : List Nat) (as : List Arc) : List Nat := ((lns sg as).map (· ++ [10])).flatten
theorem join_nl : ∀ ls : List (List Nat), TL.joinL [10] (ls ++ [[]]) = (ls.map (· ++ [10])).flatten
  | [] => rfl
  | [a] => by simp [TL.joinL]
  | a :: b :: r => by
    show a ++ ([10] ++ TL.joinL [10] ((b :: r) ++ [[]])) = _
    rw [join_nl (b :: r)]
    simp
theorem word_no {sg u : List Nat} (hs : Signs sg) (hw : ∀ c ∈ u, c ∈ sg) {c : Nat} (hc : c < 97) : c ∉ u := fun h => by
  have := (hs.2.2.1 c (hw c h)).1
  omega
theorem nt_no {n c : Nat} (hn : n < 200) (hc : c < 48) : c ∉ nt n := fun h => by
  have := ((nt_facts n hn).2.1 c h).1
  omega
theorem arl_split {sg : List Nat} {a : Arc} (hs : Signs sg) (h : OkArc sg a) : TL.spl [32] 0 [] (arl a) = [[97, 114, 99], nt a.1, a.2.1, nt a.2.2] := by
  refine SX.spl_join (by simp) fun p hp => ?_
  have h1 := h.1
  have h2 := h.2.2
  simp only [List.mem_cons, List.not_mem_nil, or_false] at hp
  rcases hp with rfl | rfl | rfl | rfl
  · decide
  · exact nt_no (by omega) (by decide)
  · exact word_no hs h.2.1.2.2 (by decide)
  · exact nt_no (by omega) (by decide)
theorem sgl_split {sg : List Nat} (hs : Signs sg) : TL.spl [32] 0 [] (sgl sg) = [[115, 105, 103, 110, 115], sg] := by
  refine SX.spl_join (by simp) fun p hp => ?_
  simp only [List.mem_cons, List.not_mem_nil, or_false] at hp
  rcases hp with rfl | rfl
  · decide
  · exact word_no hs (fun c hc => hc) (by decide)
theorem sgl_eq (sg : List Nat) : sgl sg = [115, 105, 103, 110, 115, 32] ++ sg := rfl
theorem arl_eq (a : Arc) : arl a = [97, 114, 99, 32] ++ (nt a.1 ++ ([32] ++ (a.2.1 ++ ([32] ++ nt a.2.2)))) := rfl
theorem arl_len {sg : List Nat} {a : Arc} (h : OkArc sg a) : (arl a).length ≤ 30 := by
  have h1 := h.1
  have h2 := h.2.2
  have q1 := (nt_facts a.1 (by omega)).2.2.2
  have q2 := (nt_facts a.2.2 (by omega)).2.2.2
  have q3 := h.2.1.2.1
  rw [arl_eq]
  simp only [List.length_append, List.length_cons, List.length_nil]
  omega
theorem sgl_len {sg : List Nat} (hs : Signs sg) : (sgl sg).length ≤ 30 := by
  have := hs.2.1
  rw [sgl_eq]
  simp only [List.length_append, List.length_cons, List.length_nil]
  omega
theorem lns_len {sg : List Nat} {as : List Arc} (hs : Signs sg) (h : ∀ a ∈ as, OkArc sg a) : ∀ l ∈ lns sg as, l.length ≤ 30 := fun l hl => by
  rcases List.mem_cons.mp hl with rfl | hl
  · exact sgl_len hs
  · obtain ⟨a, ha, rfl⟩ := List.mem_map.mp hl
    exact arl_len (h a ha)
theorem lns_no {sg : List Nat} {as : List Arc} (hs : Signs sg) (h : ∀ a ∈ as, OkArc sg a) : ∀ l ∈ lns sg as, 10 ∉ l := fun l hl => by
  rcases List.mem_cons.mp hl with rfl | hl
  · rw [sgl_eq]
    intro z
    rcases List.mem_append.mp z with z | z
    · revert z; decide
    · exact word_no hs (fun c hc => hc) (by decide) z
  · obtain ⟨a, ha, rfl⟩ := List.mem_map.mp hl
    obtain ⟨h1, h2, h3⟩ := h a ha
    rw [arl_eq]
    intro z
    simp only [List.mem_append] at z
    rcases z with z | z | z | z | z | z
    · revert z; decide
    · exact nt_no (by omega) (by decide) z
    · revert z; decide
    · exact word_no hs h2.2.2 (by decide) z
    · revert z; decide
    · exact nt_no (by omega) (by decide) z
theorem flat_len : ∀ ls : List (List Nat), (∀ l ∈ ls, l.length ≤ 30) → ((ls.map (· ++ [10])).flatten).length ≤ 31 * ls.length
  | [], _ => by simp
  | a :: r, h => by
    have h1 := h a (by simp)
    have h2 := flat_len r fun l hl => h l (by simp [hl])
    simp only [List.map_cons, List.flatten_cons, List.length_append, List.length_cons, List.length_nil]
    omega
theorem page_len {sg : List Nat} {as : List Arc} (hs : Signs sg) (h : OkW sg as) : (page sg as).length ≤ 6231 := by
  have q := flat_len (lns sg as) (lns_len hs h.2.2)
  have e : (lns sg as).length = as.length + 1 := by simp [lns]
  have := h.2.1
  unfold page
  omega
theorem page_split {sg : List Nat} {as : List Arc} (hs : Signs sg) (h : ∀ a ∈ as, OkArc sg a) : TL.spl [10] 0 [] (page sg as) = lns sg as ++ [[]] := by
  unfold page
  rw [← join_nl]
  refine SX.spl_join (by simp) fun p hp => ?_
  rcases List.mem_append.mp hp with hp | hp
  · exact lns_no hs h p hp
  · rw [List.mem_singleton.mp hp]
    simp
theorem split_at {a : List Nat} {c : Nat} (hc : c < 256) : Txt.split (SX.S a) (SX.S [c]) = (TL.spl [c] 0 [] a).map SX.S := SX.split_S (by simp) (by simpa using hc)
end J


set_option Elab.async false
set_option linter.all false
set_option maxRecDepth 100000
set_option maxHeartbeats 4000000
namespace J
open PySem L2
theorem dne {x y : V} (h : x = y) : (!decide (x = y)) = false := by rw [decide_eq_true h]; rfl
theorem dne_t {x y : V} (h : x ≠ y) : (!decide (x = y)) = true := by rw [decide_eq_false h]; rfl
def Le (x : Str) (n : Nat) : Prop := x.length ≤ n
theorem Le.app {x y : Str} {m n : Nat} (h : Le x m) (g : Le y n) : Le (x ++ y) (m + n) := by
  unfold Le at *
  rw [Str.length_append]
  omega
theorem Le.size {x : Str} {n : Nat} (h : Le x n) (g : n ≤ 100000) : x.length ≤ sizeLine := le_size (Nat.le_trans h g)
theorem line_S (a : Arc) : (((((Str.empty ++ Str.ofString "arc ") ++ Str.ofString (toString (a.1 : Int))) ++ Str.ofString " ") ++ SX.S a.2.1) ++ Str.ofString " ") ++ Str.ofString (toString (a.2.2 : Int)) = SX.S (arl a) := by
  show (((((SX.S [] ++ SX.S [97, 114, 99, 32]) ++ SX.S (nt a.1)) ++ SX.S [32]) ++ SX.S a.2.1) ++ SX.S [32]) ++ SX.S (nt a.2.2) = SX.S (arl a)
  rw [SX.S_cat, SX.S_cat, SX.S_cat, SX.S_cat, SX.S_cat, SX.S_cat, arl_eq]
  simp
theorem sign_S (sg : List Nat) : (Str.empty ++ Str.ofString "signs ") ++ SX.S sg = SX.S (sgl sg) := by
  show (SX.S [] ++ SX.S [115, 105, 103, 110, 115, 32]) ++ SX.S sg = _
  rw [SX.S_cat, SX.S_cat, sgl_eq]
  simp
def ltx (ls : List (List Nat)) : List V := ls.map fun l => V.str (SX.S l)
theorem ltx_str (ls : List (List Nat)) : ltx ls = (ls.map SX.S).map V.str := by simp [ltx]
theorem ltx_take (ls : List (List Nat)) {i : Nat} {l : List Nat} (h : ls[i]? = some l) : ltx (ls.take i) ++ [V.str (SX.S l)] = ltx (ls.take (i + 1)) := by
  rw [List.take_add_one, h]
  simp [ltx]
theorem ltx_at {ls : List (List Nat)} {i : Nat} {y : V} (h : (ltx ls)[i]? = some y) : ∃ l, ls[i]? = some l ∧ y = .str (SX.S l) := by
  rw [ltx, List.getElem?_map] at h
  obtain ⟨u, hu, e⟩ := Option.map_eq_some_iff.mp h
  exact ⟨u, hu, e.symm⟩
theorem ltx_len (ls : List (List Nat)) : (ltx ls).length = ls.length := List.length_map _
theorem sum_le (ls : List (List Nat)) (n : Nat) (h : ∀ l ∈ ls, l.length ≤ n) : ((ls.map SX.S).map (·.length)).sum ≤ n * ls.length := by
  induction ls with
  | nil => simp
  | cons a r ih =>
    have h1 := h a (by simp)
    have h2 := ih fun l hl => h l (by simp [hl])
    simp only [List.map_cons, List.sum_cons, SX.S_len, List.length_cons, Nat.mul_add, Nat.mul_one]
    omega
theorem cut_from (xs : List V) (n : Nat) : cutV xs (some (n : Int)) none = xs.drop n := by
  unfold cutV
  rw [HT.sIx_nat, HT.sIx_none, List.take_of_length_le (by rw [List.length_drop]; exact Nat.le_refl _)]
  by_cases h : n ≤ xs.length
  · rw [Nat.min_eq_left h]
  · rw [Nat.min_eq_right (by omega), List.drop_length, List.drop_eq_nil_of_le (by omega)]
theorem cut_to (xs : List V) (n : Nat) : cutV xs none (some (n : Int)) = xs.take n := by
  unfold cutV
  rw [HT.sIx_nat, HT.sIx_none, List.drop_zero, Nat.sub_zero]
  by_cases h : n ≤ xs.length
  · rw [Nat.min_eq_left h]
  · rw [Nat.min_eq_right (by omega), List.take_length, List.take_of_length_le (by omega)]
def spNums : Sp := fun vs H Q _ => ∃ n : Nat, vs = [.int (n : Int)] ∧ n < 200 ∧ ∀ H' (p : Addr), Same H H' → H p = none → H' p = some (.dK (nd (n + 1))) → Q (.ref p) H'
def spSignsIn : Sp := fun vs H Q _ => ∃ sg : List Nat, vs = [.str (SX.S (sgl sg))] ∧ Signs sg ∧ ∀ H', Same H H' → Q (.str (SX.S sg)) H'
def spArcIn : Sp := fun vs H Q _ => ∃ (sg : List Nat) (a : Arc), vs = [.str (SX.S sg), .str (SX.S (arl a))] ∧ Signs sg ∧ OkArc sg a ∧ ∀ H' (t : Addr), Same H H' → H t = none → H' t = some (arcHO a) → Q (.ref t) H'
def spWrite (C : Addr) : Sp := fun vs H Q _ => ∃ (q : Addr) (sg : List Nat) (us : List V) (as : List Arc), vs = [.ref q] ∧ LoomAt C H q sg us as ∧ ∀ H', Same H H' → Q (.str (SX.S (page sg as))) H'
def spRead (C : Addr) : Sp := fun vs H Q _ => ∃ (sg : List Nat) (as : List Arc), vs = [.str (SX.S (page sg as))] ∧ Signs sg ∧ OkW sg as ∧ ∀ H' (q : Addr) us, Same H H' → H q = none → LoomAt C H' q sg us as → Q (.ref q) H'
section
variable {P : Program} {w : World} {K : PySem.W.Frag} {mg : Str → Option Value} {base : Heap}
theorem ok_numbers_up_to (T : Tx K mg) : FnOk P w K mg base CX0 1 T.f_numbers_up_to T.fd_numbers_up_to P_numbers_up_to spNums := by
  refine T.F_numbers_up_to.ok sc_numbers_up_to (fun vs H Q E h => ?_) (fun cdv A outer s H vs Q E hr h => ?_)
  · obtain ⟨n, rfl, _⟩ := h
    rfl
  · obtain ⟨n, rfl, hn, k⟩ := h
    refine ⟨_, (pss_one (ps_ret (pe_dc (own := [("number", 1)]) (g := (gName 1)) rfl sc_numbers_up_to.nd (pi_range1 rfl T.n_range (pa_cons (pe_op op_add (pv 0) pe_int) pa_nil)) (blkOk_by (N := N_numbers_up_to) (sc := defScope s_numbers_up_to) (by decide +kernel)) (fun _ _ _ _ _ => (pg_name (i := 1) sc_numbers_up_to.nd rfl (Or.inl rfl))) (fun _ _ _ _ _ => pts_nil) (fun _ _ _ _ _ => (pe_callTy call_str_int rfl T.n_str (by decide +kernel) (pa_cons (pv 1) pa_nil))) (fun _ _ _ _ _ => (pv 1))))), ?_⟩
    refine ⟨_, rfl, _, _, rfl, rfl, _, rfl, by omega, by omega, fun D hD => ?_⟩
    refine dc_it (walk_range (lo := 0) (n := ((n : Int) + 1).toNat)) (fun i H' => H' D = some (.dK (nd i)) ∧ Same H H') ⟨upd_same, Same.new _ hD⟩ (fun _ _ _ _ => trivial) ?_ ?_
    · rintro i x H1 H2 hi ⟨hDl, sm⟩ ⟨rfl, rfl⟩
      have e0 : (0 : Int) + (i : Int) = (i : Int) := by omega
      refine ⟨rfl, ?_⟩
      show ∃ x, _
      refine ⟨_, rfl, _, rfl, ?_, _, rfl, nd i, .inr (SX.S (nt i)), ?_, hDl, lt_size (by rw [nd_len]; omega), ?_, sm.updNew hD⟩
      · rw [e0]
        exact Nat.lt_of_le_of_lt (Nat.log2_le_self _) (by omega)
      · rw [e0]
        rfl
      · rw [upd_same]
        show some (HO.dK (putK (nd i) (.inr (SX.S (nt i))) (V.int (0 + (i : Int))))) = _
        rw [e0, nd_put (by omega)]
    · rintro H1 ⟨hDl, sm⟩
      exact k H1 D sm hD (by rw [hDl]; rfl)
end
end J


set_option Elab.async false
set_option linter.all false
set_option maxRecDepth 100000
set_option maxHeartbeats 4000000
namespace J
open PySem L2
theorem pi_or {X : Cx} {tg l : Expr} {ti tj : TI} (h1 : PI X tg l ti) (h2 : PI X tg l tj) : PI X tg l (fun σ H R => ti σ H R ∨ tj σ H R) := ⟨fun pins s σ H R I h => h.elim (h1.run pins s σ H R I) (h2.run pins s σ H R I)⟩
theorem TyZ_same {K : PySem.W.Frag} {H H' : Hp} {x : V} {t : Value} (h : TyZ K H x t) (s : Same H H') : TyZ K H' x t := by
  cases h with
  | x h =>
    refine .x ?_
    cases h with
    | base h =>
      refine .base ?_
      cases h with
      | non => exact .non
      | bl b => exact .bl b
      | int i => exact .int i
      | str z => exact .str z
      | flt z => exact .flt z
      | lst e => exact .lst (s _ _ e)
      | frz e => exact .frz (s _ _ e)
      | tup e => exact .tup (s _ _ e)
      | dK e => exact .dK (s _ _ e)
      | dT e => exact .dT (s _ _ e)
      | ins e cl ha hn htk hm => exact .ins (s _ _ e) cl ha hn htk hm
    | byt b => exact .byt b
    | set e => exact .set (s _ _ e)
    | kList e c => exact .kList e c
    | kTuple e c => exact .kTuple e c
    | kDict e c => exact .kDict e c
    | fTuple e => exact .fTuple (s _ _ e)
    | fDict e => exact .fDict (s _ _ e)
  | exo e c => exact .exo (s _ _ e) c
  | exd e ed c => exact .exd (s _ _ e) (s _ _ ed) c
/-- what may stand in a row -/
inductive It (K : PySem.W.Frag) (H : Hp) : V → Prop
  | int (i : Int) : It K H (.int i)
  | bl (b : Bool) : It K H (.bl b)
  | other {x : V} {t : Value} (h : TyZ K H x t) (n : PySem.W.kitOne K t (.type "int") = some false) (ni : ∀ i, x ≠ .int i) : It K H x
theorem It.same {K : PySem.W.Frag} {H H' : Hp} {x : V} (h : It K H x) (s : Same H H') : It K H' x := by
  cases h with
  | int i => exact .int i
  | bl b => exact .bl b
  | other h n ni => exact .other (TyZ_same h s) n ni
/-- things: sequences of such items, and what is none -/
inductive Thg (K : PySem.W.Frag) (H : Hp) : V → Option (List V) → Prop
  | seq {a : Addr} {xs : List V} (h : Seq H a xs) (hi : ∀ x ∈ xs, It K H x) (hl : xs.length ≤ 100000) : Thg K H (.ref a) (some xs)
  | non {x : V} {t : Value} (h : TyZ K H x t) (n : PySem.W.kitAny K t [.type "list", .type "tuple"] = some false) : Thg K H x none
theorem Thg.same {K : PySem.W.Frag} {H H' : Hp} {x : V} {d : Option (List V)} (h : Thg K H x d) (s : Same H H') : Thg K H' x d := by
  cases h with
  | seq h hi hl => exact .seq (h.same s) (fun x hx => (hi x hx).same s) hl
  | non h n => exact .non (TyZ_same h s) n
def spNumG (K : PySem.W.Frag) : Sp := fun vs H Q _ => ∃ (x : V) (hi : Int), vs = [x, .int 0, .int hi] ∧ It K H x ∧ ∀ b : Bool, (b = true ↔ ∃ i, x = .int i ∧ 0 ≤ i ∧ i ≤ hi) → Q (.bl b) H
def spSeqG (K : PySem.W.Frag) : Sp := fun vs H Q _ => ∃ (x : V) (d : Option (List V)) (hi : Int), vs = [x, .int 0, .int hi] ∧ Thg K H x d ∧ ∀ (H' : Hp) (b : Bool), Same H H' → (b = true ↔ ∃ xs, d = some xs ∧ (xs.length : Int) ≤ hi) → Q (.bl b) H'
section
variable {P : Program} {w : World} {K : PySem.W.Frag} {mg : Str → Option Value} {base : Heap}
theorem ok_is_numberG (T : Tx K mg) : FnOk P w K mg base CX0 1 T.f_is_number T.fd_is_number P_is_number (spNumG K) := by
  refine T.F_is_number.ok sc_is_number (fun vs H Q E h => ?_) (fun cdv A outer s H vs Q E hr h => ?_)
  · obtain ⟨x, hi, rfl, _⟩ := h
    rfl
  · obtain ⟨x, hi, rfl, ho, k⟩ := h
    refine ⟨_, (pss_one (ps_ret (pe_and (pe_callB (call_isiZ (K := K) rfl) rfl T.n_isinstance (by decide +kernel) (pa_cons (pv 0) (pa_cons (pe_bltn (v := V.ty "int") (u := .type "int") rfl T.n_int (by decide +kernel) rfl) pa_nil))) (pe_and (pe_not (pe_callB (call_isiZ (K := K) rfl) rfl T.n_isinstance (by decide +kernel) (pa_cons (pv 0) (pa_cons (pe_bltn (v := V.ty "bool") (u := .type "bool") rfl T.n_bool (by decide +kernel) rfl) pa_nil)))) (pe_one (pe_chain op_le op_le (pv 1) (pv 0) (pv 2))))))), ?_⟩
    cases ho with
    | other h n ni => exact ⟨_, rfl, _, _, _, _, false, rfl, .ty "int", h, n, false, rfl, k false ⟨fun z => Bool.noConfusion z, fun ⟨i, e, _⟩ => absurd e (ni i)⟩⟩
    | bl b =>
      refine ⟨_, rfl, _, _, _, _, true, rfl, .ty "int", .x (.base (.bl b)), kit_ty (by decide +kernel), true, rfl, ?_⟩
      exact ⟨_, rfl, _, _, _, _, true, rfl, .ty "bool", .x (.base (.bl b)), kit_ty (by decide +kernel), true, rfl, false, rfl, k false ⟨fun z => Bool.noConfusion z, fun ⟨i, e, _⟩ => nomatch e⟩⟩
    | int i =>
      refine ⟨_, rfl, _, _, _, _, true, rfl, .ty "int", .x (.base (.int i)), kit_ty (by decide +kernel), true, rfl, ?_⟩
      refine ⟨_, rfl, _, _, _, _, false, rfl, .ty "bool", .x (.base (.int i)), kit_ty (by decide +kernel), false, rfl, true, rfl, ?_⟩
      refine ⟨_, rfl, _, rfl, _, _, rfl, rfl, _, rfl, ?_⟩
      refine ite2 (fun c => ?_) (fun c => ?_)
      · refine ⟨_, rfl, _, _, rfl, rfl, k _ ?_⟩
        have c1 := of_decide_eq_true c
        constructor
        · intro h; exact ⟨i, rfl, c1, of_decide_eq_true h⟩
        · rintro ⟨j, e, _, h⟩; cases e; exact decide_eq_true h
      · refine k _ ?_
        constructor
        · intro h; cases h
        · rintro ⟨j, e, h, _⟩; cases e; exact absurd (decide_eq_true h) c
theorem ok_is_sequenceG (T : Tx K mg) : FnOk P w K mg base CX0 1 T.f_is_sequence T.fd_is_sequence P_is_sequence (spSeqG K) := by
  refine T.F_is_sequence.ok sc_is_sequence (fun vs H Q E h => ?_) (fun cdv A outer s H vs Q E hr h => ?_)
  · obtain ⟨x, d, hi, rfl, _⟩ := h
    rfl
  · obtain ⟨x, d, hi, rfl, ho, k⟩ := h
    refine ⟨_, (pss_one (ps_ret (pe_and (pe_callB (call_isiTZ (K := K) rfl) rfl T.n_isinstance (by decide +kernel) (pa_cons (pv 0) (pa_cons (pe_tup (pa_cons (pe_bltn (v := V.ty "list") (u := .type "list") rfl T.n_list (by decide +kernel) rfl) (pa_cons (pe_bltn (v := V.ty "tuple") (u := .type "tuple") rfl T.n_tuple (by decide +kernel) rfl) pa_nil))) pa_nil))) (pe_one (pe_chain op_le op_le (pv 1) (pe_callB (call_len_seqK (K := K) rfl) rfl T.n_len (by decide +kernel) (pa_cons (pv 0) pa_nil)) (pv 2)))))), ?_⟩
    refine ⟨_, rfl, le_size (by decide), fun t ht => ?_⟩
    have st := Same.new (.tup [V.ty "list", V.ty "tuple"]) ht
    cases ho with
    | non h n =>
      exact ⟨_, _, _, _, [.type "list", .type "tuple"], false, rfl, upd_same, .cons (.ty _) (.cons (.ty _) .nil), TyZ_same h st, n, false, rfl, k _ false st ⟨fun z => Bool.noConfusion z, fun ⟨xs, e, _⟩ => nomatch e⟩⟩
    | @seq a xs h hit hl =>
      have two : ∃ tv, TyZ K (upd H t (.tup [V.ty "list", V.ty "tuple"])) (.ref a) tv ∧ PySem.W.kitAny K tv [.type "list", .type "tuple"] = some true := by
        rcases h with ha | ha
        · exact ⟨_, .x (.base (.lst (st _ _ ha))), kitAny_cons (b := true) (kit_ty (by decide +kernel)) (fun q => nomatch q) (fun _ => rfl)⟩
        · exact ⟨_, .x (.base (.tup (st _ _ ha))), kitAny_cons (b := false) (kit_ty (by decide +kernel)) (fun _ => kitAny_cons (b := true) (kit_ty (by decide +kernel)) (fun q => nomatch q) (fun _ => rfl)) (fun q => nomatch q)⟩
      have one : SqL K (upd H t (.tup [V.ty "list", V.ty "tuple"])) a xs ∨ SqT K (upd H t (.tup [V.ty "list", V.ty "tuple"])) a xs := (h.same st).elim (fun z => .inl (SqL.of z)) fun z => .inr (SqT.of z)
      obtain ⟨tv, htv, hkt⟩ := two
      refine ⟨_, _, _, _, [.type "list", .type "tuple"], true, rfl, upd_same, .cons (.ty _) (.cons (.ty _) .nil), htv, hkt, true, rfl, ?_⟩
      refine ⟨_, rfl, _, rfl, a, xs, rfl, one, _, _, rfl, rfl, _, rfl, ?_⟩
      refine ite2 (fun c => ?_) (fun c => ?_)
      · refine ⟨_, rfl, _, _, rfl, rfl, k _ _ st ?_⟩
        constructor
        · intro h; exact ⟨xs, rfl, of_decide_eq_true h⟩
        · rintro ⟨ys, e, h⟩; cases e; exact decide_eq_true h
      · exact absurd (decide_eq_true (by omega)) c
end
end J


set_option Elab.async false
set_option linter.all false
set_option maxRecDepth 100000
set_option maxHeartbeats 4000000
namespace PySem
namespace ExX
section
variable {prog : Program} {w : World} {A : Around} {E : Value → Shared → Prop} {R : Result → Shared → Prop} {s : Shared} {K : W.Frag} {mg : Str → Option Value} {C fI : Addr}
open PySem.W PySem.Calls PyProof.Rows PySem.HandSPX
theorem init_InvalidRow (T : ExcT K mg C fI "InvalidRow" ["at"] "InvalidRow.__init__" J.s_InvalidRow_init) {x t0 : Addr} {v0 : Value} (X : K.In s.heap) (hlim : s.heap.NoLimit) (hx : s.heap.get? x = some (excO C t0)) (hnx : K.lookup x = none) (hroom : A.depth < recursionLimit)
    (hq : ∀ h' tk dx, (∀ b o, b ≠ x → s.heap.get? b = some o → h'.get? b = some o) → h'.get? x = some { cls := .ref C, dict := some dx, data := .fields #[.ref t0, .none, .none, .none, .bool false, .none] } → s.heap.objs.size ≤ dx → dx ≠ x →
      h'.Ns1 dx (fun y => if y = "at" then some v0 else none) → R (.ok (.ret .none)) { s with heap := h', toks := tk }) :
    codeAny (model prog w) A (.call (.ref fI) ⟨[.ref x, v0], []⟩) R s := by
  obtain ⟨oc, od, kV, doc, pm, an, cdv, ct, osl, ho, hcd⟩ := T.fn
  obtain ⟨nm, q, N, bs, bm, sn, sub, ab, col, dd, k0, k1, k2, k3, k5, hC, hbm⟩ := T.cls
  have hcl : clsIn K C = some { name := nm, bases := bs, mro := .ref C :: bm, ns := N, qualname := q, hasDict := true, slotNames := sn, subclasses := sub, abstract := ab, collection := col, hasDel := false } := by unfold clsIn; rw [hC] <;> rfl
  refine Att.call_fn (binds := [("self", .ref x), ("at", v0)]) X hlim ho hcd hroom (BindsTo.of_eq (by first | rfl | with_unfolding_all rfl)) (by first | rfl | decide | with_unfolding_all rfl) (fun s₁ IC => ?_) rfl rfl rfl
  obtain ⟨h₁, tk₁, rfl⟩ := IC.toInCall.same
  have k : ∀ b o, s.heap.get? b = some o → h₁.get? b = some o := IC.toInCall.keep
  have hn := IC.toInCall.ns
  have hxL : s.heap.objs.size ≠ x := Nat.ne_of_gt (Heap.lt_size hx)
  have X₁ : K.In h₁ := X.keeps k
  have hx₁ := k _ _ hx
  have z : s.heap.objs.size < h₁.objs.size := hn.lt
  show wpAny _ _ (execs _ _) _ _ _
  refine wpAny_execs_cons (plainObj_wpAny_Assign_Attribute ?_)
  refine ldC (v := v0) hn (by first | rfl | with_unfolding_all rfl | kernel_rfl) (ldC (v := .ref x) hn (by first | rfl | with_unfolding_all rfl | kernel_rfl) ?_)
  refine set_plain X₁ (ox := excO C t0) (od := none) ⟨hx₁, rfl, rfl, trivial⟩ T.sa ?_
  refine osa_new X₁ hx₁ hcl (show refsEX (.ref C :: bm) = true from hbm) rfl (T.no "at" (by simp)) (fun h₃ tk₃ dx k₃ dn dne hx₃ hn₃ => ?_)
  show wpAny _ _ (execs _ _) _ _ _
  exact wpAny_execs_nil (hq h₃ tk₃ dx (fun b o hb e => k₃ b o hb (k b o e)) hx₃ (Nat.le_of_lt (Nat.lt_of_lt_of_le z dn)) dne hn₃)
theorem made_InvalidRow (T : ExcT K mg C fI "InvalidRow" ["at"] "InvalidRow.__init__" J.s_InvalidRow_init) {v0 : Value} (X : K.In s.heap) (hlim : s.heap.NoLimit) (hroom : A.depth + 1 < recursionLimit)
    (hq : ∀ h' tk e d, OwnMade s.heap h' e C d (fun y => if y = "at" then some v0 else none) → R (.ok (.ret (.ref e))) { s with heap := h', toks := tk }) :
    codeAny (model prog w) A (.call (.ref C) ⟨[v0], []⟩) R s := by
  obtain ⟨nm, q, N, bs, bm, sn, sub, ab, col, dd, k0, k1, k2, k3, k5, hC, hbm⟩ := T.cls
  obtain ⟨hp, g, dr, tk, os⟩ := s
  have k : ∀ b o, hp.get? b = some o → ((hp.push (kdv_tup [v0])).push (excO C hp.objs.size)).get? b = some o := fun b o e => Heap.get?_push_of_some _ (Heap.get?_push_of_some _ e)
  have hget : ((hp.push (kdv_tup [v0])).push (excO C hp.objs.size)).get? (hp.objs.size + 1) = some (excO C hp.objs.size) := by heap_get
  have hnx : K.lookup (hp.objs.size + 1) = none := by
    cases e : K.lookup (hp.objs.size + 1) with
    | none => rfl
    | some o =>
      have z : hp.get? (hp.objs.size + 1) = some o := X _ _ e
      exact absurd (Nat.lt_of_succ_lt (Heap.lt_size z)) (Nat.lt_irrefl _)
  refine call_own F.excBase_Exception (fun X => refsEX_contains X bm hbm) (X _ _ hC) (looks_findIn X T.iC) (fun self => bind_fn X self T.tC) (by show 1 ≤ sizeLine; rw [sizeLine_eq]; decide) ?_
  refine init_InvalidRow (s := ⟨(hp.push (kdv_tup [v0])).push (excO C hp.objs.size), g, dr, tk, os⟩) T (X.keeps k) (hlim.keeps k) hget hnx ?_ fun h' tk' dx k' hx dn dne hns => ?_
  · show A.depth + 1 < recursionLimit
    exact hroom
  · have old : ∀ b o, hp.get? b = some o → h'.get? b = some o := fun b o e => k' b o (Nat.ne_of_lt (Nat.lt_succ_of_lt (Heap.lt_size e))) (k b o e)
    have z : hp.objs.size + 1 + 1 ≤ dx := by
      first
        | (simpa only [Heap.size_push] using dn)
        | exact dn
        | (have q := dn; rw [Heap.size_push, Heap.size_push] at q; exact q)
    exact ⟨rfl, hq h' tk' (hp.objs.size + 1) dx ⟨old, Nat.le_succ _, ⟨_, _, hx, rfl, rfl, rfl, rfl⟩, Nat.le_trans (Nat.le_trans (Nat.le_succ _) (Nat.le_succ _)) z, dne, hns⟩⟩
end
end ExX
end PySem
namespace L2
open PySem PySem.Spec PyProof.Rows PySem.ExX
def fs_InvalidRow (x0 : V) : List (Str × V) := [(("at" : Str), x0)]
theorem rel_InvalidRow {x0 : V} {v0 : Value} (r0 : RelV x0 v0) (f : Str) : RelO (List.lookup f (fs_InvalidRow x0)) ((fun y : Str => if y = "at" then some v0 else none) f) := by
  unfold fs_InvalidRow
  exact (fun g => relO_put (f := "at") (fs := []) (mA := fun _ => none) r0 (fun _ => trivial) g) f
section
variable {X : Cx} {C fI : Addr} {es : List Expr} {e : Expr} {ta : TA} {p pos : Pos} {k : Nat}
def tV_InvalidRow (C : Addr) (ta : TA) : TE := fun σ H Q => ta σ H fun vs H1 => ∃ x0, vs = [x0] ∧ ∀ e d, H1 e = none → H1 d = none → d ≠ e → Q (.ref e) (upd (upd H1 d (.xd (fs_InvalidRow x0))) e (ExD C d e))
/-- InvalidRow(..) as a value -/
theorem pe_InvalidRow (T : ExcT X.K X.mg C fI "InvalidRow" ["at"] "InvalidRow.__init__" J.s_InvalidRow_init) (hr : Room k X.A) (ha : PA X (e :: es) ta) (hg : Gl X "InvalidRow" := by rfl)
    (he : starEach (e :: es) X.env = (false, eval e X.env) :: starEach es X.env := by rfl) (hpl : (backTo pos (starEach es X.env)).any (·.1) = false := by rfl) :
    PE X (.Call (.Name "InvalidRow" p) (e :: es) [] pos) (tV_InvalidRow C ta) := by
  refine ⟨fun pins s σ H Q I h => ?_⟩
  refine wpAny_Call_Name_kw (ld_glob I hg T.gC ?_)
  refine PySem.W.callWith_K (h₀ := X.base) I.ok.mod.kin T.kC (thn (ha.run pos pins s σ H _ I h) fun us s1 hh => ?_) he hpl
  obtain ⟨vs, H1, I1, r1, x0, ev, q1⟩ := hh
  subst ev
  refine ⟨I1.kIn, ?_⟩
  cases r1 with
  | cons r0 rn =>
  cases rn
  have hlim := I1.nolimit
  obtain ⟨hp, g, dr, tk, os⟩ := s1
  refine wpAny_call (made_InvalidRow T I1.kIn hlim (by have := hr.dp; omega) fun h' tk' e d M => ?_)
  exact ⟨.ref e, _, own_value (tk' := tk') I1 M (rel_InvalidRow r0), rfl, q1 e d (I1.hok.fresh M.new) (I1.hok.fresh M.dbig) M.dne⟩
def tMk_InvalidRow (C : Addr) (ta : TA) : St → Hp → XK → Prop := fun σ H Q => ta σ H fun vs H1 => ∃ x0, vs = [x0] ∧ ∀ d, H1 d = none → Q (.ref C) (some d) (upd H1 d (.xd (fs_InvalidRow x0)))
/-- InvalidRow(..) to be raised -/
theorem pmk_InvalidRow (T : ExcT X.K X.mg C fI "InvalidRow" ["at"] "InvalidRow.__init__" J.s_InvalidRow_init) (hr : Room k X.A) (ha : PA X (e :: es) ta) (hg : Gl X "InvalidRow" := by rfl)
    (he : starEach (e :: es) X.env = (false, eval e X.env) :: starEach es X.env := by rfl) (hpl : (backTo pos (starEach es X.env)).any (·.1) = false := by rfl) :
    PMk X (.Call (.Name "InvalidRow" p) (e :: es) [] pos) (tMk_InvalidRow C ta) := by
  intro pins s σ H Q I h
  refine wpAny_Call_Name_kw (ld_glob I hg T.gC ?_)
  refine PySem.W.callWith_K (h₀ := X.base) I.ok.mod.kin T.kC (thn (ha.run pos pins s σ H _ I h) fun us s1 hh => ?_) he hpl
  obtain ⟨vs, H1, I1, r1, x0, ev, q1⟩ := hh
  subst ev
  refine ⟨I1.kIn, ?_⟩
  cases r1 with
  | cons r0 rn =>
  cases rn
  have hlim := I1.nolimit
  obtain ⟨hp, g, dr, tk, os⟩ := s1
  refine wpAny_call (made_InvalidRow T I1.kIn hlim (by have := hr.dp; omega) fun h' tk' e d M => ?_)
  exact own_raise (tk' := tk') I1 M (rel_InvalidRow r0) (raises_own T.exC T.tyC) q1
end
end L2
namespace PySem
namespace ExX
section
variable {prog : Program} {w : World} {A : Around} {E : Value → Shared → Prop} {R : Result → Shared → Prop} {s : Shared} {K : W.Frag} {mg : Str → Option Value} {C fI : Addr}
open PySem.W PySem.Calls PyProof.Rows PySem.HandSPX
theorem init_InvalidPage (T : ExcT K mg C fI "InvalidPage" ["line"] "InvalidPage.__init__" J.s_InvalidPage_init) {x t0 : Addr} {v0 : Value} (X : K.In s.heap) (hlim : s.heap.NoLimit) (hx : s.heap.get? x = some (excO C t0)) (hnx : K.lookup x = none) (hroom : A.depth < recursionLimit)
    (hq : ∀ h' tk dx, (∀ b o, b ≠ x → s.heap.get? b = some o → h'.get? b = some o) → h'.get? x = some { cls := .ref C, dict := some dx, data := .fields #[.ref t0, .none, .none, .none, .bool false, .none] } → s.heap.objs.size ≤ dx → dx ≠ x →
      h'.Ns1 dx (fun y => if y = "line" then some v0 else none) → R (.ok (.ret .none)) { s with heap := h', toks := tk }) :
    codeAny (model prog w) A (.call (.ref fI) ⟨[.ref x, v0], []⟩) R s := by
  obtain ⟨oc, od, kV, doc, pm, an, cdv, ct, osl, ho, hcd⟩ := T.fn
  obtain ⟨nm, q, N, bs, bm, sn, sub, ab, col, dd, k0, k1, k2, k3, k5, hC, hbm⟩ := T.cls
  have hcl : clsIn K C = some { name := nm, bases := bs, mro := .ref C :: bm, ns := N, qualname := q, hasDict := true, slotNames := sn, subclasses := sub, abstract := ab, collection := col, hasDel := false } := by unfold clsIn; rw [hC] <;> rfl
  refine Att.call_fn (binds := [("self", .ref x), ("line", v0)]) X hlim ho hcd hroom (BindsTo.of_eq (by first | rfl | with_unfolding_all rfl)) (by first | rfl | decide | with_unfolding_all rfl) (fun s₁ IC => ?_) rfl rfl rfl
  obtain ⟨h₁, tk₁, rfl⟩ := IC.toInCall.same
  have k : ∀ b o, s.heap.get? b = some o → h₁.get? b = some o := IC.toInCall.keep
  have hn := IC.toInCall.ns
  have hxL : s.heap.objs.size ≠ x := Nat.ne_of_gt (Heap.lt_size hx)
  have X₁ : K.In h₁ := X.keeps k
  have hx₁ := k _ _ hx
  have z : s.heap.objs.size < h₁.objs.size := hn.lt
  show wpAny _ _ (execs _ _) _ _ _
  refine wpAny_execs_cons (plainObj_wpAny_Assign_Attribute ?_)
  refine ldC (v := v0) hn (by first | rfl | with_unfolding_all rfl | kernel_rfl) (ldC (v := .ref x) hn (by first | rfl | with_unfolding_all rfl | kernel_rfl) ?_)
  refine set_plain X₁ (ox := excO C t0) (od := none) ⟨hx₁, rfl, rfl, trivial⟩ T.sa ?_
  refine osa_new X₁ hx₁ hcl (show refsEX (.ref C :: bm) = true from hbm) rfl (T.no "line" (by simp)) (fun h₃ tk₃ dx k₃ dn dne hx₃ hn₃ => ?_)
  show wpAny _ _ (execs _ _) _ _ _
  exact wpAny_execs_nil (hq h₃ tk₃ dx (fun b o hb e => k₃ b o hb (k b o e)) hx₃ (Nat.le_of_lt (Nat.lt_of_lt_of_le z dn)) dne hn₃)
theorem made_InvalidPage (T : ExcT K mg C fI "InvalidPage" ["line"] "InvalidPage.__init__" J.s_InvalidPage_init) {v0 : Value} (X : K.In s.heap) (hlim : s.heap.NoLimit) (hroom : A.depth + 1 < recursionLimit)
    (hq : ∀ h' tk e d, OwnMade s.heap h' e C d (fun y => if y = "line" then some v0 else none) → R (.ok (.ret (.ref e))) { s with heap := h', toks := tk }) :
    codeAny (model prog w) A (.call (.ref C) ⟨[v0], []⟩) R s := by
  obtain ⟨nm, q, N, bs, bm, sn, sub, ab, col, dd, k0, k1, k2, k3, k5, hC, hbm⟩ := T.cls
  obtain ⟨hp, g, dr, tk, os⟩ := s
  have k : ∀ b o, hp.get? b = some o → ((hp.push (kdv_tup [v0])).push (excO C hp.objs.size)).get? b = some o := fun b o e => Heap.get?_push_of_some _ (Heap.get?_push_of_some _ e)
  have hget : ((hp.push (kdv_tup [v0])).push (excO C hp.objs.size)).get? (hp.objs.size + 1) = some (excO C hp.objs.size) := by heap_get
  have hnx : K.lookup (hp.objs.size + 1) = none := by
    cases e : K.lookup (hp.objs.size + 1) with
    | none => rfl
    | some o =>
      have z : hp.get? (hp.objs.size + 1) = some o := X _ _ e
      exact absurd (Nat.lt_of_succ_lt (Heap.lt_size z)) (Nat.lt_irrefl _)
  refine call_own F.excBase_Exception (fun X => refsEX_contains X bm hbm) (X _ _ hC) (looks_findIn X T.iC) (fun self => bind_fn X self T.tC) (by show 1 ≤ sizeLine; rw [sizeLine_eq]; decide) ?_
  refine init_InvalidPage (s := ⟨(hp.push (kdv_tup [v0])).push (excO C hp.objs.size), g, dr, tk, os⟩) T (X.keeps k) (hlim.keeps k) hget hnx ?_ fun h' tk' dx k' hx dn dne hns => ?_
  · show A.depth + 1 < recursionLimit
    exact hroom
  · have old : ∀ b o, hp.get? b = some o → h'.get? b = some o := fun b o e => k' b o (Nat.ne_of_lt (Nat.lt_succ_of_lt (Heap.lt_size e))) (k b o e)
    have z : hp.objs.size + 1 + 1 ≤ dx := by
      first
        | (simpa only [Heap.size_push] using dn)
        | exact dn
        | (have q := dn; rw [Heap.size_push, Heap.size_push] at q; exact q)
    exact ⟨rfl, hq h' tk' (hp.objs.size + 1) dx ⟨old, Nat.le_succ _, ⟨_, _, hx, rfl, rfl, rfl, rfl⟩, Nat.le_trans (Nat.le_trans (Nat.le_succ _) (Nat.le_succ _)) z, dne, hns⟩⟩
end
end ExX
end PySem
namespace L2
open PySem PySem.Spec PyProof.Rows PySem.ExX
def fs_InvalidPage (x0 : V) : List (Str × V) := [(("line" : Str), x0)]
theorem rel_InvalidPage {x0 : V} {v0 : Value} (r0 : RelV x0 v0) (f : Str) : RelO (List.lookup f (fs_InvalidPage x0)) ((fun y : Str => if y = "line" then some v0 else none) f) := by
  unfold fs_InvalidPage
  exact (fun g => relO_put (f := "line") (fs := []) (mA := fun _ => none) r0 (fun _ => trivial) g) f
section
variable {X : Cx} {C fI : Addr} {es : List Expr} {e : Expr} {ta : TA} {p pos : Pos} {k : Nat}
def tV_InvalidPage (C : Addr) (ta : TA) : TE := fun σ H Q => ta σ H fun vs H1 => ∃ x0, vs = [x0] ∧ ∀ e d, H1 e = none → H1 d = none → d ≠ e → Q (.ref e) (upd (upd H1 d (.xd (fs_InvalidPage x0))) e (ExD C d e))
/-- InvalidPage(..) as a value -/
theorem pe_InvalidPage (T : ExcT X.K X.mg C fI "InvalidPage" ["line"] "InvalidPage.__init__" J.s_InvalidPage_init) (hr : Room k X.A) (ha : PA X (e :: es) ta) (hg : Gl X "InvalidPage" := by rfl)
    (he : starEach (e :: es) X.env = (false, eval e X.env) :: starEach es X.env := by rfl) (hpl : (backTo pos (starEach es X.env)).any (·.1) = false := by rfl) :
    PE X (.Call (.Name "InvalidPage" p) (e :: es) [] pos) (tV_InvalidPage C ta) := by
  refine ⟨fun pins s σ H Q I h => ?_⟩
  refine wpAny_Call_Name_kw (ld_glob I hg T.gC ?_)
  refine PySem.W.callWith_K (h₀ := X.base) I.ok.mod.kin T.kC (thn (ha.run pos pins s σ H _ I h) fun us s1 hh => ?_) he hpl
  obtain ⟨vs, H1, I1, r1, x0, ev, q1⟩ := hh
  subst ev
  refine ⟨I1.kIn, ?_⟩
  cases r1 with
  | cons r0 rn =>
  cases rn
  have hlim := I1.nolimit
  obtain ⟨hp, g, dr, tk, os⟩ := s1
  refine wpAny_call (made_InvalidPage T I1.kIn hlim (by have := hr.dp; omega) fun h' tk' e d M => ?_)
  exact ⟨.ref e, _, own_value (tk' := tk') I1 M (rel_InvalidPage r0), rfl, q1 e d (I1.hok.fresh M.new) (I1.hok.fresh M.dbig) M.dne⟩
def tMk_InvalidPage (C : Addr) (ta : TA) : St → Hp → XK → Prop := fun σ H Q => ta σ H fun vs H1 => ∃ x0, vs = [x0] ∧ ∀ d, H1 d = none → Q (.ref C) (some d) (upd H1 d (.xd (fs_InvalidPage x0)))
/-- InvalidPage(..) to be raised -/
theorem pmk_InvalidPage (T : ExcT X.K X.mg C fI "InvalidPage" ["line"] "InvalidPage.__init__" J.s_InvalidPage_init) (hr : Room k X.A) (ha : PA X (e :: es) ta) (hg : Gl X "InvalidPage" := by rfl)
    (he : starEach (e :: es) X.env = (false, eval e X.env) :: starEach es X.env := by rfl) (hpl : (backTo pos (starEach es X.env)).any (·.1) = false := by rfl) :
    PMk X (.Call (.Name "InvalidPage" p) (e :: es) [] pos) (tMk_InvalidPage C ta) := by
  intro pins s σ H Q I h
  refine wpAny_Call_Name_kw (ld_glob I hg T.gC ?_)
  refine PySem.W.callWith_K (h₀ := X.base) I.ok.mod.kin T.kC (thn (ha.run pos pins s σ H _ I h) fun us s1 hh => ?_) he hpl
  obtain ⟨vs, H1, I1, r1, x0, ev, q1⟩ := hh
  subst ev
  refine ⟨I1.kIn, ?_⟩
  cases r1 with
  | cons r0 rn =>
  cases rn
  have hlim := I1.nolimit
  obtain ⟨hp, g, dr, tk, os⟩ := s1
  refine wpAny_call (made_InvalidPage T I1.kIn hlim (by have := hr.dp; omega) fun h' tk' e d M => ?_)
  exact own_raise (tk' := tk') I1 M (rel_InvalidPage r0) (raises_own T.exC T.tyC) q1
end
end L2

set_option Elab.async false
set_option linter.all false
set_option maxRecDepth 100000
set_option maxHeartbeats 4000000
namespace J
open PySem L2
def nsV (ls : List Nat) : List V := ls.map fun n : Nat => V.int (n : Int)
theorem nsV_len (ls : List Nat) : (nsV ls).length = ls.length := List.length_map _
theorem nsV_snoc (ls : List Nat) (n : Nat) : nsV (ls ++ [n]) = nsV ls ++ [.int (n : Int)] := by simp [nsV]
/-- the number below 200 that a text tells -/
def numOf (u : List Nat) : Option Nat := (List.range 200).find? fun n => decide (nt n = u)
theorem numOf_some {u : List Nat} {n : Nat} (h : numOf u = some n) : n < 200 ∧ nt n = u := by
  have h1 := List.find?_some h
  have h2 := List.mem_of_find?_eq_some h
  exact ⟨List.mem_range.mp h2, of_decide_eq_true h1⟩
theorem numOf_none {u : List Nat} (h : numOf u = none) : ∀ a, a < 200 → nt a ≠ u := fun a ha e => by
  have := List.find?_eq_none.mp h a (List.mem_range.mpr ha)
  exact this (decide_eq_true e)
theorem numOf_nt {n : Nat} (h : n < 200) : numOf (nt n) = some n := by
  cases e : numOf (nt n) with
  | none => exact absurd rfl (numOf_none e n h)
  | some m =>
    obtain ⟨h1, h2⟩ := numOf_some e
    rw [nt_inj h1 h h2]
theorem nd_val (u : List Nat) : valV (nd 200) (.inr (SX.S u)) = (numOf u).map fun n : Nat => V.int (n : Int) := by
  cases e : numOf u with
  | none => exact val_none (fun j => (.inr (SX.S (nt j)) : Key)) (fun j => V.int (j : Int)) 200 _ fun a ha z => numOf_none e a ha (key_inj z)
  | some m =>
    obtain ⟨h1, h2⟩ := numOf_some e
    rw [← h2, nd_get h1 (by decide)]
    rfl
def partsOf (l : List Nat) : List (List Nat) := TL.spl [32] 0 [] l
def numB (u : List Nat) : Bool := (numOf u).isSome
def numV (u : List Nat) : Nat := (numOf u).getD 0
/-- what a text tells as a row -/
def readR (l : List Nat) : Option (List Nat) := if l = [45] then some [] else if (partsOf l).length ≤ 2000 ∧ (partsOf l).all numB = true then some ((partsOf l).map numV) else none
def lineOf (ns : List Nat) : List Nat := if ns = [] then [45] else TL.joinL [32] (ns.map nt)
theorem joinL_head : ∀ (ps : List (List Nat)) {c : Nat} {r : List Nat}, ps.head? = some (c :: r) → (TL.joinL [32] ps).head? = some c
  | [], _, _, h => by cases h
  | [p], c, r, h => by
    have e : p = c :: r := by simpa using h
    rw [e]
    rfl
  | p :: q :: t, c, r, h => by
    have e : p = c :: r := by simpa using h
    rw [e]
    rfl
theorem readR_line {ns : List Nat} (h : ∀ n ∈ ns, n < 200) (hl : ns.length ≤ 2000) : readR (lineOf ns) = some ns := by
  by_cases e : ns = []
  · subst e; rfl
  · have e1 : lineOf ns = TL.joinL [32] (ns.map nt) := by unfold lineOf; rw [if_neg e]
    have e2 : partsOf (lineOf ns) = ns.map nt := by
      rw [e1]
      refine SX.spl_join (by simpa using e) fun p hp => ?_
      obtain ⟨n, hn, rfl⟩ := List.mem_map.mp hp
      exact nt_no (h n hn) (by decide)
    have e3 : lineOf ns ≠ [45] := by
      cases ns with
      | nil => exact absurd rfl e
      | cons n r =>
        have hn := h n (by simp)
        have f := (nt_facts n hn).2
        cases en : nt n with
        | nil => rw [en] at f; simp at f
        | cons c t =>
          have q : (TL.joinL [32] ((n :: r).map nt)).head? = some c := joinL_head _ (r := t) (by simp [en])
          rw [e1]
          intro z
          rw [z] at q
          have hc := f.1 c (by rw [en]; simp)
          simp at q
          omega
    unfold readR
    rw [if_neg e3, e2, if_pos ⟨by simpa using hl, by
      rw [List.all_map, List.all_eq_true]
      intro n hn
      show (numOf (nt n)).isSome = true
      rw [numOf_nt (h n hn)]
      rfl⟩]
    congr 1
    rw [List.map_map]
    conv => rhs; rw [← List.map_id ns]
    refine List.map_congr_left fun n hn => ?_
    show (numOf (nt n)).getD 0 = n
    rw [numOf_nt (h n hn)]
    rfl
theorem lineOf_len : ∀ ns : List Nat, (∀ n ∈ ns, n < 200) → (TL.joinL [32] (ns.map nt)).length ≤ 4 * ns.length
  | [], _ => by simp [TL.joinL]
  | [a], h => by
    have := (nt_facts a (h a (by simp))).2.2.2
    show (nt a).length ≤ _
    simp
    omega
  | a :: b :: r, h => by
    have h1 := (nt_facts a (h a (by simp))).2.2.2
    have h2 := lineOf_len (b :: r) fun n hn => h n (by simp [hn])
    show (nt a ++ ([32] ++ TL.joinL [32] ((b :: r).map nt))).length ≤ _
    simp only [List.length_append, List.length_cons, List.length_nil] at *
    omega
/-- items that a row may hold -/
def okI (v : V) : Bool := match v with
  | .int k => decide (0 ≤ k ∧ k ≤ 199)
  | _ => false
def badAt : List V → Nat → Option Nat
  | [], _ => none
  | v :: r, i => if okI v = true then badAt r (i + 1) else some i
def wrV : Option (List V) → V
  | none => .int (-1)
  | some xs => if xs.length ≤ 2000 then (match badAt xs 0 with
    | none => .non
    | some i => .int (i : Nat)) else .int (-1)
theorem badAt_ns (ns : List Nat) (h : ∀ n ∈ ns, n < 200) : ∀ i, badAt (nsV ns) i = none := by
  induction ns with
  | nil => intro i; rfl
  | cons a r ih =>
    intro i
    show (if okI (.int (a : Int)) = true then badAt (nsV r) (i + 1) else some i) = none
    have := h a (by simp)
    rw [if_pos (by unfold okI; exact decide_eq_true (by omega))]
    exact ih (fun n hn => h n (by simp [hn])) (i + 1)
theorem badAt_odd (ns : List Nat) (h : ∀ n ∈ ns, n < 200) (v : V) (r : List V) (hv : okI v = false) : ∀ i, badAt (nsV ns ++ v :: r) i = some (i + ns.length) := by
  induction ns with
  | nil => intro i; show (if okI v = true then badAt r (i + 1) else some i) = _; rw [if_neg (by rw [hv]; decide)]; rfl
  | cons a t ih =>
    intro i
    show (if okI (.int (a : Int)) = true then badAt (nsV t ++ v :: r) (i + 1) else some i) = _
    have := h a (by simp)
    rw [if_pos (by unfold okI; exact decide_eq_true (by omega)), ih (fun n hn => h n (by simp [hn])) (i + 1)]
    simp
    omega
end J


set_option Elab.async false
set_option linter.all false
set_option maxRecDepth 100000
set_option maxHeartbeats 4000000
namespace J
open PySem L2
def spFirst (K : PySem.W.Frag) : Sp := fun vs H Q _ => ∃ (x : V) (d : Option (List V)), vs = [x, .int 0, .int 2000, .int 0, .int 199] ∧ Thg K H x d ∧ ∀ H', Same H H' → Q (wrV d) H'
def spWriteRow (K : PySem.W.Frag) (CR : Addr) : Sp := fun vs H Q E => ∃ (x : V) (d : Option (List V)), vs = [x] ∧ Thg K H x d ∧ ((∃ ns, d = some (nsV ns) ∧ (∀ n ∈ ns, n < 200) ∧ ns.length ≤ 2000 ∧ ∀ H', Same H H' → Q (.str (SX.S (lineOf ns))) H') ∨
  (∃ i : Int, wrV d = .int i ∧ ∀ H' e, Same H H' → H' e = some (.xd (fs_InvalidRow (.int i))) → E (.ref CR) (some e) H'))
def spReadRow (K : PySem.W.Frag) (CP : Addr) : Sp := fun vs H Q E => ∃ x : V, vs = [x] ∧ ((∃ l : List Nat, x = .str (SX.S l) ∧ l.length ≤ 50000 ∧ ((∃ ns, readR l = some ns ∧ ∀ H' (q : Addr), Same H H' → H q = none → H' q = some (.lst (nsV ns)) → Q (.ref q) H') ∨
  (readR l = none ∧ ∀ H' e, Same H H' → H' e = some (.xd (fs_InvalidPage (.int 0))) → E (.ref CP) (some e) H'))) ∨
  (∃ t, TyZ K H x t ∧ PySem.W.kitOne K t (.type "str") = some false ∧ ∀ H' e, Same H H' → H' e = some (.xd (fs_InvalidPage (.int 0))) → E (.ref CP) (some e) H'))
def ltxN (ns : List Nat) : List V := ns.map fun n => V.str (SX.S (nt n))
theorem ltxN_eq (ns : List Nat) : ltxN ns = ltx (ns.map nt) := by simp [ltxN, ltx]
section
variable {P : Program} {w : World} {K : PySem.W.Frag} {mg : Str → Option Value} {base : Heap}
theorem ok_first_wrong (T : Tx K mg) : FnOk P w K mg base CX0 2 T.f_first_wrong T.fd_first_wrong P_first_wrong (spFirst K) := by
  have G_is_sequence : FnOk P w K mg base CX0 1 T.f_is_sequence T.fd_is_sequence P_is_sequence (spSeqG K) := ok_is_sequenceG T
  have G_is_number : FnOk P w K mg base CX0 1 T.f_is_number T.fd_is_number P_is_number (spNumG K) := ok_is_numberG T
  refine T.F_first_wrong.ok sc_first_wrong (fun vs H Q E h => ?_) (fun cdv A outer s H vs Q E hr h => ?_)
  · obtain ⟨x, d, rfl, _⟩ := h
    rfl
  · obtain ⟨x, d, rfl, ho, k⟩ := h
    refine ⟨_, (pss_cons (ps_if (pt_not (pt_val (pe_call G_is_sequence (hr.mono (by decide)) rfl T.m_is_sequence T.F_is_sequence.kp T.b_is_sequence .nil pass0 (pa_cons (pv 0) (pa_cons (pv 1) (pa_cons (pv 2) pa_nil)))))) (pss_one (ps_ret (pe_un un_neg pe_int))) pss_nil)
        (pss_cons (ps_for PassesOwn.never rfl (pi_or (pi_enum rfl T.n_enumerate (pa_cons (pv 0) pa_nil)) (pi_enumT rfl T.n_enumerate (pa_cons (pv 0) pa_nil))) (pg_tup rfl (pgs_cons (pg_name (i := 5) sc_first_wrong.nd rfl (Or.inl rfl)) (pgs_cons (pg_name (i := 6) sc_first_wrong.nd rfl (Or.inl rfl)) pgs_nil))) (pss_one (ps_if (pt_not (pt_val (pe_call G_is_number (hr.mono (by decide)) rfl T.m_is_number T.F_is_number.kp T.b_is_number .nil pass0 (pa_cons (pv 6) (pa_cons (pv 3) (pa_cons (pv 4) pa_nil)))))) (pss_one (ps_ret (pv 5))) pss_nil)))
        (pss_one (ps_ret pe_non)))), ?_⟩
    refine ⟨_, rfl, _, rfl, _, rfl, x, d, 2000, rfl, ho, fun H1 b s1 hb => ⟨b, rfl, ?_⟩⟩
    cases ho with
    | non h n =>
      have e : b = false := by
        cases b with
        | false => rfl
        | true => obtain ⟨xs, z, _⟩ := hb.mp rfl; cases z
      subst e
      exact iteT ⟨_, rfl, k H1 s1⟩
    | @seq a xs hs hit hl =>
      by_cases hx : xs.length ≤ 2000
      case neg =>
        have e : b = false := by
          cases b with
          | false => rfl
          | true => obtain ⟨ys, z, z2⟩ := hb.mp rfl; cases z; omega
        subst e
        refine iteT ⟨_, rfl, ?_⟩
        have z := k H1 s1
        dsimp only [wrV] at z
        rw [if_neg hx] at z
        exact z
      rw [hb.mpr ⟨xs, rfl, by omega⟩]
      refine iteF ?_
      have kk : ∀ H', Same H H' → Q (match badAt xs 0 with
          | none => V.non
          | some i => V.int (i : Nat)) H' := fun H' sm => by
        have z := k H' sm
        dsimp only [wrV] at z
        rw [if_pos hx] at z
        exact z
      rcases hs.same s1 with ha1 | ha1
      · refine .inl ⟨_, rfl, a, xs, rfl, SqL.of ha1, for_it (walk_enum (xs := xs)) (fun i σ H' => ∃ v5 v6 : Option V, σ = [some (.ref a), some (.int 0), some (.int 2000), some (.int 0), some (.int 199), v5, v6] ∧ badAt xs 0 = badAt (xs.drop i) i ∧ Same H1 H') ⟨_, _, rfl, rfl, fun _ _ e => e⟩ (fun i σ H' _ ⟨_, _, _, _, sm⟩ => SqL.of (sm _ _ ha1)) ?_ ?_⟩
        · rintro i x σ H3 H4 hi ⟨v5, v6, rfl, hf, s3⟩ ⟨tp, x1, y1, rfl, ht, rfl, hx1, hy1⟩
          cases hx1
          replace hy1 : xs[i]? = some y1 := hy1
          have sn : Same H1 (upd H3 tp (.tup [V.int (i : Int), y1])) := s3.trans (Same.new _ ht)
          have hy : It K (upd H3 tp (.tup [V.int (i : Int), y1])) y1 := ((hit y1 (List.mem_of_getElem? hy1)).same s1).same sn
          have hd : xs.drop i = y1 :: xs.drop (i + 1) := by
            have hi2 := (List.getElem?_eq_some_iff.mp hy1).1
            rw [List.drop_eq_getElem_cons hi2]
            congr 1
            exact Option.some.inj ((List.getElem?_eq_getElem hi2).symm.trans hy1)
          rw [hd] at hf
          refine ⟨tp, _, rfl, SqT.of upd_same, rfl, _, _, rfl, _, _, rfl, rfl, ?_⟩
          generalize upd H3 tp (.tup [V.int (i : Int), y1]) = H5 at *
          refine ⟨_, rfl, _, rfl, _, rfl, y1, 199, rfl, hy, fun b hb => ⟨b, rfl, ?_⟩⟩
          cases b with
          | false =>
            refine iteT ⟨_, rfl, ?_⟩
            have e : okI y1 = false := by
              cases y1 with
              | int k => exact decide_eq_false fun z => Bool.noConfusion (hb.mpr ⟨k, rfl, z.1, z.2⟩)
              | _ => rfl
            have z := kk H5 (s1.trans sn)
            have q : badAt (y1 :: xs.drop (i + 1)) i = some i := by
              show (if okI y1 = true then _ else some i) = _
              rw [e, if_neg (by decide)]
            rw [hf, q] at z
            exact z
          | true =>
            obtain ⟨k, rfl, k0, k1⟩ := hb.mp rfl
            refine iteF ⟨_, _, rfl, ?_, sn⟩
            rw [hf]
            show (if okI (.int k) = true then badAt (xs.drop (i + 1)) (i + 1) else some i) = _
            rw [if_pos (show okI (.int k) = true from decide_eq_true ⟨k0, k1⟩)]
        · rintro σ H3 ⟨v5, v6, rfl, hf, s3⟩
          have z := kk H3 (s1.trans s3)
          rw [hf, List.drop_length] at z
          exact z
      · refine .inr ⟨_, rfl, a, xs, rfl, SqT.of ha1, for_it (walk_enumT (xs := xs)) (fun i σ H' => ∃ v5 v6 : Option V, σ = [some (.ref a), some (.int 0), some (.int 2000), some (.int 0), some (.int 199), v5, v6] ∧ badAt xs 0 = badAt (xs.drop i) i ∧ Same H1 H') ⟨_, _, rfl, rfl, fun _ _ e => e⟩ (fun i σ H' _ ⟨_, _, _, _, sm⟩ => SqT.of (sm _ _ ha1)) ?_ ?_⟩
        · rintro i x σ H3 H4 hi ⟨v5, v6, rfl, hf, s3⟩ ⟨tp, x1, y1, rfl, ht, rfl, hx1, hy1⟩
          cases hx1
          replace hy1 : xs[i]? = some y1 := hy1
          have sn : Same H1 (upd H3 tp (.tup [V.int (i : Int), y1])) := s3.trans (Same.new _ ht)
          have hy : It K (upd H3 tp (.tup [V.int (i : Int), y1])) y1 := ((hit y1 (List.mem_of_getElem? hy1)).same s1).same sn
          have hd : xs.drop i = y1 :: xs.drop (i + 1) := by
            have hi2 := (List.getElem?_eq_some_iff.mp hy1).1
            rw [List.drop_eq_getElem_cons hi2]
            congr 1
            exact Option.some.inj ((List.getElem?_eq_getElem hi2).symm.trans hy1)
          rw [hd] at hf
          refine ⟨tp, _, rfl, SqT.of upd_same, rfl, _, _, rfl, _, _, rfl, rfl, ?_⟩
          generalize upd H3 tp (.tup [V.int (i : Int), y1]) = H5 at *
          refine ⟨_, rfl, _, rfl, _, rfl, y1, 199, rfl, hy, fun b hb => ⟨b, rfl, ?_⟩⟩
          cases b with
          | false =>
            refine iteT ⟨_, rfl, ?_⟩
            have e : okI y1 = false := by
              cases y1 with
              | int k => exact decide_eq_false fun z => Bool.noConfusion (hb.mpr ⟨k, rfl, z.1, z.2⟩)
              | _ => rfl
            have z := kk H5 (s1.trans sn)
            have q : badAt (y1 :: xs.drop (i + 1)) i = some i := by
              show (if okI y1 = true then _ else some i) = _
              rw [e, if_neg (by decide)]
            rw [hf, q] at z
            exact z
          | true =>
            obtain ⟨k, rfl, k0, k1⟩ := hb.mp rfl
            refine iteF ⟨_, _, rfl, ?_, sn⟩
            rw [hf]
            show (if okI (.int k) = true then badAt (xs.drop (i + 1)) (i + 1) else some i) = _
            rw [if_pos (show okI (.int k) = true from decide_eq_true ⟨k0, k1⟩)]
        · rintro σ H3 ⟨v5, v6, rfl, hf, s3⟩
          have z := kk H3 (s1.trans s3)
          rw [hf, List.drop_length] at z
          exact z
theorem ok_write_row (T : Tx K mg) : FnOk P w K mg base (L2.CX P w) 5 T.f_write_row T.fd_write_row P_write_row (spWriteRow K T.C_InvalidRow) := by
  have G_first_wrong : FnOk P w K mg base CX0 2 T.f_first_wrong T.fd_first_wrong P_first_wrong (spFirst K) := ok_first_wrong T
  refine T.F_write_row.okX sc_write_row (fun vs H Q E h => ?_) (fun cdv A outer s H vs Q E hr h => ?_)
  · obtain ⟨x, d, rfl, _⟩ := h
    rfl
  · obtain ⟨x, d, rfl, ho, h⟩ := h
    refine ⟨_, (pss_cons (ps_set (i := 1) sc_write_row.nd rfl (Or.inl rfl) (pe_call G_first_wrong (hr.mono (by decide)) rfl T.m_first_wrong T.F_first_wrong.kp T.b_first_wrong .nil pass0 (pa_cons (pv 0) (pa_cons pe_int (pa_cons (pe_glob (v := V.int 2000) rfl T.g_MOST_ITEMS ⟨_, rfl⟩) (pa_cons pe_int (pa_cons (pe_op op_sub (pe_glob (v := V.int 200) rfl T.g_MOST_ARCS ⟨_, rfl⟩) pe_int) pa_nil)))))))
        (pss_cons (ps_if (pt_cmpR op_notN (pv 1) pe_non (nomark _)) (pss_one (ps_raise rfl (takes_of rfl rfl rfl rfl) (pmk_InvalidRow (k := 3) T.X_InvalidRow (hr.mono (by decide)) (pa_cons (pv 1) pa_nil)))) pss_nil)
        (pss_one (ps_ret (pe_ifExp (pt_truth (pv 0) (by intro _; rfl)) (pe_join pe_str (pe_lc (own := [("number", 2)]) (g := (gName 2)) rfl sc_write_row.nd (pi_or (pi_list (pv 0)) (pi_tup (pv 0))) (blkOk_by (N := N_write_row) (sc := defScope s_write_row) (by decide +kernel)) (fun _ _ _ _ _ => (pg_name (i := 2) sc_write_row.nd rfl (Or.inl rfl))) (fun _ _ _ _ _ => pts_nil) (fun _ _ _ _ _ => (pe_callTy call_str_int rfl T.n_str (by decide +kernel) (pa_cons (pv 2) pa_nil))))) (pe_glob (v := V.str "-") rfl T.g_EMPTY_ROW ⟨_, rfl⟩)))))), ?_⟩
    refine ⟨_, rfl, _, _, rfl, rfl, x, d, rfl, ho, fun H1 s1 => ?_⟩
    rcases h with ⟨ns, rfl, hn, hl, k⟩ | ⟨i, e, k⟩
    case inr =>
      rw [e]
      refine ⟨_, rfl, rfl, true, congrArg V.bl (by simp), iteT ?_⟩
      refine ⟨_, rfl, _, rfl, fun e he => ?_⟩
      exact k _ e (s1.trans (Same.new _ he)) upd_same
    have e : wrV (some (nsV ns)) = .non := by
      dsimp only [wrV]
      rw [if_pos (by rw [nsV_len]; exact hl), badAt_ns ns hn 0]
    rw [e]
    refine ⟨_, rfl, rfl, false, congrArg V.bl (by simp), iteF ?_⟩
    cases ho with
    | @seq a xs hs hit hxl =>
      have hs1 := hs.same s1
      have tru : TruV K (.ref a) H1 (!(nsV ns).isEmpty) := hs1.elim (fun z => .inl ⟨_, SqL.of z, rfl⟩) (fun z => .inr (.inl ⟨_, SqT.of z, rfl⟩))
      refine ⟨_, rfl, _, tru, ?_⟩
      by_cases e0 : ns = []
      · subst e0
        exact k H1 s1
      · have e1 : (!(nsV ns).isEmpty) = true := by
          cases ns with
          | nil => exact absurd rfl e0
          | cons _ _ => rfl
        rw [e1]
        have step : ∀ (i : Nat) (y : V) (D : Addr) (H2 : Hp), H1 D = none → (nsV ns)[i]? = some y → H2 D = some (.lst (ltxN (ns.take i))) → Same H1 H2 → ∃ n : Nat, y = .int (n : Int) ∧ n < 200 ∧
            (ltxN (ns.take i)).length < sizeLine ∧ upd H2 D (.lst (ltxN (ns.take i) ++ [.str (Str.ofString (toString (n : Int)))])) D = some (.lst (ltxN (ns.take (i + 1)))) := fun i y D H2 hD hy hDl sm => by
          unfold nsV at hy
          rw [List.getElem?_map] at hy
          obtain ⟨n, hn2, rfl⟩ := Option.map_eq_some_iff.mp hy
          refine ⟨n, rfl, hn n (List.mem_of_getElem? hn2), lt_size (by unfold ltxN; rw [List.length_map, List.length_take]; omega), ?_⟩
          rw [upd_same, ← take_snoc hn2]
          simp only [ltxN, List.map_append, List.map_cons, List.map_nil, nt_S]
        have fin : ∀ (D : Addr) (H2 : Hp), H2 D = some (.lst (ltxN (ns.take (nsV ns).length))) → Same H1 H2 → ∃ a p, ∃ ys : List Str, V.str (Str.ofString " ") = .str a ∧ [V.ref D] = [.ref p] ∧ (SqL K H2 p (ys.map V.str) ∨ SqT K H2 p (ys.map V.str)) ∧ (ys.map (·.length)).sum + ys.length * a.length ≤ 16777216 ∧ Q (.str (Txt.join a ys)) H2 := fun D H2 hDl sm => by
          rw [nsV_len, List.take_length, ltxN_eq, ltx_str] at hDl
          refine ⟨_, _, _, rfl, rfl, .inl (SqL.of hDl), ?_, ?_⟩
          · have q := sum_le (ns.map nt) 3 (fun l hl => by
              obtain ⟨n, hn2, rfl⟩ := List.mem_map.mp hl
              exact (nt_facts n (hn n hn2)).2.2.2)
            have z : (Str.ofString " ").length = 1 := rfl
            rw [z, Nat.mul_one, List.length_map]
            rw [List.length_map] at q ⊢
            omega
          · have z : Txt.join (Str.ofString " ") ((ns.map nt).map SX.S) = SX.S (lineOf ns) := by
              unfold lineOf
              rw [if_neg e0]
              exact SX.join_S [32] (ns.map nt)
            rw [z]
            exact k H2 (s1.trans sm)
        rcases hs1 with ha | ha
        · refine ⟨⟨_, rfl⟩, .inl ⟨_, rfl, a, rfl, ⟨_, SqL.of ha⟩, fun D hD => lc_list (K := K) (a := a) (xs := nsV ns) (fun i H' => H' D = some (.lst (ltxN (ns.take i))) ∧ Same H1 H') ⟨upd_same, Same.new _ hD⟩ (fun i H' _ ⟨_, sm⟩ => SqL.of (sm _ _ ha)) ?_ (fun H2 ⟨hDl, sm⟩ => fin D H2 hDl sm)⟩⟩
          rintro i y H2 hy ⟨hDl, sm⟩
          obtain ⟨n, rfl, hn2, hlt, hup⟩ := step i y D H2 hD hy hDl sm
          exact ⟨rfl, _, rfl, _, rfl, Nat.lt_of_le_of_lt (Nat.log2_le_self _) (by omega), _, hDl, hlt, hup, sm.updNew hD⟩
        · refine ⟨⟨_, rfl⟩, .inr ⟨_, rfl, a, rfl, ⟨_, SqT.of ha⟩, fun D hD => lc_tup (K := K) (a := a) (xs := nsV ns) (fun i H' => H' D = some (.lst (ltxN (ns.take i))) ∧ Same H1 H') ⟨upd_same, Same.new _ hD⟩ (fun i H' _ ⟨_, sm⟩ => SqT.of (sm _ _ ha)) ?_ (fun H2 ⟨hDl, sm⟩ => fin D H2 hDl sm)⟩⟩
          rintro i y H2 hy ⟨hDl, sm⟩
          obtain ⟨n, rfl, hn2, hlt, hup⟩ := step i y D H2 hD hy hDl sm
          exact ⟨rfl, _, rfl, _, rfl, Nat.lt_of_le_of_lt (Nat.log2_le_self _) (by omega), _, hDl, hlt, hup, sm.updNew hD⟩
theorem ok_read_row (T : Tx K mg) : FnOk P w K mg base (L2.CX P w) 5 T.f_read_row T.fd_read_row P_read_row (spReadRow K T.C_InvalidPage) := by
  have G_numbers_up_to : FnOk P w K mg base CX0 1 T.f_numbers_up_to T.fd_numbers_up_to P_numbers_up_to spNums := ok_numbers_up_to T
  refine T.F_read_row.okX sc_read_row (fun vs H Q E h => ?_) (fun cdv A outer s H vs Q E hr h => ?_)
  · obtain ⟨x, rfl, _⟩ := h
    rfl
  · obtain ⟨x, rfl, h⟩ := h
    refine ⟨_, (pss_cons (ps_if (pt_not (pt_val (pe_callB (call_isiZ (K := K) rfl) rfl T.n_isinstance (by decide +kernel) (pa_cons (pv 0) (pa_cons (pe_bltn (v := V.ty "str") (u := .type "str") rfl T.n_str (by decide +kernel) rfl) pa_nil))))) (pss_one (ps_raise rfl (takes_of rfl rfl rfl rfl) (pmk_InvalidPage (k := 3) T.X_InvalidPage (hr.mono (by decide)) (pa_cons pe_int pa_nil)))) pss_nil)
        (pss_cons (ps_if (pt_cmpR op_eq (pv 0) (pe_glob (v := V.str "-") rfl T.g_EMPTY_ROW ⟨_, rfl⟩) (nomark _)) (pss_one (ps_ret (pe_lst pa_nil))) pss_nil)
        (pss_cons (ps_set (i := 1) sc_read_row.nd rfl (Or.inr rfl) (pe_call G_numbers_up_to (hr.mono (by decide)) rfl T.m_numbers_up_to T.F_numbers_up_to.kp T.b_numbers_up_to .nil pass0 (pa_cons (pe_op op_sub (pe_glob (v := V.int 200) rfl T.g_MOST_ARCS ⟨_, rfl⟩) pe_int) pa_nil)))
        (pss_cons (ps_set (i := 2) sc_read_row.nd rfl (Or.inl rfl) (pe_bm PySem.F.plainAttrs_str PySem.F.slot_str_split PySem.F.type_str_split mt_split (pv 0) (pa_cons pe_str pa_nil)))
        (pss_cons (ps_if (PW.pt (pw_or (pt_cmpR op_gt (pe_callB (call_len_seqK (K := K) rfl) rfl T.n_len (by decide +kernel) (pa_cons (pv 2) pa_nil)) (pe_glob (v := V.int 2000) rfl T.g_MOST_ITEMS ⟨_, rfl⟩) (nomark _)) (pw_or1 (pt_not (pt_val (pe_callB (cr_allK (K := K) rfl rfl) rfl T.n_all (by decide +kernel) (pa_cons (pe_lc (own := [("part", 3)]) (g := (gName 3)) rfl sc_read_row.nd (pi_list (pv 2)) (blkOk_by (N := N_read_row) (sc := defScope s_read_row) (by decide +kernel)) (fun _ _ _ _ _ => (pg_name (i := 3) sc_read_row.nd rfl (Or.inl rfl))) (fun _ _ _ _ _ => pts_nil) (fun _ _ _ _ _ => (pe_cmp (pc_din (hu_of hr) (pv 3) (pv 1)) rfl))) pa_nil))))))) (pss_one (ps_raise rfl (takes_of rfl rfl rfl rfl) (pmk_InvalidPage (k := 3) T.X_InvalidPage (hr.mono (by decide)) (pa_cons pe_int pa_nil)))) pss_nil)
        (pss_one (ps_ret (pe_lc (own := [("part", 3)]) (g := (gName 3)) rfl sc_read_row.nd (pi_list (pv 2)) (blkOk_by (N := N_read_row) (sc := defScope s_read_row) (by decide +kernel)) (fun _ _ _ _ _ => (pg_name (i := 3) sc_read_row.nd rfl (Or.inl rfl))) (fun _ _ _ _ _ => pts_nil) (fun _ _ _ _ _ => (pe_dget (hu_of hr) (pv 1) (pv 3) (fun _ _ => rfl))))))))))), ?_⟩
    rcases h with ⟨l, rfl, hl, h⟩ | ⟨t, ht, hk, k⟩
    case inr =>
      refine ⟨_, rfl, _, _, _, _, false, rfl, .ty "str", ht, hk, false, rfl, iteT ?_⟩
      refine ⟨_, rfl, fun e he => ?_⟩
      exact k _ e (Same.new _ he) upd_same
    refine ⟨_, rfl, _, _, _, _, true, rfl, .ty "str", .x (.base (.str _)), kit_ty (by decide +kernel), true, rfl, iteF ?_⟩
    refine ⟨_, rfl, rfl, _, rfl, ?_⟩
    refine ite2 (fun c => ?_) (fun c => ?_)
    · have c1 := of_decide_eq_true c
      injection c1 with c1
      have e : l = [45] := SX.S_inj c1
      subst e
      rcases h with ⟨ns, hr, k⟩ | ⟨hr, _⟩
      · obtain rfl : [] = ns := Option.some.inj hr
        exact ⟨le_size (by simp), fun q hq => k _ q (Same.new _ hq) hq upd_same⟩
      · cases hr
    · have c1 : l ≠ [45] := fun z => c (decide_eq_true (by rw [z]; rfl))
      refine ⟨_, _, rfl, rfl, 199, rfl, by decide, fun H1 d s1 d0 hd => ?_⟩
      refine ⟨_, rfl, rfl, _, _, rfl, rfl, rfl, le_size (by rw [SX.S_len]; omega), fun q hq => ?_⟩
      have e0 : Txt.split (SX.S l) (Str.ofString " ") = (partsOf l).map SX.S := split_at (c := 32) (by decide)
      rw [e0, ← ltx_str]
      have s2 : Same H1 (upd H1 q (.lst (ltx (partsOf l)))) := Same.new _ hq
      have gq : upd H1 q (.lst (ltx (partsOf l))) q = some (.lst (ltx (partsOf l))) := upd_same
      have s12 := s1.trans s2
      replace hd := s2 _ _ hd
      generalize upd H1 q (.lst (ltx (partsOf l))) = H2 at *
      have hdr : readR l = if (partsOf l).length ≤ 2000 ∧ (partsOf l).all numB = true then some ((partsOf l).map numV) else none := by
        unfold readR
        rw [if_neg c1]
      generalize partsOf l = ps at *
      have bad : ¬ (ps.length ≤ 2000 ∧ ps.all numB = true) → ∀ H' e, Same H H' → H' e = some (.xd (fs_InvalidPage (.int 0))) → E (.ref T.C_InvalidPage) (some e) H' := fun hb => by
        rw [if_neg hb] at hdr
        rcases h with ⟨ns, hr, _⟩ | ⟨_, k⟩
        · rw [hdr] at hr; cases hr
        · exact k
      have dg : ∀ {H' : Hp} (u : List Nat), Same H2 H' → DGet H' d (.str (SX.S u)) ((numOf u).map fun n : Nat => V.int (n : Int)) := fun u sm => .inl ⟨_, .inr (SX.S u), .inl (sm _ _ hd), rfl, (nd_val u).symm⟩
      refine ⟨_, rfl, q, _, rfl, .inl (SqL.of gq), _, _, rfl, rfl, _, rfl, ?_⟩
      refine ite2 (fun c2 => ?_) (fun c2 => ?_)
      · have c3 := of_decide_eq_true c2
        rw [ltx_len] at c3
        refine ⟨_, rfl, fun e he => ?_⟩
        exact bad (fun z => by have := z.1; omega) _ e (s12.trans (Same.new _ he)) upd_same
      · have c3 : ps.length ≤ 2000 := by
          have z : ¬ ((2000 : Int) < ((ltx ps).length : Int)) := fun z => c2 (decide_eq_true z)
          rw [ltx_len] at z
          omega
        refine ⟨_, rfl, q, rfl, ⟨_, SqL.of gq⟩, fun D hD => lc_list (K := K) (a := q) (xs := ltx ps) (fun i H' => H' D = some (.lst (((ps.take i).map numB).map V.bl)) ∧ Same H2 H') ⟨upd_same, Same.new _ hD⟩ (fun i H' _ ⟨_, sm⟩ => SqL.of (sm _ _ gq)) ?_ ?_⟩
        · rintro i y H3 hy ⟨hDl, sm⟩
          obtain ⟨u, hu, rfl⟩ := ltx_at hy
          refine ⟨rfl, _, rfl, _, rfl, d, _, rfl, dg u sm, ?_⟩
          refine ⟨_, hDl, lt_size (by rw [List.length_map, List.length_map, List.length_take]; omega), ?_, sm.updNew hD⟩
          rw [upd_same, ← take_snoc hu, List.map_append, List.map_append]
          show some (HO.lst (_ ++ [V.bl _])) = _
          rw [Option.isSome_map]
          rfl
        · rintro H3 ⟨hDl, sm⟩
          have e3 : (ps.take (ltx ps).length).map numB = ps.map numB := by rw [ltx_len, List.take_length]
          rw [e3] at hDl
          refine ⟨D, _, rfl, SqL.of hDl, _, rfl, ?_⟩
          have e4 : (ps.map numB).all id = ps.all numB := by rw [List.all_map]; rfl
          rw [e4]
          cases e5 : ps.all numB with
          | false =>
            refine iteT ⟨_, rfl, fun e he => ?_⟩
            exact bad (fun z => by rw [e5] at z; exact Bool.noConfusion z.2) _ e ((s12.trans sm).trans (Same.new _ he)) upd_same
          | true =>
            rw [if_pos ⟨c3, e5⟩] at hdr
            rcases h with ⟨ns, hr, k⟩ | ⟨hr, _⟩
            case inr => rw [hdr] at hr; cases hr
            obtain rfl : ps.map numV = ns := Option.some.inj (hdr.symm.trans hr)
            refine iteF ?_
            refine ⟨_, rfl, q, rfl, ⟨_, SqL.of (sm _ _ gq)⟩, fun D2 hD2 => lc_list (K := K) (a := q) (xs := ltx ps) (fun i H' => H' D2 = some (.lst (nsV ((ps.take i).map numV))) ∧ Same H3 H') ⟨upd_same, Same.new _ hD2⟩ (fun i H' _ ⟨_, sm3⟩ => SqL.of (sm3 _ _ (sm _ _ gq))) ?_ ?_⟩
            · rintro i y H4 hy ⟨hDl4, sm4⟩
              obtain ⟨u, hu, rfl⟩ := ltx_at hy
              have hb := List.all_eq_true.mp e5 u (List.mem_of_getElem? hu)
              have hv : (numOf u).map (fun n : Nat => V.int (n : Int)) = some (.int (numV u : Nat)) := by
                unfold numB at hb
                unfold numV
                cases en : numOf u with
                | none => rw [en] at hb; cases hb
                | some n => rfl
              have g := dg u (sm.trans sm4)
              rw [hv] at g
              refine ⟨rfl, _, rfl, _, rfl, d, _, rfl, g, ?_⟩
              refine ⟨_, hDl4, lt_size (by rw [nsV_len, List.length_map, List.length_take]; omega), ?_, sm4.updNew hD2⟩
              rw [upd_same, ← take_snoc hu, List.map_append, ← nsV_snoc]
              rfl
            · rintro H4 ⟨hDl4, sm4⟩
              rw [ltx_len, List.take_length] at hDl4
              have s4 := (s12.trans sm).trans sm4
              exact k H4 D2 s4 ((s12.trans sm).free hD2) hDl4
end
end J


set_option Elab.async false
set_option linter.all false
set_option maxRecDepth 100000
set_option maxHeartbeats 4000000
namespace J
open PySem L2
theorem exm_own {K : PySem.W.Frag} {D : Addr} (b : PySem.W.subIn K (.ref D) (.type "BaseException") = some true) (c : PySem.W.isClsIn K D = true) (t : PySem.W.typeIn K (.ref D) = some (.type "type")) (q : PySem.W.subIn K (.ref D) (.ref D) = some true) :
    PySem.W.exmOne K (.ref D) (.ref D) = some true := by
  have c' : (PySem.W.clsIn K D).isSome = true := c
  unfold PySem.W.exmOne
  simp [b, c', t, q, PySem.W.kitCls]
def Ch (l : List Nat) : Prop := ∀ c ∈ l, c < 1114112
theorem spl_sub (S : List Nat) : ∀ (r : List Nat) (k : Nat) (acc : List Nat), ∀ u ∈ TL.spl S k acc r, ∀ c ∈ u, c ∈ acc ∨ c ∈ r
  | [], k, acc, u, hu, c, hc => by
    rw [TL.spl_nil] at hu
    rw [List.mem_singleton.mp hu] at hc
    exact .inl hc
  | a :: r, 0, acc, u, hu, c, hc => by
    unfold TL.spl at hu
    split at hu
    · rcases List.mem_cons.mp hu with rfl | hu
      · exact .inl hc
      · rcases spl_sub S r _ _ u hu c hc with h | h
        · cases h
        · exact .inr (List.mem_cons_of_mem _ h)
    · rcases spl_sub S r _ _ u hu c hc with h | h
      · rcases List.mem_append.mp h with h | h
        · exact .inl h
        · rw [List.mem_singleton.mp h]; exact .inr (List.mem_cons_self ..)
      · exact .inr (List.mem_cons_of_mem _ h)
  | a :: r, k + 1, acc, u, hu, c, hc => by
    unfold TL.spl at hu
    rcases spl_sub S r _ _ u hu c hc with h | h
    · exact .inl h
    · exact .inr (List.mem_cons_of_mem _ h)
theorem parts_ch {l : List Nat} (h : Ch l) : ∀ u ∈ partsOf l, ∀ c ∈ u, c < 1114112 := fun u hu c hc => by
  rcases spl_sub [32] l 0 [] u hu c hc with z | z
  · cases z
  · exact h c z
def numD (ls : List Nat) : List PyData := ls.map fun n : Nat => .int (n : Int)
theorem dp_nums {K : PySem.W.Frag} {H : Hp} : ∀ ls : List Nat, DpAll K H (nsV ls) (numD ls)
  | [] => .nil
  | _ :: r => .cons (.int _) (dp_nums r)
theorem lay_nums : ∀ ls : List Nat, PyData.canLayAll0 (numD ls) = true
  | [] => rfl
  | _ :: r => by
    show (true && PyData.canLayAll0 (numD r)) = true
    rw [lay_nums r]
    rfl
theorem deep_nums : ∀ ls : List Nat, PyData.depthAll (numD ls) = 0
  | [] => by simp [numD, PyData.depthAll]
  | u :: r => by
    show max (PyData.depth (.int (u : Int))) (PyData.depthAll (numD r)) = 0
    rw [deep_nums r]
    simp [PyData.depth]
theorem shaped_nums (ls : List Nat) : SeqAt.shaped (.list (numD ls)) = true := by
  have q1 : PyData.canLay0 (.list (numD ls)) = true := lay_nums ls
  have q2 : PyData.depth (.list (numD ls)) ≤ 64 := by
    show PyData.depthAll (numD ls) + 1 ≤ 64
    rw [deep_nums]
    decide
  unfold SeqAt.shaped
  rw [q1, decide_eq_true q2]
  rfl
theorem ne_nums {K : PySem.W.Frag} {H : Hp} {a b : Addr} {ls : List Nat} {Q : VK} (ha : H a = some (.lst (nsV ls))) (hb : H b = some (.lst (nsV ls))) (q : Q (.bl false) H) : rNeD K (.ref a) (.ref b) H Q := by
  refine ⟨_, _, .lst (SqL.of ha) (dp_nums ls), .lst (SqL.of hb) (dp_nums ls), shaped_nums ls, shaped_nums ls, ?_⟩
  rw [SeqAt.eqv_refl _ (SeqAt.canLay_of_shaped (shaped_nums ls))]
  exact q
theorem flat_join (p : List Nat) : ∀ ps : List (List Nat), p ++ (ps.map fun u => 32 :: u).flatten = TL.joinL [32] (p :: ps)
  | [] => by simp [TL.joinL]
  | q :: r => by
    show p ++ ((32 :: q) ++ (r.map fun u => 32 :: u).flatten) = p ++ ([32] ++ TL.joinL [32] (q :: r))
    rw [← flat_join q r]
    simp
def bld (ns : List Nat) : List Nat := (ns.map fun n => 32 :: nt n).flatten
theorem bld_snoc (ns : List Nat) (n : Nat) : bld (ns ++ [n]) = bld ns ++ (32 :: nt n) := by simp [bld]
theorem bld_len : ∀ ns : List Nat, (∀ n ∈ ns, n < 200) → (bld ns).length ≤ 4 * ns.length
  | [], _ => by simp [bld]
  | a :: r, h => by
    have h1 := (nt_facts a (h a (by simp))).2.2.2
    have h2 := bld_len r fun n hn => h n (by simp [hn])
    unfold bld at *
    simp only [List.map_cons, List.flatten_cons, List.length_append, List.length_cons] at *
    omega
theorem bld_line {ns : List Nat} (h : ns ≠ []) : (bld ns).drop 1 = lineOf ns := by
  unfold lineOf
  rw [if_neg h]
  cases ns with
  | nil => exact absurd rfl h
  | cons a r =>
    show nt a ++ (r.map fun n => 32 :: nt n).flatten = TL.joinL [32] (nt a :: r.map nt)
    rw [← flat_join (nt a) (r.map nt), List.map_map]
    rfl
def pageT (H : Hp) (r : Addr) : Prop := H r = some (.tup [.str "page", .int 0])
def spLRead (K : PySem.W.Frag) : Sp := fun vs H Q _ => ∃ x : V, vs = [x] ∧ ((∃ l : List Nat, x = .str (SX.S l) ∧ l.length ≤ 50000 ∧ ((∃ ns, readR l = some ns ∧ ∀ H' (q : Addr), Same H H' → H q = none → H' q = some (.lst (nsV ns)) → Q (.ref q) H') ∨
  (readR l = none ∧ ∀ H' (r : Addr), Same H H' → H r = none → pageT H' r → Q (.ref r) H'))) ∨
  (∃ t, TyZ K H x t ∧ PySem.W.kitOne K t (.type "str") = some false ∧ ∀ H' (r : Addr), Same H H' → H r = none → pageT H' r → Q (.ref r) H'))
def spLWritten (K : PySem.W.Frag) : Sp := fun vs H Q _ => ∃ (x : V) (d : Option (List V)), vs = [x] ∧ Thg K H x d ∧ ((∃ ns, d = some (nsV ns) ∧ (∀ n ∈ ns, n < 200) ∧ ns.length ≤ 2000 ∧ ∀ H', Same H H' → Q (.str (SX.S (lineOf ns))) H') ∨
  (∃ i : Int, wrV d = .int i ∧ ∀ H' (r : Addr), Same H H' → H r = none → H' r = some (.tup [.str "row", .int i]) → Q (.ref r) H'))
def spLLine (K : PySem.W.Frag) : Sp := fun vs H Q _ => ∃ (a : Addr) (ns : List Nat), vs = [.ref a] ∧ H a = some (.lst (nsV ns)) ∧ (∀ n ∈ ns, n < 200) ∧ ns.length ≤ 2000 ∧ Q (.str (SX.S (lineOf ns))) H
def spLDue : Sp := fun vs H Q _ => ∃ l : List Nat, vs = [.str (SX.S l)] ∧ l.length ≤ 50000 ∧ Ch l ∧ ((∃ ns, readR l = some ns ∧ ∀ H' (q : Addr), Same H H' → H q = none → H' q = some (.lst (nsV ns)) → Q (.ref q) H') ∨ (readR l = none ∧ ∀ H', Same H H' → Q .non H'))
def spSameL : Sp := fun vs H Q _ => ∃ (a b : Addr) (ns : List Nat), vs = [.ref a, .ref b] ∧ H a = some (.lst (nsV ns)) ∧ H b = some (.lst (nsV ns)) ∧ ns.length ≤ 5000 ∧ ∀ H', Same H H' → Q (.bl true) H'
section
variable {P : Program} {w : World} {K : PySem.W.Frag} {mg : Str → Option Value} {base : Heap}
theorem ok_l_read (T : Tx K mg) : FnOk P w K mg base CX0 6 T.f_l_read T.fd_l_read P_l_read (spLRead K) := by
  have G_read_row : FnOk P w K mg base (L2.CX P w) 5 T.f_read_row T.fd_read_row P_read_row (spReadRow K T.C_InvalidPage) := ok_read_row T
  refine T.F_l_read.ok sc_l_read (fun vs H Q E h => ?_) (fun cdv A outer s H vs Q E hr h => ?_)
  · obtain ⟨x, rfl, _⟩ := h
    rfl
  · obtain ⟨x, rfl, h⟩ := h
    have xf : XfC K T.C_InvalidPage := ⟨T.E_InvalidPage.hg, T.E_InvalidPage.hk, T.E_InvalidPage.hs, T.E_InvalidPage.hd⟩
    refine ⟨_, pss_one (ps_try_cls (Wout := fun _ _ _ _ => False) rfl rfl takes0
      (fun W pn xe tk _ => pss_one (ps_ret (by exact (pe_callS G_read_row (hr.mono (by decide)) rfl T.m_read_row T.F_read_row.kp T.b_read_row (fun σ => passAt tk σ) (pa_cons (pv 0) pa_nil)))))
      (.named (i := 1) ⟨rfl, by decide, Or.inl T.g_InvalidPage⟩ sc_l_read.nd rfl rfl (fun g oe cls d pn hz hf => pss_one (ps_ret (by exact (pe_tup (pa_cons pe_str (pa_cons (pe_xf xf T.nx_InvalidPage_line hz hf (pv 1)) pa_nil)))))) .nil)), ?_⟩
    have err : ∀ (k : ∀ H' (r : Addr), Same H H' → H r = none → pageT H' r → Q (.ref r) H'), ∀ H' e, Same H H' → H' e = some (.xd (fs_InvalidPage (.int 0))) → _ := fun k H' e sm he => True.intro
    rcases h with ⟨l, rfl, hl, h⟩ | ⟨t, ht, hk, k⟩
    · refine ⟨_, rfl, _, rfl, .inl ⟨l, rfl, hl, ?_⟩⟩
      rcases h with ⟨ns, hr2, k⟩ | ⟨hr2, k⟩
      · exact .inl ⟨ns, hr2, k⟩
      · refine .inr ⟨hr2, fun H1 e s1 he => ?_⟩
        refine ⟨true, exm_own T.E_InvalidPage.hs T.cl_InvalidPage T.ty_InvalidPage T.ss_InvalidPage, fun _ g hg => ?_, fun e => Bool.noConfusion e⟩
        refine ⟨_, rfl, rfl, rfl, e, _, _, rfl, he, rfl, ?_⟩
        refine ⟨le_size (by simp), fun r hr3 => ?_⟩
        exact k _ r (s1.trans (Same.new _ hr3)) (s1.free hr3) upd_same
    · refine ⟨_, rfl, _, rfl, .inr ⟨t, ht, hk, fun H1 e s1 he => ?_⟩⟩
      refine ⟨true, exm_own T.E_InvalidPage.hs T.cl_InvalidPage T.ty_InvalidPage T.ss_InvalidPage, fun _ g hg => ?_, fun e => Bool.noConfusion e⟩
      refine ⟨_, rfl, rfl, rfl, e, _, _, rfl, he, rfl, ?_⟩
      refine ⟨le_size (by simp), fun r hr3 => ?_⟩
      exact k _ r (s1.trans (Same.new _ hr3)) (s1.free hr3) upd_same
theorem ok_l_written (T : Tx K mg) : FnOk P w K mg base CX0 6 T.f_l_written T.fd_l_written P_l_written (spLWritten K) := by
  have G_write_row : FnOk P w K mg base (L2.CX P w) 5 T.f_write_row T.fd_write_row P_write_row (spWriteRow K T.C_InvalidRow) := ok_write_row T
  refine T.F_l_written.ok sc_l_written (fun vs H Q E h => ?_) (fun cdv A outer s H vs Q E hr h => ?_)
  · obtain ⟨x, d, rfl, _⟩ := h
    rfl
  · obtain ⟨x, d, rfl, ho, h⟩ := h
    have xf : XfC K T.C_InvalidRow := ⟨T.E_InvalidRow.hg, T.E_InvalidRow.hk, T.E_InvalidRow.hs, T.E_InvalidRow.hd⟩
    refine ⟨_, pss_one (ps_try_cls (Wout := fun _ _ _ _ => False) rfl rfl takes0
      (fun W pn xe tk _ => pss_one (ps_ret (by exact (pe_callS G_write_row (hr.mono (by decide)) rfl T.m_write_row T.F_write_row.kp T.b_write_row (fun σ => passAt tk σ) (pa_cons (pv 0) pa_nil)))))
      (.named (i := 1) ⟨rfl, by decide, Or.inl T.g_InvalidRow⟩ sc_l_written.nd rfl rfl (fun g oe cls d pn hz hf => pss_one (ps_ret (by exact (pe_tup (pa_cons pe_str (pa_cons (pe_xf xf T.nx_InvalidRow_at hz hf (pv 1)) pa_nil)))))) .nil)), ?_⟩
    rcases h with ⟨ns, hd, hn, hl, k⟩ | ⟨i, e, k⟩
    · exact ⟨_, rfl, x, d, rfl, ho, .inl ⟨ns, hd, hn, hl, k⟩⟩
    · refine ⟨_, rfl, x, d, rfl, ho, .inr ⟨i, e, fun H1 e s1 he => ?_⟩⟩
      refine ⟨true, exm_own T.E_InvalidRow.hs T.cl_InvalidRow T.ty_InvalidRow T.ss_InvalidRow, fun _ g hg => ?_, fun e => Bool.noConfusion e⟩
      refine ⟨_, rfl, rfl, rfl, e, _, _, rfl, he, rfl, ?_⟩
      refine ⟨le_size (by simp), fun r hr3 => ?_⟩
      exact k _ r (s1.trans (Same.new _ hr3)) (s1.free hr3) upd_same
theorem ok_l_line (T : Tx K mg) : FnOk P w K mg base CX0 1 T.f_l_line T.fd_l_line P_l_line (spLLine K) := by
  refine T.F_l_line.ok sc_l_line (fun vs H Q E h => ?_) (fun cdv A outer s H vs Q E hr h => ?_)
  · obtain ⟨a, ns, rfl, _⟩ := h
    rfl
  · obtain ⟨a, ns, rfl, ha, hn, hl, k⟩ := h
    refine ⟨_, (pss_cons (ps_set (i := 1) sc_l_line.nd rfl (Or.inl rfl) pe_str)
        (pss_cons (ps_for PassesOwn.never rfl (pi_list (pv 0)) (pg_name (i := 2) sc_l_line.nd rfl (Or.inl rfl)) (pss_one (ps_set (i := 1) sc_l_line.nd rfl (Or.inl rfl) (pe_op op_add_str (pe_op op_add_str (pv 1) pe_str) (pe_callTy call_str_int rfl T.n_str (by decide +kernel) (pa_cons (pv 2) pa_nil))))))
        (pss_one (ps_ret (pe_ifExp (pt_cmpR op_gt (pe_callB (call_len_seqK (K := K) rfl) rfl T.n_len (by decide +kernel) (pa_cons (pv 0) pa_nil)) pe_int (nomark _)) (pe_slice sl_str (pv 1) (po_some pe_int) po_none) pe_str))))), ?_⟩
    have e00 : V.str (Str.ofString "") = .str (SX.S []) := rfl
    refine ⟨_, rfl, a, rfl, ⟨_, SqL.of ha⟩, for_list (K := K) (a := a) (xs := nsV ns) (fun i σ H' => ∃ v2 : Option V, σ = [some (.ref a), some (.str (SX.S (bld (ns.take i)))), v2] ∧ H' = H) ?_ ?_ ?_ ?_⟩
    · exact ⟨none, rfl, rfl⟩
    · rintro i σ H' _ ⟨v2, rfl, rfl⟩
      exact SqL.of ha
    · rintro i y σ H' hy ⟨v2, rfl, rfl⟩
      unfold nsV at hy
      rw [List.getElem?_map] at hy
      obtain ⟨n, hn2, rfl⟩ := Option.map_eq_some_iff.mp hy
      have hnn := hn n (List.mem_of_getElem? hn2)
      have m0 : Le (SX.S (bld (ns.take i))) 8000 := by
        unfold Le
        rw [SX.S_len]
        have z := bld_len (ns.take i) fun c hc => hn c (List.mem_of_mem_take hc)
        rw [List.length_take] at z
        omega
      have m1 : Le (Str.ofString " ") 1 := Nat.le_refl 1
      have m2 : Le (Str.ofString (toString (n : Int))) 3 := by unfold Le; rw [nt_S, SX.S_len]; exact (nt_facts n hnn).2.2.2
      refine ⟨_, rfl, _, _, rfl, rfl, by unfold Le at *; exact le_size (by omega), ?_⟩
      refine ⟨_, rfl, _, rfl, Nat.lt_of_le_of_lt (Nat.log2_le_self _) (by omega), _, _, rfl, rfl, by have z := m0.app m1; unfold Le at *; exact le_size (by omega), ?_⟩
      have e2 : (SX.S (bld (ns.take i)) ++ Str.ofString " ") ++ Str.ofString (toString (n : Int)) = SX.S (bld (ns.take (i + 1))) := by
        show (SX.S (bld (ns.take i)) ++ SX.S [32]) ++ SX.S (nt n) = _
        rw [SX.S_cat, SX.S_cat, ← take_snoc hn2, bld_snoc]
        simp
      rw [e2]
      exact ⟨_, rfl, rfl⟩
    · rintro σ H' ⟨v2, rfl, rfl⟩
      rw [nsV_len, List.take_length]
      refine ⟨_, rfl, a, _, rfl, .inl (SqL.of ha), _, _, rfl, rfl, _, rfl, ?_⟩
      refine ite2 (fun c => ?_) (fun c => ?_)
      · have c1 := of_decide_eq_true c
        rw [nsV_len] at c1
        have hlb := bld_len ns hn
        refine ⟨_, rfl, _, rfl, _, rfl, le_size (by rw [SX.S_len]; omega), ?_⟩
        rw [C8.cutS_slice, SX.slice_from (by decide)]
        have z := bld_line (ns := ns) (fun z => by rw [z] at c1; simp at c1)
        show Q (.str (SX.S ((bld ns).drop 1))) _
        rw [z]
        exact k
      · have c1 : ns = [] := by
          cases ns with
          | nil => rfl
          | cons a r => exact absurd (decide_eq_true (by rw [nsV_len]; simp)) c
        subst c1
        exact k
theorem ok_l_same_lists (T : Tx K mg) : FnOk P w K mg base CX0 1 T.f_l_same_lists T.fd_l_same_lists P_l_same_lists spSameL := by
  refine T.F_l_same_lists.ok sc_l_same_lists (fun vs H Q E h => ?_) (fun cdv A outer s H vs Q E hr h => ?_)
  · obtain ⟨a, b, ns, rfl, _⟩ := h
    rfl
  · obtain ⟨a, b, ns, rfl, ha, hb, hl, k⟩ := h
    refine ⟨_, (pss_cons (ps_if (PW.pt (pw_or (pt_not (pt_val (pe_callB (call_isiK' (K := K) rfl) rfl T.n_isinstance (by decide +kernel) (pa_cons (pv 0) (pa_cons (pe_bltn (v := V.ty "list") (u := .type "list") rfl T.n_list (by decide +kernel) rfl) pa_nil))))) (pw_or1 (pt_cmpR (op_neD hr.units) (pv 0) (pv 1) (nomark _))))) (pss_one (ps_ret pe_bl)) pss_nil)
        (pss_one (ps_ret (pe_cmpR (op_eqD hr.units) (pe_lc (own := [("_law_number", 2)]) (g := (gName 2)) rfl sc_l_same_lists.nd (pi_list (pv 0)) (blkOk_by (N := N_l_same_lists) (sc := defScope s_l_same_lists) (by decide +kernel)) (fun _ _ _ _ _ => (pg_name (i := 2) sc_l_same_lists.nd rfl (Or.inl rfl))) (fun _ _ _ _ _ => (pts_one (PW.pt (pw_or (pt_val (pe_callB (call_isiK' (K := K) rfl) rfl T.n_isinstance (by decide +kernel) (pa_cons (pv 2) (pa_cons (pe_bltn (v := V.ty "bool") (u := .type "bool") rfl T.n_bool (by decide +kernel) rfl) pa_nil)))) (pw_or1 (pt_not (pt_val (pe_callB (call_isiK' (K := K) rfl) rfl T.n_isinstance (by decide +kernel) (pa_cons (pv 2) (pa_cons (pe_bltn (v := V.ty "int") (u := .type "int") rfl T.n_int (by decide +kernel) rfl) pa_nil)))))))))) (fun _ _ _ _ _ => pe_int)) (pe_lst pa_nil) (nomark _))))), ?_⟩
    refine ⟨_, rfl, _, _, _, _, true, rfl, .ty "list", .base (.lst ha), kit_ty (by decide +kernel), true, rfl, ?_⟩
    refine ⟨_, rfl, _, rfl, ne_nums ha hb ⟨false, rfl, ?_⟩⟩
    refine ⟨_, rfl, a, rfl, ⟨_, SqL.of ha⟩, fun D hD => lc_list (K := K) (a := a) (xs := nsV ns) (fun i H' => H' D = some (.lst []) ∧ Same H H') ⟨upd_same, Same.new _ hD⟩ (fun i H' _ ⟨_, sm⟩ => SqL.of (sm _ _ ha)) ?_ ?_⟩
    · rintro i y H1 hy ⟨hDl, sm⟩
      unfold nsV at hy
      rw [List.getElem?_map] at hy
      obtain ⟨n, _, rfl⟩ := Option.map_eq_some_iff.mp hy
      refine ⟨rfl, _, rfl, _, _, _, _, false, rfl, .ty "bool", .base (.int _), kit_ty (by decide +kernel), false, rfl, ?_⟩
      exact ⟨_, rfl, _, _, _, _, true, rfl, .ty "int", .base (.int _), kit_ty (by decide +kernel), true, rfl, hDl, sm⟩
    · rintro H1 ⟨hDl, sm⟩
      refine ⟨Nat.zero_le _, fun b2 hb2 => ?_⟩
      have s2 : Same H1 (upd H1 b2 (.lst [])) := Same.new _ hb2
      exact ⟨_, _, .lst (SqL.of (s2 _ _ hDl)) .nil, .lst (SqL.of upd_same) .nil, rfl, rfl, k _ (sm.trans s2)⟩
theorem ok_l_due (T : Tx K mg) : FnOk P w K mg base CX0 1 T.f_l_due T.fd_l_due P_l_due spLDue := by
  refine T.F_l_due.ok sc_l_due (fun vs H Q E h => ?_) (fun cdv A outer s H vs Q E hr h => ?_)
  · obtain ⟨l, rfl, _⟩ := h
    rfl
  · obtain ⟨l, rfl, hl, hch, h⟩ := h
    refine ⟨_, (pss_cons (ps_if (pt_cmpR op_eq (pv 0) pe_str (nomark _)) (pss_one (ps_ret (pe_lst pa_nil))) pss_nil)
        (pss_cons (ps_set (i := 1) sc_l_due.nd rfl (Or.inr rfl) pe_dnewK)
        (pss_cons (ps_for PassesOwn.never rfl (pi_range1 rfl T.n_range (pa_cons pe_int pa_nil)) (pg_name (i := 2) sc_l_due.nd rfl (Or.inl rfl)) (pss_one (ps_dput (hu_of hr) (pv 1) (pe_callTy call_str_int rfl T.n_str (by decide +kernel) (pa_cons (pv 2) pa_nil)) (pv 2) rfl)))
        (pss_cons (ps_set (i := 3) sc_l_due.nd rfl (Or.inl rfl) (pe_bm PySem.F.plainAttrs_str PySem.F.slot_str_split PySem.F.type_str_split mt_split (pv 0) (pa_cons pe_str pa_nil)))
        (pss_cons (ps_if (PW.pt (pw_or (pt_cmpR op_gt (pe_callB (call_len_seqK (K := K) rfl) rfl T.n_len (by decide +kernel) (pa_cons (pv 3) pa_nil)) pe_int (nomark _)) (pw_or1 (pt_cmpR (op_neD hr.units) (pe_lc (own := [("_law_part", 4)]) (g := (gName 4)) rfl sc_l_due.nd (pi_list (pv 3)) (blkOk_by (N := N_l_due) (sc := defScope s_l_due) (by decide +kernel)) (fun _ _ _ _ _ => (pg_name (i := 4) sc_l_due.nd rfl (Or.inl rfl))) (fun _ _ _ _ _ => (pts_one (pt_cmp (pc_dnotin (hu_of hr) (pv 4) (pv 1))))) (fun _ _ _ _ _ => (pv 4))) (pe_lst pa_nil) (nomark _))))) (pss_one (ps_ret pe_non)) pss_nil)
        (pss_one (ps_ret (pe_lc (own := [("_law_part", 4)]) (g := (gName 4)) rfl sc_l_due.nd (pi_list (pv 3)) (blkOk_by (N := N_l_due) (sc := defScope s_l_due) (by decide +kernel)) (fun _ _ _ _ _ => (pg_name (i := 4) sc_l_due.nd rfl (Or.inl rfl))) (fun _ _ _ _ _ => pts_nil) (fun _ _ _ _ _ => (pe_dget (hu_of hr) (pv 1) (pv 4) (fun _ _ => rfl))))))))))), ?_⟩
    refine ⟨_, rfl, rfl, _, rfl, ?_⟩
    refine ite2 (fun c => ?_) (fun c => ?_)
    · have c1 := of_decide_eq_true c
      injection c1 with c1
      have e : l = [45] := SX.S_inj c1
      subst e
      rcases h with ⟨ns, hr, k⟩ | ⟨hr, _⟩
      · obtain rfl : [] = ns := Option.some.inj hr
        exact ⟨le_size (by simp), fun q hq => k _ q (Same.new _ hq) hq upd_same⟩
      · cases hr
    · have c1 : l ≠ [45] := fun z => c (decide_eq_true (by rw [z]; rfl))
      intro d hd0
      have s1 : Same H (upd H d (.dK [])) := Same.new _ hd0
      have gd : upd H d (.dK []) d = some (.dK (nd 0)) := upd_same
      generalize upd H d (.dK []) = H1 at *
      refine ⟨200, rfl, by decide, by decide, for_range (lo := 0) (n := 200) (fun i σ H' => ∃ v2 : Option V, σ = [some (.str (SX.S l)), some (.ref d), v2, none, none] ∧ H' d = some (.dK (nd i)) ∧ Same H H') ?_ ?_ ?_⟩
      · exact ⟨none, rfl, gd, s1⟩
      · rintro i σ H2 hi ⟨v2, rfl, gd2, s2⟩
        have e0 : (0 : Int) + (i : Int) = (i : Int) := by omega
        rw [e0]
        refine ⟨_, rfl, _, rfl, _, rfl, _, rfl, Nat.lt_of_le_of_lt (Nat.log2_le_self _) (by omega), d, _, rfl, DPut.k (k := (.inr (SX.S (nt i)) : Key)) gd2 (lt_size (by rw [nd_len]; omega)), ?_⟩
        exact ⟨_, rfl, by rw [upd_same, nd_put (by omega)], s2.updNew hd0⟩
      · rintro σ H2 ⟨v2, rfl, hd, s12⟩
        refine ⟨_, rfl, rfl, _, _, rfl, rfl, rfl, le_size (by rw [SX.S_len]; omega), fun q hq => ?_⟩
        have e0 : Txt.split (SX.S l) (Str.ofString " ") = (partsOf l).map SX.S := split_at (c := 32) (by decide)
        rw [e0, ← ltx_str]
        have s2 : Same H2 (upd H2 q (.lst (ltx (partsOf l)))) := Same.new _ hq
        have gq : upd H2 q (.lst (ltx (partsOf l))) q = some (.lst (ltx (partsOf l))) := upd_same
        replace s12 := s12.trans s2
        replace hd := s2 _ _ hd
        generalize upd H2 q (.lst (ltx (partsOf l))) = H3 at *
        have hdr : readR l = if (partsOf l).length ≤ 2000 ∧ (partsOf l).all numB = true then some ((partsOf l).map numV) else none := by
          unfold readR
          rw [if_neg c1]
        have pch := parts_ch hch
        generalize partsOf l = ps at *
        have bad : ¬ (ps.length ≤ 2000 ∧ ps.all numB = true) → ∀ H', Same H H' → Q .non H' := fun hb => by
          rw [if_neg hb] at hdr
          rcases h with ⟨ns, hr, _⟩ | ⟨_, k⟩
          · rw [hdr] at hr; cases hr
          · exact k
        have dg : ∀ {H' : Hp} (u : List Nat), Same H3 H' → DGet H' d (.str (SX.S u)) ((numOf u).map fun n : Nat => V.int (n : Int)) := fun u sm => .inl ⟨_, .inr (SX.S u), .inl (sm _ _ hd), rfl, (nd_val u).symm⟩
        refine ⟨_, rfl, q, _, rfl, .inl (SqL.of gq), _, _, rfl, rfl, _, rfl, ?_⟩
        refine ite2 (fun c2 => ?_) (fun c2 => ?_)
        · have c3 := of_decide_eq_true c2
          rw [ltx_len] at c3
          exact bad (fun z => by have := z.1; omega) _ s12
        · have c3 : ps.length ≤ 2000 := by
            have z : ¬ ((2000 : Int) < ((ltx ps).length : Int)) := fun z => c2 (decide_eq_true z)
            rw [ltx_len] at z
            omega
          refine ⟨_, rfl, q, rfl, ⟨_, SqL.of gq⟩, fun D hD => lc_list (K := K) (a := q) (xs := ltx ps) (fun i H' => H' D = some (.lst (ltx ((ps.take i).filter fun u => !numB u))) ∧ Same H3 H') ⟨upd_same, Same.new _ hD⟩ (fun i H' _ ⟨_, sm⟩ => SqL.of (sm _ _ gq)) ?_ ?_⟩
          · rintro i y H4 hy ⟨hDl, sm⟩
            obtain ⟨u, hu, rfl⟩ := ltx_at hy
            have hip := (List.getElem?_eq_some_iff.mp hu).1
            have fl : ((ps.take i).filter fun u => !numB u).length ≤ 2000 := Nat.le_trans (List.length_filter_le _ _) (by rw [List.length_take]; omega)
            refine ⟨rfl, _, rfl, _, rfl, d, _, rfl, dg u sm, _, rfl, ?_⟩
            rw [Option.isSome_map]
            show if (!(numB u)) = true then _ else _
            cases eb : numB u with
            | true =>
              refine iteF ⟨?_, sm⟩
              rw [hDl, ← take_snoc hu, List.filter_append]
              simp [eb]
            | false =>
              refine iteT ⟨_, rfl, _, hDl, lt_size (by rw [ltx_len]; omega), ?_, sm.updNew hD⟩
              rw [upd_same, ← take_snoc hu, List.filter_append]
              simp [eb, ltx]
          · rintro H4 ⟨hDl, sm⟩
            rw [ltx_len, List.take_length] at hDl
            refine ⟨Nat.zero_le _, fun b2 hb2 => ?_⟩
            have s5 : Same H4 (upd H4 b2 (.lst [])) := Same.new _ hb2
            have g5 : upd H4 b2 (.lst []) b2 = some (.lst []) := upd_same
            have hD5 := s5 _ _ hDl
            have s35 : Same H3 (upd H4 b2 (.lst [])) := sm.trans s5
            generalize upd H4 b2 (.lst []) = H5 at *
            have bch : ∀ u ∈ ps.filter fun u => !numB u, ∀ c ∈ u, c < 1114112 := fun u hu => pch u (List.mem_filter.mp hu).1
            refine ⟨_, _, .lst (SqL.of hD5) (dp_txts _), .lst (SqL.of g5) .nil, shaped_txts bch, rfl, ?_⟩
            have e6 : PyData.eqv (.list (txtD (ps.filter fun u => !numB u))) (.list []) = ps.all numB := by
              show PyData.eqvAll (txtD (ps.filter fun u => !numB u)) (txtD []) = _
              rw [eqv_txts, Bool.eq_iff_iff]
              simp
            rw [e6]
            refine ⟨_, rfl, ?_⟩
            cases e5 : ps.all numB with
            | false => exact iteT (bad (fun z => by rw [e5] at z; exact Bool.noConfusion z.2) _ (s12.trans s35))
            | true =>
              rw [if_pos ⟨c3, e5⟩] at hdr
              rcases h with ⟨ns, hr, k⟩ | ⟨hr, _⟩
              case inr => rw [hdr] at hr; cases hr
              obtain rfl : ps.map numV = ns := Option.some.inj (hdr.symm.trans hr)
              refine iteF ?_
              refine ⟨_, rfl, q, rfl, ⟨_, SqL.of (s35 _ _ gq)⟩, fun D2 hD2 => lc_list (K := K) (a := q) (xs := ltx ps) (fun i H' => H' D2 = some (.lst (nsV ((ps.take i).map numV))) ∧ Same H5 H') ⟨upd_same, Same.new _ hD2⟩ (fun i H' _ ⟨_, sm3⟩ => SqL.of (sm3 _ _ (s35 _ _ gq))) ?_ ?_⟩
              · rintro i y H6 hy ⟨hDl6, sm6⟩
                obtain ⟨u, hu, rfl⟩ := ltx_at hy
                have hb := List.all_eq_true.mp e5 u (List.mem_of_getElem? hu)
                have hv : (numOf u).map (fun n : Nat => V.int (n : Int)) = some (.int (numV u : Nat)) := by
                  unfold numB at hb
                  unfold numV
                  cases en : numOf u with
                  | none => rw [en] at hb; cases hb
                  | some n => rfl
                have g := dg u (s35.trans sm6)
                rw [hv] at g
                refine ⟨rfl, _, rfl, _, rfl, d, _, rfl, g, ?_⟩
                refine ⟨_, hDl6, lt_size (by rw [nsV_len, List.length_map, List.length_take]; omega), ?_, sm6.updNew hD2⟩
                rw [upd_same, ← take_snoc hu, List.map_append, ← nsV_snoc]
                rfl
              · rintro H6 ⟨hDl6, sm6⟩
                rw [ltx_len, List.take_length] at hDl6
                exact k H6 D2 ((s12.trans s35).trans sm6) ((s12.trans s35).free hD2) hDl6
end
end J


set_option Elab.async false
set_option linter.all false
set_option maxRecDepth 100000
set_option maxHeartbeats 4000000
namespace J
open PySem L2
theorem cutS_S (x : List Nat) (lo hi : Option Int) : ∃ u : List Nat, cutS (SX.S x) lo hi = SX.S u ∧ u.length ≤ x.length ∧ ∀ c ∈ u, c ∈ x := by
  refine ⟨(x.drop (HT.sIx (SX.S x).length 0 lo)).take (HT.sIx (SX.S x).length (SX.S x).length hi - HT.sIx (SX.S x).length 0 lo), rfl, ?_, fun c hc => List.mem_of_mem_drop (List.mem_of_mem_take hc)⟩
  rw [List.length_take, List.length_drop]
  omega
instance (l : List Nat) : Decidable (Ch l) := by unfold Ch; infer_instance
theorem Ch.sub {u x : List Nat} (h : Ch x) (s : ∀ c ∈ u, c ∈ x) : Ch u := fun c hc => h c (s c hc)
theorem Ch.app {u x : List Nat} (h : Ch x) (g : Ch u) : Ch (x ++ u) := fun c hc => (List.mem_append.mp hc).elim (h c) (g c)
theorem line_ch {ns : List Nat} (h : ∀ n ∈ ns, n < 200) : Ch (lineOf ns) := by
  by_cases e : ns = []
  · subst e
    intro c hc
    have : c = 45 := by simpa [lineOf] using hc
    omega
  · rw [← bld_line e]
    intro c hc
    obtain ⟨l, hl, hcl⟩ := List.mem_flatten.mp (List.mem_of_mem_drop hc)
    obtain ⟨n, hn, rfl⟩ := List.mem_map.mp hl
    rcases List.mem_cons.mp hcl with rfl | hc2
    · decide
    · have := ((nt_facts n (h n hn)).2.1 c hc2).2
      omega
theorem line_len {ns : List Nat} (h : ∀ n ∈ ns, n < 200) : (lineOf ns).length ≤ 4 * ns.length + 1 := by
  by_cases e : ns = []
  · subst e; simp [lineOf]
  · rw [← bld_line e, List.length_drop]
    have := bld_len ns h
    omega
/-- texts of a menu -/
def Txs (n : Nat) (vs : List V) : Prop := ∀ v ∈ vs, ∃ l : List Nat, v = .str (SX.S l) ∧ l.length ≤ n ∧ Ch l
theorem Txs.nil (n : Nat) : Txs n [] := fun v hv => nomatch hv
theorem Txs.cons {n : Nat} {l : List Nat} {vs : List V} (h : l.length ≤ n) (hc : Ch l) (r : Txs n vs) : Txs n (.str (SX.S l) :: vs) := fun v hv => by
  rcases List.mem_cons.mp hv with rfl | hv
  · exact ⟨l, rfl, h, hc⟩
  · exact r v hv
def spSpoil : Sp := fun vs H Q _ => ∃ (p : Addr) (l : List Nat), vs = [.ref p, .str (SX.S l)] ∧ PoolAt H p ∧ l.length ≤ 100 ∧ Ch l ∧ ∀ H' l', Dr p H H' → l'.length ≤ 300 → Ch l' → Q (.str (SX.S l')) H'
theorem Off.since {H H' : Hp} {p q : Addr} {o : HO} (h : PoolAt H p) (hq : H q = none) (s : Same H H') (g : H' q = some o) : Off H' p q := by
  obtain ⟨gl, sl, gs, ss, b, c, h1, h2, h3⟩ := h
  refine ⟨hp_ne h1 hq, none_ne g, fun gl' sl' b' c' e => ?_⟩
  rw [s _ _ h1] at e
  cases e
  exact ⟨fun z => (by rw [z, hq] at h2; cases h2), fun z => (by rw [z, hq] at h3; cases h3)⟩
def RowT (H : Hp) (v : V) (i : Int) : Prop := ∃ r, v = .ref r ∧ H r = some (.tup [.str "row", .int i])
theorem RowT.same {H H' : Hp} {v : V} {i : Int} (h : RowT H v i) (s : Same H H') : RowT H' v i := by
  obtain ⟨r, e, g⟩ := h
  exact ⟨r, e, s _ _ g⟩
theorem eqv_si (z : Str) (i : Int) : PyData.eqv (.tuple [.str z, .int i]) (.tuple [.str z, .int i]) = true := by
  show ((z == z) && ((i == i) && true)) = true
  simp
theorem shaped_pair {z : Str} (hz : PyData.strOk z = true) (i : Int) : SeqAt.shaped (.tuple [.str z, .int i]) = true := by
  have q1 : PyData.canLay0 (.tuple [.str z, .int i]) = true := by
    show (PyData.strOk z && (true && true)) = true
    rw [hz]
    rfl
  have q2 : PyData.depth (.tuple [.str z, .int i]) ≤ 64 := by simp [PyData.depth, PyData.depthAll]
  unfold SeqAt.shaped
  rw [q1, decide_eq_true q2]
  rfl
theorem shaped_row (i : Int) : SeqAt.shaped (.tuple [.str "row", .int i]) = true := shaped_pair (by decide +kernel) i
theorem ne_rows {K : PySem.W.Frag} {H : Hp} {x y : V} {i : Int} {Q : VK} (hx : RowT H x i) (hy : RowT H y i) (q : Q (.bl false) H) : rNeD K x y H Q := by
  obtain ⟨r, rfl, g⟩ := hx
  obtain ⟨t, rfl, g'⟩ := hy
  refine ⟨_, _, .tup (SqT.of g) (.cons (.str _) (.cons (.int _) .nil)), .tup (SqT.of g') (.cons (.str _) (.cons (.int _) .nil)), shaped_row i, shaped_row i, ?_⟩
  rw [eqv_si]
  exact q
theorem shaped_str {l : List Nat} (h : Ch l) : SeqAt.shaped (.str (SX.S l)) = true := by
  have e : PyData.canLay0 (.str (SX.S l)) = true := str_ok h
  unfold SeqAt.shaped
  rw [e]
  rfl
theorem ne_strs {K : PySem.W.Frag} {H : Hp} {l : List Nat} {Q : VK} (h : Ch l) (q : Q (.bl false) H) : rNeD K (.str (SX.S l)) (.str (SX.S l)) H Q := by
  refine ⟨_, _, .str _, .str _, shaped_str h, shaped_str h, ?_⟩
  have e : PyData.eqv (.str (SX.S l)) (.str (SX.S l)) = true := by
    show (SX.S l == SX.S l) = true
    simp
  rw [e]
  exact q
section
variable {P : Program} {w : World} {K : PySem.W.Frag} {mg : Str → Option Value} {base : Heap}
theorem ok_l_spoiled (T : Tx K mg) : FnOk P w K mg base CX0 3 T.f_l_spoiled T.fd_l_spoiled P_l_spoiled spSpoil := by
  have G_l_draw : FnOk P w K mg base CX0 1 T.f_l_draw T.fd_l_draw P_l_draw spDraw := ok_l_draw T
  have G_l_pick : FnOk P w K mg base CX0 2 T.f_l_pick T.fd_l_pick P_l_pick spPick := ok_l_pick T
  refine T.F_l_spoiled.ok sc_l_spoiled (fun vs H Q E h => ?_) (fun cdv A outer s H vs Q E hr h => ?_)
  · obtain ⟨p, l, rfl, _⟩ := h
    rfl
  · obtain ⟨p, l, rfl, hst, hl, hch, k⟩ := h
    refine ⟨_, (pss_cons (ps_set (i := 2) sc_l_spoiled.nd rfl (Or.inl rfl) (pe_call G_l_draw (hr.mono (by decide)) rfl T.m_l_draw T.F_l_draw.kp T.b_l_draw .nil pass0 (pa_cons (pv 0) (pa_cons (pe_op op_add (pe_callB call_len_str rfl T.n_len (by decide +kernel) (pa_cons (pv 1) pa_nil)) pe_int) pa_nil))))
        (pss_cons (ps_set (i := 3) sc_l_spoiled.nd rfl (Or.inl rfl) (pe_call G_l_pick (hr.mono (by decide)) rfl T.m_l_pick T.F_l_pick.kp T.b_l_pick .nil pass0 (pa_cons (pv 0) (pa_cons (pe_lst (pa_cons pe_str (pa_cons pe_str (pa_cons pe_str (pa_cons pe_str (pa_cons pe_str (pa_cons pe_str (pa_cons pe_str (pa_cons pe_str (pa_cons pe_str pa_nil)))))))))) pa_nil))))
        (pss_cons (ps_set (i := 4) sc_l_spoiled.nd rfl (Or.inl rfl) (pe_call G_l_draw (hr.mono (by decide)) rfl T.m_l_draw T.F_l_draw.kp T.b_l_draw .nil pass0 (pa_cons (pv 0) (pa_cons pe_int pa_nil))))
        (pss_cons (ps_if (pt_cmpR op_eq (pv 4) pe_int (nomark _)) (pss_one (ps_ret (pe_op op_add_str (pe_op op_add_str (pe_slice sl_str (pv 1) po_none (po_some (pv 2))) (pv 3)) (pe_slice sl_str (pv 1) (po_some (pv 2)) po_none)))) pss_nil)
        (pss_cons (ps_if (pt_cmpR op_eq (pv 4) pe_int (nomark _)) (pss_one (ps_ret (pe_op op_add_str (pe_slice sl_str (pv 1) po_none (po_some (pv 2))) (pe_slice sl_str (pv 1) (po_some (pe_op op_add (pv 2) pe_int)) po_none)))) pss_nil)
        (pss_cons (ps_if (pt_cmpR op_eq (pv 4) pe_int (nomark _)) (pss_one (ps_ret (pe_op op_add_str (pe_op op_add_str (pe_slice sl_str (pv 1) po_none (po_some (pv 2))) (pv 3)) (pe_slice sl_str (pv 1) (po_some (pe_op op_add (pv 2) pe_int)) po_none)))) pss_nil)
        (pss_one (ps_ret (pe_call G_l_pick (hr.mono (by decide)) rfl T.m_l_pick T.F_l_pick.kp T.b_l_pick .nil pass0 (pa_cons (pv 0) (pa_cons (pe_lst (pa_cons pe_str (pa_cons pe_str (pa_cons pe_str (pa_cons pe_str (pa_cons pe_str (pa_cons pe_str (pa_cons pe_str (pa_cons pe_str (pa_cons pe_str (pa_cons (pe_op op_add_str (pe_op op_add_str (pv 1) pe_str) (pv 1)) pa_nil))))))))))) pa_nil))))))))))), ?_⟩
    have hsl : (SX.S l).length ≤ sizeLine := le_size (by rw [SX.S_len]; omega)
    refine ⟨_, rfl, _, rfl, _, rfl, hsl, _, _, rfl, rfl, p, _, rfl, hst, by rw [SX.S_len]; omega, by rw [SX.S_len]; omega, fun H1 r x1 r0 r1 => ?_⟩
    refine ⟨_, rfl, le_size (by simp), fun q hq => ?_⟩
    have m1 : Txs 2 [V.str " ", .str "0", .str "1", .str "9", .str "-", .str "+", .str "\n", .str "a", .str "00"] :=
      .cons (l := [32]) (by decide) (by decide) (.cons (l := [48]) (by decide) (by decide) (.cons (l := [49]) (by decide) (by decide) (.cons (l := [57]) (by decide) (by decide) (.cons (l := [45]) (by decide) (by decide) (.cons (l := [43]) (by decide) (by decide) (.cons (l := [10]) (by decide) (by decide) (.cons (l := [97]) (by decide) (by decide) (.cons (l := [48, 48]) (by decide) (by decide) (.nil _)))))))))
    refine ⟨p, q, _, rfl, x1.2.1.same (Same.new _ hq), x1.2.1.ne hq, upd_same, by simp, by simp, fun H2 v x2 hv => ?_⟩
    obtain ⟨s, rfl, hs2, hsc⟩ := m1 v hv
    have x12 : Dr p H H2 := (x1.new hq).trans x2
    refine ⟨_, rfl, p, 4, rfl, x2.2.1, by decide, by decide, fun H3 r3 x3 r30 r31 => ?_⟩
    replace x3 := x12.trans x3
    obtain ⟨u1, e1, l1, c1⟩ := cutS_S l none (some r)
    obtain ⟨u2, e2, l2, c2⟩ := cutS_S l (some r) none
    obtain ⟨u3, e3, l3, c3⟩ := cutS_S l (some (r + 1)) none
    have ch1 := hch.sub c1
    have ch2 := hch.sub c2
    have ch3 := hch.sub c3
    refine ⟨_, rfl, rfl, _, rfl, ?_⟩
    refine ite2 (fun _ => ?_) (fun _ => ?_)
    · refine ⟨_, rfl, _, rfl, _, rfl, _, rfl, hsl, ?_⟩
      rw [e1]
      refine ⟨_, rfl, _, _, rfl, rfl, le_size (by rw [SX.S_len, SX.S_len]; omega), ?_⟩
      rw [SX.S_cat]
      refine ⟨_, rfl, _, rfl, _, rfl, _, rfl, hsl, ?_⟩
      rw [e2]
      refine ⟨_, _, rfl, rfl, le_size (by rw [SX.S_len, SX.S_len, List.length_append]; omega), ?_⟩
      rw [SX.S_cat]
      exact k H3 _ x3 (by rw [List.length_append, List.length_append]; omega) ((ch1.app hsc).app ch2)
    refine ⟨_, rfl, rfl, _, rfl, ?_⟩
    refine ite2 (fun _ => ?_) (fun _ => ?_)
    · refine ⟨_, rfl, _, rfl, _, rfl, _, rfl, hsl, ?_⟩
      rw [e1]
      refine ⟨_, rfl, _, rfl, _, _, rfl, rfl, _, rfl, _, rfl, hsl, ?_⟩
      rw [e3]
      refine ⟨_, _, rfl, rfl, le_size (by rw [SX.S_len, SX.S_len]; omega), ?_⟩
      rw [SX.S_cat]
      exact k H3 _ x3 (by rw [List.length_append]; omega) (ch1.app ch3)
    refine ⟨_, rfl, rfl, _, rfl, ?_⟩
    refine ite2 (fun _ => ?_) (fun _ => ?_)
    · refine ⟨_, rfl, _, rfl, _, rfl, _, rfl, hsl, ?_⟩
      rw [e1]
      refine ⟨_, rfl, _, _, rfl, rfl, le_size (by rw [SX.S_len, SX.S_len]; omega), ?_⟩
      rw [SX.S_cat]
      refine ⟨_, rfl, _, rfl, _, _, rfl, rfl, _, rfl, _, rfl, hsl, ?_⟩
      rw [e3]
      refine ⟨_, _, rfl, rfl, le_size (by rw [SX.S_len, SX.S_len, List.length_append]; omega), ?_⟩
      rw [SX.S_cat]
      exact k H3 _ x3 (by rw [List.length_append, List.length_append]; omega) ((ch1.app hsc).app ch3)
    refine ⟨_, rfl, _, rfl, _, _, rfl, rfl, le_size (by rw [SX.S_len]; show l.length + 1 ≤ _; omega), _, rfl, _, _, rfl, rfl, le_size (by rw [Str.length_append, SX.S_len]; show l.length + 1 + l.length ≤ _; omega), ?_⟩
    have es : (SX.S l ++ Str.ofString " ") ++ SX.S l = SX.S (l ++ [32] ++ l) := by
      show (SX.S l ++ SX.S [32]) ++ SX.S l = _
      rw [SX.S_cat, SX.S_cat]
    rw [es]
    refine ⟨le_size (by simp), fun q2 hq2 => ?_⟩
    have chl : Ch (l ++ [32] ++ l) := (hch.app (by decide)).app hch
    have m2 : Txs 300 [V.str "", .str " ", .str "--", .str "- ", .str "200", .str "0 0 ", .str " 1", .str "-1", .str "1  2", .str (SX.S (l ++ [32] ++ l))] :=
      .cons (l := []) (by decide) (by decide) (.cons (l := [32]) (by decide) (by decide) (.cons (l := [45, 45]) (by decide) (by decide) (.cons (l := [45, 32]) (by decide) (by decide) (.cons (l := [50, 48, 48]) (by decide) (by decide) (.cons (l := [48, 32, 48, 32]) (by decide) (by decide) (.cons (l := [32, 49]) (by decide) (by decide) (.cons (l := [45, 49]) (by decide) (by decide) (.cons (l := [49, 32, 32, 50]) (by decide) (by decide) (.cons (by simp; omega) chl (.nil _))))))))))
    refine ⟨p, q2, _, rfl, x3.2.1.same (Same.new _ hq2), x3.2.1.ne hq2, upd_same, by simp, by simp, fun H4 v x4 hv => ?_⟩
    obtain ⟨s4, rfl, hs4, hsc4⟩ := m2 v hv
    exact k H4 _ ((x3.new hq2).trans x4) hs4 hsc4
end
end J


set_option Elab.async false
set_option linter.all false
set_option maxRecDepth 100000
set_option maxHeartbeats 4000000
namespace J
open PySem L2
def spLaw (K : PySem.W.Frag) : Sp := fun vs H Q _ => ∃ (a : Addr) (ns : List Int), vs = [.ref a] ∧ SqL K H a (ns.map V.int) ∧ ns.length ≤ 63 ∧ ∀ H', Q (.bl true) H'
theorem nsV_rep (n : Nat) (ls : List Nat) : (List.replicate n (nsV ls)).flatten = nsV (List.replicate n ls).flatten := by
  simp [nsV, List.map_flatten]
theorem rep_mem {α : Type} {n : Nat} {l : List α} {x : α} (h : x ∈ (List.replicate n l).flatten) : x ∈ l := by
  obtain ⟨m, hm, hx⟩ := List.mem_flatten.mp h
  rw [(List.mem_replicate.mp hm).2] at hx
  exact hx
theorem rep_len {α : Type} (n : Nat) (l : List α) : (List.replicate n l).flatten.length = n * l.length := by simp
theorem nsV_take (n : Nat) (ls : List Nat) : (nsV ls).take n = nsV (ls.take n) := by simp [nsV]
theorem it_ns {K : PySem.W.Frag} {H : Hp} (ls : List Nat) : ∀ x ∈ nsV ls, It K H x := fun x hx => by
  obtain ⟨n, _, rfl⟩ := List.mem_map.mp hx
  exact .int _
theorem thg_l {K : PySem.W.Frag} {H : Hp} {a : Addr} {ls : List Nat} (h : H a = some (.lst (nsV ls))) (hl : ls.length ≤ 100000) : Thg K H (.ref a) (some (nsV ls)) := .seq (.inl h) (it_ns ls) (by rw [nsV_len]; exact hl)
theorem thg_t {K : PySem.W.Frag} {H : Hp} {a : Addr} {ls : List Nat} (h : H a = some (.tup (nsV ls))) (hl : ls.length ≤ 100000) : Thg K H (.ref a) (some (nsV ls)) := .seq (.inr h) (it_ns ls) (by rw [nsV_len]; exact hl)
/-- what is due for a row -/
def DueAt (H : Hp) (ns : List Nat) (v : V) : Prop := (ns.length ≤ 2000 ∧ v = .str (SX.S (lineOf ns))) ∨ (2000 < ns.length ∧ RowT H v (-1))
theorem DueAt.same {H H' : Hp} {ns : List Nat} {v : V} (h : DueAt H ns v) (s : Same H H') : DueAt H' ns v := h.imp id fun z => ⟨z.1, z.2.same s⟩
theorem wr_long {ns : List Nat} (h : 2000 < ns.length) : wrV (some (nsV ns)) = .int (-1) := by
  dsimp only [wrV]
  rw [if_neg (by rw [nsV_len]; omega)]
theorem kit_no {K : PySem.W.Frag} {t : Value} (h1 : PySem.W.kitOne K t (.type "list") = some false) (h2 : PySem.W.kitOne K t (.type "tuple") = some false) : PySem.W.kitAny K t [.type "list", .type "tuple"] = some false :=
  kitAny_cons (b := false) h1 (fun _ => kitAny_cons (b := false) h2 (fun _ => rfl) (fun q => nomatch q)) (fun q => nomatch q)
theorem kit_cls {K : PySem.W.Frag} {C : Addr} {s : String} (hm : PySem.W.kitMeta s = true) (h : PySem.W.subIn K (.ref C) (.type s) = some false) : PySem.W.kitOne K (.ref C) (.type s) = some false := by
  unfold PySem.W.kitOne
  have e : ¬ ((Value.ref C == Value.type s) = true) := fun z => nomatch (eq_of_beq z)
  rw [if_neg e]
  show (if PySem.W.kitMeta s = true then PySem.W.subIn K (.ref C) (.type s) else none) = some false
  rw [if_pos hm]
  exact h
theorem readR_len {l ms : List Nat} (h : readR l = some ms) : ms.length ≤ 2000 := by
  unfold readR at h
  split at h
  · cases h; decide
  · split at h
    · rename_i z
      cases h
      rw [List.length_map]
      exact z.1
    · cases h
theorem ne_pages {K : PySem.W.Frag} {H : Hp} {r t : Addr} {Q : VK} (hx : pageT H r) (hy : pageT H t) (q : Q (.bl false) H) : rNeD K (.ref r) (.ref t) H Q := by
  refine ⟨_, _, .tup (SqT.of hx) (.cons (.str _) (.cons (.int _) .nil)), .tup (SqT.of hy) (.cons (.str _) (.cons (.int _) .nil)), shaped_pair (by decide +kernel) _, shaped_pair (by decide +kernel) _, ?_⟩
  rw [eqv_si]
  exact q
theorem eq_pages {K : PySem.W.Frag} {H : Hp} {r t : Addr} {Q : VK} (hx : pageT H r) (hy : pageT H t) (q : Q (.bl true) H) : rEqD K (.ref r) (.ref t) H Q := by
  refine ⟨_, _, .tup (SqT.of hx) (.cons (.str _) (.cons (.int _) .nil)), .tup (SqT.of hy) (.cons (.str _) (.cons (.int _) .nil)), shaped_pair (by decide +kernel) _, shaped_pair (by decide +kernel) _, ?_⟩
  rw [eqv_si]
  exact q
/-- something that a row may not hold, whatever becomes of the pool -/
def OddP (K : PySem.W.Frag) (p : Addr) (H : Hp) (v : V) : Prop := okI v = false ∧ ∀ H', Ex p H H' → It K H' v
/-- something that is no sequence -/
def NonP (K : PySem.W.Frag) (p : Addr) (H : Hp) (v : V) : Prop := ∀ H', Ex p H H' → Thg K H' v none
/-- something that is no string -/
def NoS (K : PySem.W.Frag) (p : Addr) (H : Hp) (v : V) : Prop := ∀ H', Ex p H H' → ∃ t, TyZ K H' v t ∧ PySem.W.kitOne K t (.type "str") = some false
theorem all_cons {P : V → Prop} {x : V} {xs : List V} (h : P x) (r : ∀ v ∈ xs, P v) : ∀ v ∈ x :: xs, P v := fun v hv => by
  rcases List.mem_cons.mp hv with rfl | hv
  · exact h
  · exact r v hv
theorem all_nil {P : V → Prop} : ∀ v ∈ ([] : List V), P v := fun v hv => nomatch hv
section
variable {P : Program} {w : World} {K : PySem.W.Frag} {mg : Str → Option Value} {base : Heap}
theorem ok_law (T : Tx K mg) : FnOk P w K mg base CX0 8 T.f_law T.fd_law P_law (spLaw K) := by
  refine T.F_law.ok sc_law (fun vs H Q E h => ?_) (fun cdv A outer s H vs Q E hr h => ?_)
  · obtain ⟨a, ns, rfl, _⟩ := h
    rfl
  · obtain ⟨a, ns, rfl, hS, hlen, k⟩ := h
    have G_l_pool : FnOk P w K mg base CX0 1 T.f_l_pool T.fd_l_pool P_l_pool (spPool K) := ok_l_pool T
    have G_l_draw : FnOk P w K mg base CX0 1 T.f_l_draw T.fd_l_draw P_l_draw spDraw := ok_l_draw T
    have G_l_pick : FnOk P w K mg base CX0 2 T.f_l_pick T.fd_l_pick P_l_pick spPick := ok_l_pick T
    have G_l_line : FnOk P w K mg base CX0 1 T.f_l_line T.fd_l_line P_l_line (spLLine K) := ok_l_line T
    have G_l_due : FnOk P w K mg base CX0 1 T.f_l_due T.fd_l_due P_l_due spLDue := ok_l_due T
    have G_l_read : FnOk P w K mg base CX0 6 T.f_l_read T.fd_l_read P_l_read (spLRead K) := ok_l_read T
    have G_l_written : FnOk P w K mg base CX0 6 T.f_l_written T.fd_l_written P_l_written (spLWritten K) := ok_l_written T
    have G_l_spoiled : FnOk P w K mg base CX0 3 T.f_l_spoiled T.fd_l_spoiled P_l_spoiled spSpoil := ok_l_spoiled T
    have G_l_same_lists : FnOk P w K mg base CX0 1 T.f_l_same_lists T.fd_l_same_lists P_l_same_lists spSameL := ok_l_same_lists T
    have G_Loom_init : FnOk P w K mg base CX0 4 T.f_Loom_init T.fd_Loom_init P_Loom_init (spInit T.C_Loom) := ok_Loom_init T
    have G_write_row : FnOk P w K mg base (L2.CX P w) 5 T.f_write_row T.fd_write_row P_write_row (spWriteRow K T.C_InvalidRow) := ok_write_row T
    have G_read_row : FnOk P w K mg base (L2.CX P w) 5 T.f_read_row T.fd_read_row P_read_row (spReadRow K T.C_InvalidPage) := ok_read_row T
    have KB_write_row_row : KBn K T.fd_write_row P_write_row 0 ["row"] (fun _ ws => ws) (fun _ zs => zs) :=
      T.F_write_row.kbinds (fun x => x) (fun _ _ _ _ _ _ ws hl => match ws, hl with | [_], _ => rfl) (fun h => h)
    have KB_read_row_text : KBn K T.fd_read_row P_read_row 0 ["text"] (fun _ ws => ws) (fun _ zs => zs) :=
      T.F_read_row.kbinds (fun x => x) (fun _ _ _ _ _ _ ws hl => match ws, hl with | [_], _ => rfl) (fun h => h)
    refine ⟨_, (pss_cons (ps_set (i := 1) sc_law.nd rfl (Or.inr rfl) (pe_call G_l_pool (hr.mono (by decide)) rfl T.m_l_pool T.F_l_pool.kp T.b_l_pool .nil pass0 (pa_cons (pv 0) pa_nil)))
        (pss_cons (ps_for PassesOwn.never rfl (pi_range1 rfl T.n_range (pa_cons pe_int pa_nil)) (pg_name (i := 2) sc_law.nd rfl (Or.inl rfl)) (pss_cons (ps_setLc (i := 3) (own := [("_law_k", 10)]) (g := (gName 10)) rfl sc_law.nd rfl rfl (sw_true rfl rfl rfl (by decide +kernel)) (pi_range1 rfl T.n_range (pa_cons (pe_call G_l_draw (hr.mono (by decide)) rfl T.m_l_draw T.F_l_draw.kp T.b_l_draw .nil pass0 (pa_cons (pv 1) (pa_cons pe_int pa_nil))) pa_nil)) (blkOk_by (N := N_law) (sc := defScope s_law) (by decide +kernel)) (fun _ _ _ _ _ => (pg_name (i := 10) sc_law.nd rfl (Or.inl rfl))) (fun _ _ _ _ _ => pts_nil) (fun _ _ _ _ _ => (pe_call G_l_draw (hr.mono (by decide)) rfl T.m_l_draw T.F_l_draw.kp T.b_l_draw .nil pass0 (pa_cons (pv 1) (pa_cons pe_int pa_nil)))))
        (C8.pss_cut (ps_if (pt_cmpR op_eq (pe_call G_l_draw (hr.mono (by decide)) rfl T.m_l_draw T.F_l_draw.kp T.b_l_draw .nil pass0 (pa_cons (pv 1) (pa_cons pe_int pa_nil))) pe_int (nomark _)) (pss_cons (ps_set (i := 3) sc_law.nd rfl (Or.inl rfl) (pe_op op_rep (pe_op op_cat (pe_lst (pa_cons pe_int pa_nil)) (pv 3)) pe_int))
        (pss_one (ps_set (i := 3) sc_law.nd rfl (Or.inl rfl) (pe_slice (sl_listK (K := K) rfl) (pv 3) po_none (po_some (pe_op op_add pe_int (pe_call G_l_draw (hr.mono (by decide)) rfl T.m_l_draw T.F_l_draw.kp T.b_l_draw .nil pass0 (pa_cons (pv 1) (pa_cons pe_int pa_nil))))))))) pss_nil)
        (C8.pss_cut (ps_set (i := 4) sc_law.nd rfl (Or.inl rfl) (pe_ifExp (pt_cmpR op_gt (pe_callB (call_len_seqK (K := K) rfl) rfl T.n_len (by decide +kernel) (pa_cons (pv 3) pa_nil)) pe_int (nomark _)) (pe_tup (pa_cons pe_str (pa_cons (pe_un un_neg pe_int) pa_nil))) (pe_call G_l_line (hr.mono (by decide)) rfl T.m_l_line T.F_l_line.kp T.b_l_line .nil pass0 (pa_cons (pv 3) pa_nil))))
        (C8.pss_cut (ps_if (PW.pt (pw_or (pt_cmpR (op_neD hr.units) (pe_call G_l_written (hr.mono (by decide)) rfl T.m_l_written T.F_l_written.kp T.b_l_written .nil pass0 (pa_cons (pv 3) pa_nil)) (pv 4) (nomark _)) (pw_or1 (pt_cmpR (op_neD hr.units) (pe_call G_l_written (hr.mono (by decide)) rfl T.m_l_written T.F_l_written.kp T.b_l_written .nil pass0 (pa_cons (pe_callTy (call_tuple_ofK (K := K) rfl) rfl T.n_tuple (by decide +kernel) (pa_cons (pv 3) pa_nil)) pa_nil)) (pv 4) (nomark _))))) (pss_one (ps_ret pe_bl)) pss_nil)
        (C8.pss_cut (ps_if (pt_cmpR op_le (pe_callB (call_len_seqK (K := K) rfl) rfl T.n_len (by decide +kernel) (pa_cons (pv 3) pa_nil)) pe_int (nomark _)) (pss_cons (ps_set (i := 5) sc_law.nd rfl (Or.inl rfl) (pe_call G_read_row (hr.mono (by decide)) rfl T.m_read_row T.F_read_row.kp T.b_read_row .nil passL (pa_cons (pv 4) pa_nil)))
        (pss_cons (ps_if (pt_not (pt_val (pe_call G_l_same_lists (hr.mono (by decide)) rfl T.m_l_same_lists T.F_l_same_lists.kp T.b_l_same_lists .nil pass0 (pa_cons (pv 5) (pa_cons (pv 3) pa_nil))))) (pss_one (ps_ret pe_bl)) pss_nil)
        (pss_cons (ps_expr (pe_bm PySem.F.plainAttrs_list PySem.F.slot_list_append PySem.F.type_list_append mt_append (pv 5) (pa_cons pe_non pa_nil)))
        (pss_one (ps_if (pt_not (pt_val (pe_call G_l_same_lists (hr.mono (by decide)) rfl T.m_l_same_lists T.F_l_same_lists.kp T.b_l_same_lists .nil pass0 (pa_cons (pe_call G_read_row (hr.mono (by decide)) rfl T.m_read_row T.F_read_row.kp T.b_read_row .nil passL (pa_cons (pv 4) pa_nil)) (pa_cons (pv 3) pa_nil))))) (pss_one (ps_ret pe_bl)) pss_nil))))) pss_nil)
        (pss_cons (ps_set (i := 6) sc_law.nd rfl (Or.inl rfl) (pe_call G_l_spoiled (hr.mono (by decide)) rfl T.m_l_spoiled T.F_l_spoiled.kp T.b_l_spoiled .nil pass0 (pa_cons (pv 1) (pa_cons (pe_call G_l_line (hr.mono (by decide)) rfl T.m_l_line T.F_l_line.kp T.b_l_line .nil pass0 (pa_cons (pe_slice (sl_listK (K := K) rfl) (pv 3) po_none (po_some pe_int)) pa_nil)) pa_nil))))
        (C8.pss_cut (ps_par (i := 5) (j := 4) (by rfl) sc_law.nd rfl rfl (by decide) rfl rfl (pa_cons (pe_call G_l_read (hr.mono (by decide)) rfl T.m_l_read T.F_l_read.kp T.b_l_read .nil pass0 (pa_cons (pv 6) pa_nil)) (pa_cons (pe_call G_l_due (hr.mono (by decide)) rfl T.m_l_due T.F_l_due.kp T.b_l_due .nil pass0 (pa_cons (pv 6) pa_nil)) pa_nil)) (by rfl))
        (C8.pss_cut (ps_if (PW.pt (pw_or (PW.pt (pw_and (pt_cmpR op_isN (pv 4) pe_non (nomark _)) (pw_and1 (pt_cmpR (op_neD hr.units) (pv 5) (pe_tup (pa_cons pe_str (pa_cons pe_int pa_nil))) (nomark _))))) (pw_or1 (PW.pt (pw_and (pt_cmpR op_notN (pv 4) pe_non (nomark _)) (pw_and1 (pt_not (pt_val (pe_call G_l_same_lists (hr.mono (by decide)) rfl T.m_l_same_lists T.F_l_same_lists.kp T.b_l_same_lists .nil pass0 (pa_cons (pv 5) (pa_cons (pv 4) pa_nil))))))))))) (pss_one (ps_ret pe_bl)) pss_nil)
        (pss_cons (ps_set (i := 7) sc_law.nd rfl (Or.inl rfl) (pe_call G_l_draw (hr.mono (by decide)) rfl T.m_l_draw T.F_l_draw.kp T.b_l_draw .nil pass0 (pa_cons (pv 1) (pa_cons (pe_op op_add (pe_callB (call_len_seqK (K := K) rfl) rfl T.n_len (by decide +kernel) (pa_cons (pe_slice (sl_listK (K := K) rfl) (pv 3) po_none (po_some pe_int)) pa_nil)) pe_int) pa_nil))))
        (pss_cons (ps_set (i := 8) sc_law.nd rfl (Or.inl rfl) (pe_call G_l_pick (hr.mono (by decide)) rfl T.m_l_pick T.F_l_pick.kp T.b_l_pick .nil pass0 (pa_cons (pv 1) (pa_cons (pe_lst (pa_cons (pe_un un_neg pe_int) (pa_cons pe_int (pa_cons pe_non (pa_cons pe_bl (pa_cons pe_str (pa_cons (pe_tup (pa_cons pe_int pa_nil)) (pa_cons (pe_lst (pa_cons pe_int pa_nil)) (pa_cons (pe_op op_pow pe_int pe_int) pa_nil))))))))) pa_nil))))
        (pss_one (ps_if (pt_cmpR (op_neD hr.units) (pe_call G_l_written (hr.mono (by decide)) rfl T.m_l_written T.F_l_written.kp T.b_l_written .nil pass0 (pa_cons (pe_op op_cat (pe_slice (sl_listK (K := K) rfl) (pv 3) po_none (po_some (pv 7))) (pe_lst (pa_cons (pv 8) (pa_cons pe_non pa_nil)))) pa_nil)) (pe_tup (pa_cons pe_str (pa_cons (pv 7) pa_nil))) (nomark _)) (pss_one (ps_ret pe_bl)) pss_nil)))))))))))))
        (pss_cons (ps_set (i := 9) sc_law.nd rfl (Or.inl rfl) (pe_call G_l_pick (hr.mono (by decide)) rfl T.m_l_pick T.F_l_pick.kp T.b_l_pick .nil pass0 (pa_cons (pv 1) (pa_cons (pe_lst (pa_cons pe_non (pa_cons pe_int (pa_cons pe_str (pa_cons pe_dnewK (pa_cons pe_bl (pa_cons (pe_make T.M_Loom G_Loom_init (hr.mono (by decide)) rfl T.g_Loom T.b_Loom_init .nil pass0 (pa_cons pe_str (pa_cons (pe_lst (pa_cons (pe_tup (pa_cons pe_int (pa_cons pe_str (pa_cons pe_int pa_nil)))) pa_nil)) pa_nil))) pa_nil))))))) pa_nil))))
        (pss_cons (ps_if (PW.pt (pw_or (pt_cmpR (op_neD hr.units) (pe_call G_l_written (hr.mono (by decide)) rfl T.m_l_written T.F_l_written.kp T.b_l_written .nil pass0 (pa_cons (pv 9) pa_nil)) (pe_tup (pa_cons pe_str (pa_cons (pe_un un_neg pe_int) pa_nil))) (nomark _)) (pw_or (pt_cmpR op_ne (pe_callN0 G_write_row (hr.mono (by decide)) rfl T.m_write_row T.F_write_row.kp KB_write_row_row passL (pk_cons (pe_lst (pa_cons pe_int (pa_cons pe_int pa_nil))) pk_nil)) pe_str (nomark _)) (pw_or1 (pt_cmpR (op_neD hr.units) (pe_callN0 G_read_row (hr.mono (by decide)) rfl T.m_read_row T.F_read_row.kp KB_read_row_text passL (pk_cons pe_str pk_nil)) (pe_lst (pa_cons pe_int pa_nil)) (nomark _)))))) (pss_one (ps_ret pe_bl)) pss_nil)
        (pss_one (ps_ret (pe_cmpR (op_eqD hr.units) (pe_call G_l_read (hr.mono (by decide)) rfl T.m_l_read T.F_l_read.kp T.b_l_read .nil pass0 (pa_cons (pe_call G_l_pick (hr.mono (by decide)) rfl T.m_l_pick T.F_l_pick.kp T.b_l_pick .nil pass0 (pa_cons (pv 1) (pa_cons (pe_lst (pa_cons pe_non (pa_cons pe_int (pa_cons (pe_lst (pa_cons pe_str pa_nil)) (pa_cons (pe_tup pa_nil) (pa_cons pe_dnewK (pa_cons pe_bl pa_nil))))))) pa_nil))) pa_nil)) (pe_tup (pa_cons pe_str (pa_cons pe_int pa_nil))) (nomark _)))))))), ?_⟩
    refine ⟨_, rfl, a, ns, rfl, hS, hlen, fun p H1 st1 s1 hp0 => ?_⟩
    refine ⟨4, rfl, by decide, by decide, for_range (lo := 0) (n := 4) (fun i σ H' => ∃ v2 v3 v4 v5 v6 v7 v8 v9 : Option V, σ = [some (.ref a), some (.ref p), v2, v3, v4, v5, v6, v7, v8, v9, none] ∧ PoolAt H' p) ?_ ?_ ?_⟩
    · exact ⟨none, none, none, none, none, none, none, none, rfl, st1⟩
    · rintro i σ H2 hi ⟨v2, v3, v4, v5, v6, v7, v8, v9, rfl, st2⟩
      refine ⟨_, rfl, p, 13, rfl, st2, by decide, by decide, fun H3 r x3 r0 r1 => ?_⟩
      refine ⟨_, rfl, by omega, by omega, fun D hD => lc_range (lo := 0) (n := r.toNat) (fun j H' => ∃ ls : List Nat, ls.length = j ∧ (∀ n ∈ ls, n < 200) ∧ H' D = some (.lst (nsV ls)) ∧ Dr p H3 H' ∧ Off H' p D) ?_ ?_ ?_⟩
      · exact ⟨[], rfl, fun _ h => (nomatch h), upd_same, (Dr.refl x3.2.1).new hD, Off.new x3.2.1 hD⟩
      · rintro j H4 hj ⟨ls, rfl, hls, hDs, x4, o4⟩
        refine ⟨rfl, ?_⟩
        refine ⟨_, rfl, p, 200, rfl, x4.2.1, by decide, by decide, fun H5 r5 x5 r50 r51 => ?_⟩
        obtain ⟨n, rfl⟩ := Int.eq_ofNat_of_zero_le r50
        have o5 := x5.2.2 _ o4
        refine ⟨_, o4.at x5 hDs, lt_size (by rw [nsV_len]; omega), ls ++ [n], by simp, ?_, ?_, (x4.trans x5).upd hD o5, o5.upd o5⟩
        · intro d hd
          rcases List.mem_append.mp hd with h | h
          · exact hls d h
          · rw [List.mem_singleton.mp h]; omega
        · rw [upd_same]; simp [nsV]
      · rintro H4 ⟨ls, hl, hls, hDs, x4, o4⟩
        refine ⟨fun σ' H' => ∃ (q : Addr) (ns : List Nat), σ' = [some (.ref a), some (.ref p), some (.int (0 + (i : Int))), some (.ref q), v4, v5, v6, v7, v8, v9, none] ∧ PoolAt H' p ∧ q ≠ p ∧ H' q = some (.lst (nsV ns)) ∧ (∀ n ∈ ns, n < 200) ∧ ns.length ≤ 2001, ?_, ?_⟩
        · refine ⟨_, rfl, p, 30, rfl, x4.2.1, by decide, by decide, fun H5 r5 x5 r50 r51 => ?_⟩
          have hD5 := o4.at x5 hDs
          refine ⟨rfl, _, rfl, ?_⟩
          refine ite2 (fun c => ?_) (fun c => ?_)
          · refine ⟨le_size (by simp), fun b hb => ?_⟩
            have s6 : Same H5 (upd H5 b (.lst [.int 7])) := Same.new _ hb
            have g6 : upd H5 b (.lst [.int 7]) b = some (.lst (nsV [7])) := upd_same
            generalize upd H5 b (.lst [.int 7]) = H6 at *
            refine ⟨_, rfl, _, _, _, _, rfl, rfl, g6, s6 _ _ hD5, le_size (by rw [nsV_len, nsV_len]; simp; omega), fun b2 hb2 => ?_⟩
            have e7 : nsV [7] ++ nsV ls = nsV (7 :: ls) := rfl
            rw [e7]
            have s7 : Same H6 (upd H6 b2 (.lst (nsV (7 :: ls)))) := Same.new _ hb2
            have g7 : upd H6 b2 (.lst (nsV (7 :: ls))) b2 = some (.lst (nsV (7 :: ls))) := upd_same
            generalize upd H6 b2 (.lst (nsV (7 :: ls))) = H7 at *
            have l7 : (7 :: ls).length ≤ 13 := by simp; omega
            have hls7 : ∀ n ∈ 7 :: ls, n < 200 := fun n hn => by
              rcases List.mem_cons.mp hn with rfl | hn
              · decide
              · exact hls n hn
            have l71 : 1 ≤ (7 :: ls).length := by simp
            generalize 7 :: ls = ls7 at *
            refine ⟨b2, 2001, _, rfl, rfl, g7, by decide, by decide, le_size (by show (nsV ls7).length * 2001 ≤ 100000; rw [nsV_len]; omega), fun b3 hb3 => ?_⟩
            have s8 : Same H7 (upd H7 b3 (.lst (List.replicate (2001 : Int).toNat (nsV ls7)).flatten)) := Same.new _ hb3
            have g8 : upd H7 b3 (.lst (List.replicate (2001 : Int).toNat (nsV ls7)).flatten) b3 = some (.lst (nsV (List.replicate 2001 ls7).flatten)) := by rw [upd_same]; exact congrArg (fun l => some (HO.lst l)) (nsV_rep 2001 ls7)
            generalize upd H7 b3 (.lst (List.replicate (2001 : Int).toNat (nsV ls7)).flatten) = H8 at *
            have x58 : Dr p H5 H8 := Dr.same x5.2.1 ((s6.trans s7).trans s8)
            have st7 : PoolAt H7 p := (x5.2.1.same s6).same s7
            refine ⟨_, rfl, _, rfl, p, 2, rfl, x58.2.1, by decide, by decide, fun H9 r9 x9 r90 r91 => ⟨_, _, rfl, rfl, ?_⟩⟩
            obtain ⟨m, rfl⟩ := Int.eq_ofNat_of_zero_le r90
            have g9 := x9.1 _ _ (st7.ne hb3) g8
            refine ⟨_, rfl, b3, _, rfl, SqL.of g9, fun b4 hb4 => ?_⟩
            have e10 : cutV (nsV (List.replicate 2001 ls7).flatten) none (some ((2000 : Int) + (m : Int))) = nsV ((List.replicate 2001 ls7).flatten.take (2000 + m)) := by
              rw [show (2000 : Int) + (m : Int) = ((2000 + m : Nat) : Int) by omega, cut_to, nsV_take]
            refine ⟨b4, _, rfl, x9.2.1.same (Same.new _ hb4), x9.2.1.ne hb4, by rw [upd_same]; exact congrArg (fun l => some (HO.lst l)) e10, fun n hn => hls7 n (rep_mem (List.mem_of_mem_take hn)), by rw [List.length_take]; omega⟩
          · exact ⟨D, ls, rfl, x5.2.1, o4.1, hD5, hls, by omega⟩
        · rintro σ' H5 ⟨q, ns, rfl, st5, nqp, hq, hns, hnl⟩
          refine ⟨fun σ' H' => ∃ v : V, σ' = [some (.ref a), some (.ref p), some (.int (0 + (i : Int))), some (.ref q), some v, v5, v6, v7, v8, v9, none] ∧ PoolAt H' p ∧ H' q = some (.lst (nsV ns)) ∧ DueAt H' ns v, ?_, ?_⟩
          · refine ⟨_, rfl, q, _, rfl, .inl (SqL.of hq), _, _, rfl, rfl, _, rfl, ?_⟩
            refine ite2 (fun c => ?_) (fun c => ?_)
            · have c1 := of_decide_eq_true c
              rw [nsV_len] at c1
              refine ⟨_, rfl, le_size (by simp), fun r hr => ?_⟩
              have sr : Same H5 (upd H5 r (.tup [.str "row", .int (-1)])) := Same.new _ hr
              exact ⟨_, rfl, st5.same sr, sr _ _ hq, .inr ⟨by omega, r, rfl, upd_same⟩⟩
            · have c1 : ns.length ≤ 2000 := by
                have z : ¬ ((2000 : Int) < ((nsV ns).length : Int)) := fun z => c (decide_eq_true z)
                rw [nsV_len] at z
                omega
              refine ⟨_, rfl, q, ns, rfl, hq, hns, c1, ?_⟩
              exact ⟨_, rfl, st5, hq, .inl ⟨c1, rfl⟩⟩
          · rintro σ' H6 ⟨due, rfl, st6, hq6, hdue⟩
            refine ⟨fun σ' H' => σ' = [some (.ref a), some (.ref p), some (.int (0 + (i : Int))), some (.ref q), some due, v5, v6, v7, v8, v9, none] ∧ PoolAt H' p ∧ H' q = some (.lst (nsV ns)) ∧ DueAt H' ns due, ?_, ?_⟩
            · refine ⟨_, rfl, .ref q, some (nsV ns), rfl, thg_l hq6 (by omega), ?_⟩
              rcases hdue with ⟨hl, rfl⟩ | ⟨hl, hrow⟩
              · refine .inl ⟨ns, rfl, hns, hl, fun H7 s7 => ⟨_, rfl, ne_strs (line_ch hns) ⟨false, rfl, ?_⟩⟩⟩
                refine ⟨_, rfl, q, _, rfl, .inl ⟨SqL.of (s7 _ _ hq6), fun t ht => ?_⟩⟩
                have s8 : Same H7 (upd H7 t (.tup (nsV ns))) := Same.new _ ht
                refine ⟨.ref t, some (nsV ns), rfl, thg_t upd_same (by omega), .inl ⟨ns, rfl, hns, hl, fun H8 s9 => ⟨_, rfl, ne_strs (line_ch hns) ⟨false, rfl, ?_⟩⟩⟩⟩
                have s := (s7.trans s8).trans s9
                exact ⟨rfl, st6.same s, s _ _ hq6, .inl ⟨hl, rfl⟩⟩
              · refine .inr ⟨-1, wr_long hl, fun H7 r s7 hr0 hr => ⟨_, rfl, ne_rows ⟨r, rfl, hr⟩ (hrow.same s7) ⟨false, rfl, ?_⟩⟩⟩
                refine ⟨_, rfl, q, _, rfl, .inl ⟨SqL.of (s7 _ _ hq6), fun t ht => ?_⟩⟩
                have s8 : Same H7 (upd H7 t (.tup (nsV ns))) := Same.new _ ht
                refine ⟨.ref t, some (nsV ns), rfl, thg_t upd_same (by omega), .inr ⟨-1, wr_long hl, fun H8 r2 s9 hr20 hr2 => ⟨_, rfl, ne_rows ⟨r2, rfl, hr2⟩ (((hrow.same s7).same s8).same s9) ⟨false, rfl, ?_⟩⟩⟩⟩
                have s := (s7.trans s8).trans s9
                exact ⟨rfl, st6.same s, s _ _ hq6, .inr ⟨hl, hrow.same s⟩⟩
            · rintro σ' H7 ⟨rfl, st7, hq7, hdue⟩
              refine ⟨fun σ' H' => ∃ v4 v5 : Option V, σ' = [some (.ref a), some (.ref p), some (.int (0 + (i : Int))), some (.ref q), v4, v5, v6, v7, v8, v9, none] ∧ PoolAt H' p ∧ H' q = some (.lst (nsV ns)), ?_, ?_⟩
              · refine ⟨_, rfl, q, _, rfl, .inl (SqL.of hq7), _, _, rfl, rfl, _, rfl, ?_⟩
                refine ite2 (fun c => ?_) (fun c => ?_)
                · have c1 := of_decide_eq_true c
                  rw [nsV_len] at c1
                  rcases hdue with ⟨hl, rfl⟩ | ⟨hl, _⟩
                  case inr => omega
                  have ll := line_len hns
                  refine ⟨_, rfl, _, rfl, .inl ⟨lineOf ns, rfl, by omega, .inl ⟨ns, readR_line hns hl, fun H8 t s8 t0 ht => ?_⟩⟩⟩
                  refine ⟨_, rfl, _, rfl, t, q, ns, rfl, ht, s8 _ _ hq7, by omega, fun H9 s9 => ⟨true, rfl, ?_⟩⟩
                  have ht9 := s9 _ _ ht
                  have s79 := s8.trans s9
                  refine ⟨_, rfl, .inl ⟨rfl, _, SqL.of ht9⟩, t, _, _, rfl, rfl, ht9, lt_size (by rw [nsV_len]; omega), ?_⟩
                  have s10 : Same H7 (upd H9 t (.lst (nsV ns ++ [.non]))) := s79.updNew t0
                  have st10 : PoolAt (upd H9 t (.lst (nsV ns ++ [.non]))) p := (st7.same s79).upd (Off.since st7 t0 s79 ht9)
                  generalize upd H9 t (.lst (nsV ns ++ [.non])) = H10 at *
                  refine ⟨_, rfl, _, rfl, .inl ⟨lineOf ns, rfl, by omega, .inl ⟨ns, readR_line hns hl, fun H11 t2 s11 t20 ht2 => ?_⟩⟩⟩
                  refine ⟨_, rfl, t2, q, ns, rfl, ht2, s11 _ _ (s10 _ _ hq7), by omega, fun H12 s12 => ⟨true, rfl, ?_⟩⟩
                  exact ⟨_, _, rfl, (st10.same s11).same s12, s12 _ _ (s11 _ _ (s10 _ _ hq7))⟩
                · exact ⟨_, _, rfl, st7, hq7⟩
              · rintro σ' H8 ⟨w4, w5, rfl, st8, hq8⟩
                refine ⟨_, rfl, _, rfl, _, rfl, q, _, rfl, SqL.of hq8, fun b hb => ?_⟩
                have e9 : cutV (nsV ns) none (some 12) = nsV (ns.take 12) := (cut_to _ 12).trans (nsV_take 12 ns)
                rw [e9]
                have s9 : Same H8 (upd H8 b (.lst (nsV (ns.take 12)))) := Same.new _ hb
                have g9 : upd H8 b (.lst (nsV (ns.take 12))) b = some (.lst (nsV (ns.take 12))) := upd_same
                generalize upd H8 b (.lst (nsV (ns.take 12))) = H9 at *
                have hns12 : ∀ n ∈ ns.take 12, n < 200 := fun n hn => hns n (List.mem_of_mem_take hn)
                have l12 : (ns.take 12).length ≤ 12 := by rw [List.length_take]; omega
                have ll := line_len hns12
                refine ⟨b, ns.take 12, rfl, g9, hns12, by omega, p, lineOf (ns.take 12), rfl, st8.same s9, by omega, line_ch hns12, fun H10 l x10 hl hch => ?_⟩
                have st10 := x10.2.1
                have hq10 := x10.1 _ _ nqp (s9 _ _ hq8)
                refine ⟨fun σ' H' => ∃ u v : V, σ' = [some (.ref a), some (.ref p), some (.int (0 + (i : Int))), some (.ref q), some v, some u, some (.str (SX.S l)), v7, v8, v9, none] ∧ PoolAt H' p ∧ H' q = some (.lst (nsV ns)) ∧
                  ((∃ (t d : Addr) (ms : List Nat), u = .ref t ∧ v = .ref d ∧ H' t = some (.lst (nsV ms)) ∧ H' d = some (.lst (nsV ms)) ∧ ms.length ≤ 5000) ∨ (v = .non ∧ ∃ r, u = .ref r ∧ pageT H' r)), ?_, ?_⟩
                · refine ⟨_, rfl, .str (SX.S l), rfl, .inl ⟨l, rfl, by omega, ?_⟩⟩
                  cases hrd : readR l with
                  | some ms =>
                    refine .inl ⟨ms, rfl, fun H11 t s11 t0 ht => ?_⟩
                    refine ⟨_, rfl, l, rfl, by omega, hch, .inl ⟨ms, hrd, fun H12 d s12 d0 hd => ?_⟩⟩
                    have hm := readR_len hrd
                    exact ⟨_, _, rfl, _, _, rfl, (st10.same s11).same s12, s12 _ _ (s11 _ _ hq10), .inl ⟨t, d, ms, rfl, rfl, s12 _ _ ht, hd, by omega⟩⟩
                  | none =>
                    refine .inr ⟨rfl, fun H11 r s11 r0 hr => ?_⟩
                    refine ⟨_, rfl, l, rfl, by omega, hch, .inr ⟨hrd, fun H12 s12 => ?_⟩⟩
                    exact ⟨_, _, rfl, _, _, rfl, (st10.same s11).same s12, s12 _ _ (s11 _ _ hq10), .inr ⟨rfl, r, rfl, s12 _ _ hr⟩⟩
                · rintro σ' H11 ⟨u, v, rfl, st11, hq11, hcase⟩
                  refine ⟨fun σ' H' => σ' = [some (.ref a), some (.ref p), some (.int (0 + (i : Int))), some (.ref q), some v, some u, some (.str (SX.S l)), v7, v8, v9, none] ∧ PoolAt H' p ∧ H' q = some (.lst (nsV ns)), ?_, ?_⟩
                  · rcases hcase with ⟨t, d, ms, rfl, rfl, ht, hd, hm⟩ | ⟨rfl, r, rfl, hr⟩
                    · refine ⟨_, rfl, rfl, false, congrArg V.bl (decide_eq_false (fun z => nomatch z)), ?_⟩
                      refine ⟨_, rfl, rfl, true, congrArg V.bl (dne_t (fun z => nomatch z)), ?_⟩
                      refine ⟨_, rfl, _, rfl, t, d, ms, rfl, ht, hd, hm, fun H12 s12 => ⟨true, rfl, ?_⟩⟩
                      exact ⟨rfl, st11.same s12, s12 _ _ hq11⟩
                    · refine ⟨_, rfl, rfl, true, congrArg V.bl (decide_eq_true rfl), ?_⟩
                      refine ⟨_, rfl, le_size (by simp), fun r2 hr2 => ?_⟩
                      have s12 : Same H11 (upd H11 r2 (.tup [.str "page", .int 0])) := Same.new _ hr2
                      refine ne_pages (s12 _ _ hr) upd_same ⟨false, rfl, ?_⟩
                      refine ⟨_, rfl, rfl, false, congrArg V.bl (dne rfl), ?_⟩
                      exact ⟨rfl, st11.same s12, s12 _ _ hq11⟩
                  · rintro σ' H12 ⟨rfl, st12, hq12⟩
                    refine ⟨_, rfl, _, rfl, _, rfl, q, _, rfl, SqL.of hq12, fun b2 hb2 => ?_⟩
                    rw [e9]
                    have s13 : Same H12 (upd H12 b2 (.lst (nsV (ns.take 12)))) := Same.new _ hb2
                    have g13 : upd H12 b2 (.lst (nsV (ns.take 12))) b2 = some (.lst (nsV (ns.take 12))) := upd_same
                    generalize upd H12 b2 (.lst (nsV (ns.take 12))) = H13 at *
                    refine ⟨b2, _, rfl, .inl (SqL.of g13), _, _, rfl, rfl, p, _, rfl, st12.same s13, by rw [nsV_len]; omega, by rw [nsV_len]; omega, fun H14 r14 x14 r140 r141 => ?_⟩
                    rw [nsV_len] at r141
                    obtain ⟨at', rfl⟩ := Int.eq_ofNat_of_zero_le r140
                    have hq14 := x14.1 _ _ nqp (s13 _ _ hq12)
                    refine ⟨_, rfl, _, rfl, le_size (by simp), fun t1 ht1 => ?_⟩
                    have s15 : Same H14 (upd H14 t1 (.tup [.int 1])) := Same.new _ ht1
                    have g15 : upd H14 t1 (.tup [.int 1]) t1 = some (.tup [.int 1]) := upd_same
                    have n1 := x14.2.1.ne ht1
                    generalize upd H14 t1 (.tup [.int 1]) = H15 at *
                    have st15 := x14.2.1.same s15
                    refine ⟨le_size (by simp), fun t2 ht2 => ?_⟩
                    have s16 : Same H15 (upd H15 t2 (.lst [.int 1])) := Same.new _ ht2
                    have g16 : upd H15 t2 (.lst [.int 1]) t2 = some (.lst [.int 1]) := upd_same
                    have n2 := st15.ne ht2
                    replace g15 := s16 _ _ g15
                    generalize upd H15 t2 (.lst [.int 1]) = H16 at *
                    have st16 := st15.same s16
                    refine ⟨_, _, rfl, rfl, ⟨by decide, by decide, by decide⟩, le_size (by simp), fun m hm => ?_⟩
                    have s17 : Same H16 (upd H16 m (.lst [.int (-1), .int 200, .non, .bl true, .str "3", .ref t1, .ref t2, .int (10 ^ (20 : Int).toNat)])) := Same.new _ hm
                    have g17 : upd H16 m (.lst [.int (-1), .int 200, .non, .bl true, .str "3", .ref t1, .ref t2, .int (10 ^ (20 : Int).toNat)]) m = some (.lst [.int (-1), .int 200, .non, .bl true, .str "3", .ref t1, .ref t2, .int (10 ^ (20 : Int).toNat)]) := upd_same
                    have nm := st16.ne hm
                    have st17 := st16.same s17
                    have hq17 := s17 _ _ (s16 _ _ (s15 _ _ hq14))
                    replace g15 := s17 _ _ g15
                    replace g16 := s17 _ _ g16
                    generalize upd H16 m (.lst [.int (-1), .int 200, .non, .bl true, .str "3", .ref t1, .ref t2, .int (10 ^ (20 : Int).toNat)]) = H17 at *
                    have odd : ∀ v ∈ ([.int (-1), .int 200, .non, .bl true, .str "3", .ref t1, .ref t2, .int (10 ^ (20 : Int).toNat)] : List V), OddP K p H17 v :=
                      all_cons ⟨by decide, fun _ _ => .int _⟩ (all_cons ⟨by decide, fun _ _ => .int _⟩ (all_cons ⟨rfl, fun _ _ => .other (.x (.base .non)) (kit_ty (by decide +kernel)) (fun i e => nomatch e)⟩ (all_cons ⟨rfl, fun _ _ => .bl _⟩
                        (all_cons ⟨rfl, fun _ _ => .other (.x (.base (.str _))) (kit_ty (by decide +kernel)) (fun i e => nomatch e)⟩ (all_cons ⟨rfl, fun _ x => .other (.x (.base (.tup (x _ _ n1 g15)))) (kit_ty (by decide +kernel)) (fun i e => nomatch e)⟩
                        (all_cons ⟨rfl, fun _ x => .other (.x (.base (.lst (x _ _ n2 g16)))) (kit_ty (by decide +kernel)) (fun i e => nomatch e)⟩ (all_cons ⟨by decide, fun _ _ => .int _⟩ all_nil)))))))
                    refine ⟨p, m, _, rfl, st17, nm, g17, by simp, by simp, fun H18 od x18 hod => ?_⟩
                    obtain ⟨hok, hit⟩ := odd od hod
                    replace hit := hit H18 x18.1
                    have hq18 := x18.1 _ _ nqp hq17
                    have st18 := x18.2.1
                    clear odd hod g15 g16 g17 x18 hq17 st17 s17 s16 s15 hm ht1 ht2 n1 n2 nm
                    refine ⟨_, rfl, _, rfl, _, rfl, q, _, rfl, SqL.of hq18, fun b3 hb3 => ?_⟩
                    have e19 : cutV (nsV ns) none (some (at' : Int)) = nsV (ns.take at') := (cut_to _ at').trans (nsV_take at' ns)
                    rw [e19]
                    have s19 : Same H18 (upd H18 b3 (.lst (nsV (ns.take at')))) := Same.new _ hb3
                    have g19 : upd H18 b3 (.lst (nsV (ns.take at'))) b3 = some (.lst (nsV (ns.take at'))) := upd_same
                    generalize upd H18 b3 (.lst (nsV (ns.take at'))) = H19 at *
                    refine ⟨_, rfl, le_size (by simp), fun b4 hb4 => ?_⟩
                    have s20 : Same H19 (upd H19 b4 (.lst [od, .non])) := Same.new _ hb4
                    have g20 : upd H19 b4 (.lst [od, .non]) b4 = some (.lst [od, .non]) := upd_same
                    replace g19 := s20 _ _ g19
                    generalize upd H19 b4 (.lst [od, .non]) = H20 at *
                    have lat : (ns.take at').length = at' := by
                      rw [List.length_take] at r141 ⊢
                      omega
                    have la12 : at' ≤ 12 := by omega
                    refine ⟨_, _, _, _, rfl, rfl, g19, g20, le_size (by rw [nsV_len]; simp; omega), fun b5 hb5 => ?_⟩
                    have s21 : Same H20 (upd H20 b5 (.lst (nsV (ns.take at') ++ [od, .non]))) := Same.new _ hb5
                    have g21 : upd H20 b5 (.lst (nsV (ns.take at') ++ [od, .non])) b5 = some (.lst (nsV (ns.take at') ++ [od, .non])) := upd_same
                    generalize upd H20 b5 (.lst (nsV (ns.take at') ++ [od, .non])) = H21 at *
                    have s1821 : Same H18 H21 := (s19.trans s20).trans s21
                    have hits : ∀ x ∈ nsV (ns.take at') ++ [od, .non], It K H21 x := fun x hx => by
                      rcases List.mem_append.mp hx with hx | hx
                      · exact it_ns _ x hx
                      · simp only [List.mem_cons, List.not_mem_nil, or_false] at hx
                        rcases hx with rfl | rfl
                        · exact hit.same s1821
                        · exact .other (.x (.base .non)) (kit_ty (by decide +kernel)) (fun i e => nomatch e)
                    have hwr : wrV (some (nsV (ns.take at') ++ [od, .non])) = .int (at' : Int) := by
                      dsimp only [wrV]
                      rw [if_pos (by rw [List.length_append, nsV_len]; simp; omega), badAt_odd (ns.take at') (fun n hn => hns n (List.mem_of_mem_take hn)) od [.non] hok 0, lat]
                      simp
                    refine ⟨.ref b5, some (nsV (ns.take at') ++ [od, .non]), rfl, .seq (.inl g21) hits (by rw [List.length_append, nsV_len]; simp; omega), .inr ⟨at', hwr, fun H22 r22 s22 r220 hr22 => ?_⟩⟩
                    refine ⟨_, rfl, le_size (by simp), fun r23 hr23 => ?_⟩
                    have s23 : Same H22 (upd H22 r23 (.tup [.str "row", .int (at' : Int)])) := Same.new _ hr23
                    have g23 : upd H22 r23 (.tup [.str "row", .int (at' : Int)]) r23 = some (.tup [.str "row", .int (at' : Int)]) := upd_same
                    refine ne_rows ⟨r22, rfl, s23 _ _ hr22⟩ ⟨r23, rfl, g23⟩ ⟨false, rfl, ?_⟩
                    exact ⟨_, _, _, _, _, _, _, _, rfl, (st18.same (s1821.trans s22)).same s23⟩
    · rintro σ H2 ⟨v2, v3, v4, v5, v6, v7, v8, v9, rfl, st2⟩
      refine ⟨_, rfl, fun d hd0 => ?_⟩
      have s3 : Same H2 (upd H2 d (.dK [])) := Same.new _ hd0
      have g3 : upd H2 d (.dK []) d = some (.dK []) := upd_same
      have nd3 := st2.ne hd0
      have st3 := st2.same s3
      generalize upd H2 d (.dK []) = H3 at *
      refine ⟨le_size (by simp), fun t ht => ?_⟩
      have s4 : Same H3 (upd H3 t (.tup [.int 0, .str "a", .int 0])) := Same.new _ ht
      have g4 : upd H3 t (.tup [.int 0, .str "a", .int 0]) t = some (arcHO (0, [97], 0)) := upd_same
      replace g3 := s4 _ _ g3
      have st4 := st3.same s4
      generalize upd H3 t (.tup [.int 0, .str "a", .int 0]) = H4 at *
      refine ⟨le_size (by simp), fun Lr hLr => ?_⟩
      have s5 : Same H4 (upd H4 Lr (.lst [.ref t])) := Same.new _ hLr
      have g5 : upd H4 Lr (.lst [.ref t]) Lr = some (.lst [.ref t]) := upd_same
      replace g3 := s5 _ _ g3
      replace g4 := s5 _ _ g4
      have st5 := st4.same s5
      generalize upd H4 Lr (.lst [.ref t]) = H5 at *
      have harc : Arcs H5 [.ref t] [(0, [97], 0)] := (Arcs.nil H5).snoc g4
      refine fun x dx hx hdx hne => ?_
      have S : Same H5 (upd (upd H5 dx (.own x)) x (.ins T.C_Loom dx [])) := (Same.new _ hdx).trans (Same.new _ (by rw [upd_ne hne.symm]; exact hx))
      have hsg : Signs [97] := by decide
      have hok : OkW [97] [(0, [97], 0)] := ⟨by decide, by decide, fun b hb => by rw [List.mem_singleton.mp hb]; exact ⟨by decide, ⟨by decide, by decide, fun c hc => hc⟩, by decide⟩⟩
      refine ⟨x, dx, Lr, [97], _, _, rfl, upd_same, S _ _ g5, harc.same S, hok, hsg, fun H6 Tt x6 hT hTus g6 => ⟨rfl, ?_⟩⟩
      have s6 : Same H5 H6 := fun b o e => x6 _ _ (ne_of_none e hx) (S _ _ e)
      have nxp := st5.ne hx
      replace g3 := s6 _ _ g3
      have st6 := st5.same s6
      refine ⟨le_size (by simp), fun m hm => ?_⟩
      have s7 : Same H6 (upd H6 m (.lst [.non, .int 0, .str "1 2", .ref d, .bl true, .ref x])) := Same.new _ hm
      have g7 : upd H6 m (.lst [.non, .int 0, .str "1 2", .ref d, .bl true, .ref x]) m = some (.lst [.non, .int 0, .str "1 2", .ref d, .bl true, .ref x]) := upd_same
      have nm := st6.ne hm
      have st7 := st6.same s7
      replace g3 := s7 _ _ g3
      replace g6 := s7 _ _ g6
      generalize upd H6 m (.lst [.non, .int 0, .str "1 2", .ref d, .bl true, .ref x]) = H7 at *
      have odd : ∀ v ∈ ([.non, .int 0, .str "1 2", .ref d, .bl true, .ref x] : List V), NonP K p H7 v :=
        all_cons (fun _ _ => .non (.x (.base .non)) (kit_no (kit_ty (by decide +kernel)) (kit_ty (by decide +kernel)))) (all_cons (fun _ _ => .non (.x (.base (.int _))) (kit_no (kit_ty (by decide +kernel)) (kit_ty (by decide +kernel))))
          (all_cons (fun _ _ => .non (.x (.base (.str _))) (kit_no (kit_ty (by decide +kernel)) (kit_ty (by decide +kernel)))) (all_cons (fun _ z => .non (.x (.base (.dK (z _ _ nd3 g3)))) (kit_no (kit_ty (by decide +kernel)) (kit_ty (by decide +kernel))))
          (all_cons (fun _ _ => .non (.x (.base (.bl _))) (kit_no (kit_ty (by decide +kernel)) (kit_ty (by decide +kernel)))) (all_cons (fun _ z => .non (.x (.base (.ins (z _ _ nxp g6) T.cl_Loom T.ic_Loom T.ig T.it T.im_Loom))) (kit_no (kit_cls (by decide +kernel) T.sl_Loom) (kit_cls (by decide +kernel) T.st_Loom))) all_nil)))))
      refine ⟨p, m, _, rfl, st7, nm, g7, by simp, by simp, fun H8 od x8 hod => ?_⟩
      have th := odd od hod H8 x8.1
      have st8 := x8.2.1
      refine ⟨_, rfl, od, none, rfl, th, .inr ⟨-1, rfl, fun H9 r9 s9 r90 hr9 => ?_⟩⟩
      refine ⟨_, rfl, le_size (by simp), fun r10 hr10 => ?_⟩
      have s10 : Same H9 (upd H9 r10 (.tup [.str "row", .int (-1)])) := Same.new _ hr10
      have g10 : upd H9 r10 (.tup [.str "row", .int (-1)]) r10 = some (.tup [.str "row", .int (-1)]) := upd_same
      refine ne_rows ⟨r9, rfl, s10 _ _ hr9⟩ ⟨r10, rfl, g10⟩ ⟨false, rfl, ?_⟩
      have st10 := (st8.same s9).same s10
      generalize upd H9 r10 (.tup [.str "row", .int (-1)]) = H10 at *
      refine ⟨le_size (by simp), fun q1 hq1 => ?_⟩
      have s11 : Same H10 (upd H10 q1 (.lst [.int 1, .int 2])) := Same.new _ hq1
      have g11 : upd H10 q1 (.lst [.int 1, .int 2]) q1 = some (.lst (nsV [1, 2])) := upd_same
      have st11 := st10.same s11
      generalize upd H10 q1 (.lst [.int 1, .int 2]) = H11 at *
      have e12 : V.str (SX.S (lineOf [1, 2])) = V.str (Str.ofString "1 2") := congrArg (fun l => V.str (SX.S l)) (by decide +kernel : lineOf [1, 2] = [49, 32, 50])
      refine ⟨rfl, rfl, .ref q1, some (nsV [1, 2]), rfl, thg_l g11 (by decide), .inl ⟨[1, 2], rfl, by decide, by decide, fun H12 s12 => ⟨rfl, false, congrArg V.bl (dne e12), ?_⟩⟩⟩
      refine ⟨rfl, rfl, .str (SX.S [51]), rfl, .inl ⟨[51], rfl, by decide, .inl ⟨[3], (by decide +kernel : readR [51] = some [3]), fun H13 t s13 t0 ht13 => ?_⟩⟩⟩
      refine ⟨le_size (by simp), fun q2 hq2 => ?_⟩
      have s14 : Same H13 (upd H13 q2 (.lst [.int 3])) := Same.new _ hq2
      have g14 : upd H13 q2 (.lst [.int 3]) q2 = some (.lst (nsV [3])) := upd_same
      refine ne_nums (s14 _ _ ht13) g14 ⟨false, rfl, ?_⟩
      have st14 := ((st11.same s12).same s13).same s14
      generalize upd H13 q2 (.lst [.int 3]) = H14 at *
      refine ⟨_, rfl, le_size (by simp), fun b1 hb1 => ?_⟩
      have s15 : Same H14 (upd H14 b1 (.lst [.str "1"])) := Same.new _ hb1
      have g15 : upd H14 b1 (.lst [.str "1"]) b1 = some (.lst [.str "1"]) := upd_same
      have n15 := st14.ne hb1
      have st15 := st14.same s15
      generalize upd H14 b1 (.lst [.str "1"]) = H15 at *
      refine ⟨Nat.zero_le _, fun b2 hb2 => ?_⟩
      have s16 : Same H15 (upd H15 b2 (.tup [])) := Same.new _ hb2
      have g16 : upd H15 b2 (.tup []) b2 = some (.tup []) := upd_same
      have n16 := st15.ne hb2
      have st16 := st15.same s16
      replace g15 := s16 _ _ g15
      generalize upd H15 b2 (.tup []) = H16 at *
      intro b3 hb3
      have s17 : Same H16 (upd H16 b3 (.dK [])) := Same.new _ hb3
      have g17 : upd H16 b3 (.dK []) b3 = some (.dK []) := upd_same
      have n17 := st16.ne hb3
      have st17 := st16.same s17
      replace g15 := s17 _ _ g15
      replace g16 := s17 _ _ g16
      generalize upd H16 b3 (.dK []) = H17 at *
      refine ⟨le_size (by simp), fun m2 hm2 => ?_⟩
      have s18 : Same H17 (upd H17 m2 (.lst [.non, .int 0, .ref b1, .ref b2, .ref b3, .bl false])) := Same.new _ hm2
      have g18 : upd H17 m2 (.lst [.non, .int 0, .ref b1, .ref b2, .ref b3, .bl false]) m2 = some (.lst [.non, .int 0, .ref b1, .ref b2, .ref b3, .bl false]) := upd_same
      have n18 := st17.ne hm2
      have st18 := st17.same s18
      replace g15 := s18 _ _ g15
      replace g16 := s18 _ _ g16
      replace g17 := s18 _ _ g17
      generalize upd H17 m2 (.lst [.non, .int 0, .ref b1, .ref b2, .ref b3, .bl false]) = H18 at *
      have nos : ∀ v ∈ ([.non, .int 0, .ref b1, .ref b2, .ref b3, .bl false] : List V), NoS K p H18 v :=
        all_cons (fun _ _ => ⟨_, .x (.base .non), kit_ty (by decide +kernel)⟩) (all_cons (fun _ _ => ⟨_, .x (.base (.int _)), kit_ty (by decide +kernel)⟩) (all_cons (fun _ z => ⟨_, .x (.base (.lst (z _ _ n15 g15))), kit_ty (by decide +kernel)⟩)
          (all_cons (fun _ z => ⟨_, .x (.base (.tup (z _ _ n16 g16))), kit_ty (by decide +kernel)⟩) (all_cons (fun _ z => ⟨_, .x (.base (.dK (z _ _ n17 g17))), kit_ty (by decide +kernel)⟩) (all_cons (fun _ _ => ⟨_, .x (.base (.bl _)), kit_ty (by decide +kernel)⟩) all_nil)))))
      refine ⟨p, m2, _, rfl, st18, n18, g18, by simp, by simp, fun H19 od2 x19 hod2 => ?_⟩
      obtain ⟨ty, hty, hk⟩ := nos od2 hod2 H19 x19.1
      refine ⟨od2, rfl, .inr ⟨ty, hty, hk, fun H20 r20 s20 r200 hr20 => ?_⟩⟩
      refine ⟨le_size (by simp), fun r21 hr21 => ?_⟩
      have s21 : Same H20 (upd H20 r21 (.tup [.str "page", .int 0])) := Same.new _ hr21
      have g21 : pageT (upd H20 r21 (.tup [.str "page", .int 0])) r21 := upd_same
      exact eq_pages (s21 _ _ hr20) g21 (k _)
end
end J


set_option Elab.async false
set_option linter.all false
set_option maxRecDepth 100000
set_option maxHeartbeats 4000000
namespace J
open PySem L2
theorem all_mk {l : PySem.W.OpenLaw} {w : World} {K : PySem.W.Frag} {h : Heap} {mg : Str → Option Value} {fa f_InvalidLoom_init f_InvalidRow_init f_InvalidPage_init f_is_number f_is_sequence f_is_signs f_is_string_over f_is_word f_first_wrong f_check_signs f_is_arc f_Loom_init f_Loom_eq f_numbers_up_to f_write_row f_read_row f_l_pool f_l_draw f_l_pick f_l_line f_l_due f_l_read f_l_written f_l_spoiled f_l_same_lists f_law C_InvalidLoom C_InvalidPage C_InvalidRow C_Loom C_ReadError : Addr} (X : K.In h) (G : h.Ns mainGlobals mg) (hfa : mg "law" = some (.ref fa))
    {od_InvalidLoom_init an_InvalidLoom_init : Option Addr} {sl_InvalidLoom_init : Array (Option Value)} {oc_InvalidLoom_init kV_InvalidLoom_init dc_InvalidLoom_init pm_InvalidLoom_init cd_InvalidLoom_init ct_InvalidLoom_init : Value}
    {od_InvalidRow_init an_InvalidRow_init : Option Addr} {sl_InvalidRow_init : Array (Option Value)} {oc_InvalidRow_init kV_InvalidRow_init dc_InvalidRow_init pm_InvalidRow_init cd_InvalidRow_init ct_InvalidRow_init : Value}
    {od_InvalidPage_init an_InvalidPage_init : Option Addr} {sl_InvalidPage_init : Array (Option Value)} {oc_InvalidPage_init kV_InvalidPage_init dc_InvalidPage_init pm_InvalidPage_init cd_InvalidPage_init ct_InvalidPage_init : Value}
    {od_is_number an_is_number : Option Addr} {sl_is_number : Array (Option Value)} {oc_is_number kV_is_number dc_is_number pm_is_number cd_is_number ct_is_number : Value}
    {od_is_sequence an_is_sequence : Option Addr} {sl_is_sequence : Array (Option Value)} {oc_is_sequence kV_is_sequence dc_is_sequence pm_is_sequence cd_is_sequence ct_is_sequence : Value}
    {od_is_signs an_is_signs : Option Addr} {sl_is_signs : Array (Option Value)} {oc_is_signs kV_is_signs dc_is_signs pm_is_signs cd_is_signs ct_is_signs : Value}
    {od_is_string_over an_is_string_over : Option Addr} {sl_is_string_over : Array (Option Value)} {oc_is_string_over kV_is_string_over dc_is_string_over pm_is_string_over cd_is_string_over ct_is_string_over : Value}
    {od_is_word an_is_word : Option Addr} {sl_is_word : Array (Option Value)} {oc_is_word kV_is_word dc_is_word pm_is_word cd_is_word ct_is_word : Value}
    {od_first_wrong an_first_wrong : Option Addr} {sl_first_wrong : Array (Option Value)} {oc_first_wrong kV_first_wrong dc_first_wrong pm_first_wrong cd_first_wrong ct_first_wrong : Value}
    {od_check_signs an_check_signs : Option Addr} {sl_check_signs : Array (Option Value)} {oc_check_signs kV_check_signs dc_check_signs pm_check_signs cd_check_signs ct_check_signs : Value}
    {od_is_arc an_is_arc : Option Addr} {sl_is_arc : Array (Option Value)} {oc_is_arc kV_is_arc dc_is_arc pm_is_arc cd_is_arc ct_is_arc : Value}
    {od_Loom_init an_Loom_init : Option Addr} {sl_Loom_init : Array (Option Value)} {oc_Loom_init kV_Loom_init dc_Loom_init pm_Loom_init cd_Loom_init ct_Loom_init : Value}
    {od_Loom_eq an_Loom_eq : Option Addr} {sl_Loom_eq : Array (Option Value)} {oc_Loom_eq kV_Loom_eq dc_Loom_eq pm_Loom_eq cd_Loom_eq ct_Loom_eq : Value}
    {od_numbers_up_to an_numbers_up_to : Option Addr} {sl_numbers_up_to : Array (Option Value)} {oc_numbers_up_to kV_numbers_up_to dc_numbers_up_to pm_numbers_up_to cd_numbers_up_to ct_numbers_up_to : Value}
    {od_write_row an_write_row : Option Addr} {sl_write_row : Array (Option Value)} {oc_write_row kV_write_row dc_write_row pm_write_row cd_write_row ct_write_row : Value}
    {od_read_row an_read_row : Option Addr} {sl_read_row : Array (Option Value)} {oc_read_row kV_read_row dc_read_row pm_read_row cd_read_row ct_read_row : Value}
    {od_l_pool an_l_pool : Option Addr} {sl_l_pool : Array (Option Value)} {oc_l_pool kV_l_pool dc_l_pool pm_l_pool cd_l_pool ct_l_pool : Value}
    {od_l_draw an_l_draw : Option Addr} {sl_l_draw : Array (Option Value)} {oc_l_draw kV_l_draw dc_l_draw pm_l_draw cd_l_draw ct_l_draw : Value}
    {od_l_pick an_l_pick : Option Addr} {sl_l_pick : Array (Option Value)} {oc_l_pick kV_l_pick dc_l_pick pm_l_pick cd_l_pick ct_l_pick : Value}
    {od_l_line an_l_line : Option Addr} {sl_l_line : Array (Option Value)} {oc_l_line kV_l_line dc_l_line pm_l_line cd_l_line ct_l_line : Value}
    {od_l_due an_l_due : Option Addr} {sl_l_due : Array (Option Value)} {oc_l_due kV_l_due dc_l_due pm_l_due cd_l_due ct_l_due : Value}
    {od_l_read an_l_read : Option Addr} {sl_l_read : Array (Option Value)} {oc_l_read kV_l_read dc_l_read pm_l_read cd_l_read ct_l_read : Value}
    {od_l_written an_l_written : Option Addr} {sl_l_written : Array (Option Value)} {oc_l_written kV_l_written dc_l_written pm_l_written cd_l_written ct_l_written : Value}
    {od_l_spoiled an_l_spoiled : Option Addr} {sl_l_spoiled : Array (Option Value)} {oc_l_spoiled kV_l_spoiled dc_l_spoiled pm_l_spoiled cd_l_spoiled ct_l_spoiled : Value}
    {od_l_same_lists an_l_same_lists : Option Addr} {sl_l_same_lists : Array (Option Value)} {oc_l_same_lists kV_l_same_lists dc_l_same_lists pm_l_same_lists cd_l_same_lists ct_l_same_lists : Value}
    {od_law an_law : Option Addr} {sl_law : Array (Option Value)} {oc_law kV_law dc_law pm_law cd_law ct_law : Value}
    {nm_InvalidRow q_InvalidRow : Str} {ns_InvalidRow : Addr} {bs_InvalidRow : List Value} {sn_InvalidRow : List Str} {sub_InvalidRow : List Value} {ab_InvalidRow : Bool} {col_InvalidRow : Option Bool} {dd_InvalidRow : Option Addr} {m0_InvalidRow m1_InvalidRow m2_InvalidRow m3_InvalidRow m5_InvalidRow : Option Value}
    {nm_InvalidPage q_InvalidPage : Str} {ns_InvalidPage : Addr} {bs_InvalidPage : List Value} {sn_InvalidPage : List Str} {sub_InvalidPage : List Value} {ab_InvalidPage : Bool} {col_InvalidPage : Option Bool} {dd_InvalidPage : Option Addr} {m0_InvalidPage m1_InvalidPage m2_InvalidPage m3_InvalidPage m5_InvalidPage : Option Value}
    {t_MOST_SIGNS : Tok}
    {t_LONGEST_WORD : Tok}
    {t_LAST_STATE : Tok}
    {t_MOST_ARCS : Tok}
    {t_MOST_ITEMS : Tok}
    {t_EMPTY_ROW : Tok}
    (a_CReadError : PySem.W.nsIn K mainGlobals "ReadError" = some (some (.ref C_ReadError)))
    (a_CLoom : PySem.W.nsIn K mainGlobals "Loom" = some (some (.ref C_Loom)))
    (a_CInvalidRow : PySem.W.nsIn K mainGlobals "InvalidRow" = some (some (.ref C_InvalidRow)))
    (a_CInvalidPage : PySem.W.nsIn K mainGlobals "InvalidPage" = some (some (.ref C_InvalidPage)))
    (a_CInvalidLoom : PySem.W.nsIn K mainGlobals "InvalidLoom" = some (some (.ref C_InvalidLoom)))
    (a_InvalidLoom_init : PySem.W.findIn K (.ref C_InvalidLoom) "__init__" = some (some (.ref f_InvalidLoom_init)))
    (i_InvalidLoom_init : PySem.W.isFn K (.ref f_InvalidLoom_init) = true)
    (l_InvalidLoom_init : K.lookup f_InvalidLoom_init = some ⟨oc_InvalidLoom_init, od_InvalidLoom_init, .func (PySem.W.fnOf "__init__" "InvalidLoom.__init__" (defArgs s_InvalidLoom_init) (defBody s_InvalidLoom_init) (defScope s_InvalidLoom_init) .none kV_InvalidLoom_init dc_InvalidLoom_init pm_InvalidLoom_init an_InvalidLoom_init cd_InvalidLoom_init ct_InvalidLoom_init), sl_InvalidLoom_init⟩)
    (c_InvalidLoom_init : PySem.W.codeIn K cd_InvalidLoom_init "InvalidLoom.__init__" = true)
    (k_InvalidLoom_init : PySem.W.keepIn K (.ref f_InvalidLoom_init) = true)
    (a_InvalidRow_init : PySem.W.findIn K (.ref C_InvalidRow) "__init__" = some (some (.ref f_InvalidRow_init)))
    (i_InvalidRow_init : PySem.W.isFn K (.ref f_InvalidRow_init) = true)
    (l_InvalidRow_init : K.lookup f_InvalidRow_init = some ⟨oc_InvalidRow_init, od_InvalidRow_init, .func (PySem.W.fnOf "__init__" "InvalidRow.__init__" (defArgs s_InvalidRow_init) (defBody s_InvalidRow_init) (defScope s_InvalidRow_init) .none kV_InvalidRow_init dc_InvalidRow_init pm_InvalidRow_init an_InvalidRow_init cd_InvalidRow_init ct_InvalidRow_init), sl_InvalidRow_init⟩)
    (c_InvalidRow_init : PySem.W.codeIn K cd_InvalidRow_init "InvalidRow.__init__" = true)
    (k_InvalidRow_init : PySem.W.keepIn K (.ref f_InvalidRow_init) = true)
    (a_InvalidPage_init : PySem.W.findIn K (.ref C_InvalidPage) "__init__" = some (some (.ref f_InvalidPage_init)))
    (i_InvalidPage_init : PySem.W.isFn K (.ref f_InvalidPage_init) = true)
    (l_InvalidPage_init : K.lookup f_InvalidPage_init = some ⟨oc_InvalidPage_init, od_InvalidPage_init, .func (PySem.W.fnOf "__init__" "InvalidPage.__init__" (defArgs s_InvalidPage_init) (defBody s_InvalidPage_init) (defScope s_InvalidPage_init) .none kV_InvalidPage_init dc_InvalidPage_init pm_InvalidPage_init an_InvalidPage_init cd_InvalidPage_init ct_InvalidPage_init), sl_InvalidPage_init⟩)
    (c_InvalidPage_init : PySem.W.codeIn K cd_InvalidPage_init "InvalidPage.__init__" = true)
    (k_InvalidPage_init : PySem.W.keepIn K (.ref f_InvalidPage_init) = true)
    (a_is_number : PySem.W.nsIn K mainGlobals "is_number" = some (some (.ref f_is_number)))
    (l_is_number : K.lookup f_is_number = some ⟨oc_is_number, od_is_number, .func (PySem.W.fnOf "is_number" "is_number" (defArgs s_is_number) (defBody s_is_number) (defScope s_is_number) .none kV_is_number dc_is_number pm_is_number an_is_number cd_is_number ct_is_number), sl_is_number⟩)
    (c_is_number : PySem.W.codeIn K cd_is_number "is_number" = true)
    (k_is_number : PySem.W.keepIn K (.ref f_is_number) = true)
    (a_is_sequence : PySem.W.nsIn K mainGlobals "is_sequence" = some (some (.ref f_is_sequence)))
    (l_is_sequence : K.lookup f_is_sequence = some ⟨oc_is_sequence, od_is_sequence, .func (PySem.W.fnOf "is_sequence" "is_sequence" (defArgs s_is_sequence) (defBody s_is_sequence) (defScope s_is_sequence) .none kV_is_sequence dc_is_sequence pm_is_sequence an_is_sequence cd_is_sequence ct_is_sequence), sl_is_sequence⟩)
    (c_is_sequence : PySem.W.codeIn K cd_is_sequence "is_sequence" = true)
    (k_is_sequence : PySem.W.keepIn K (.ref f_is_sequence) = true)
    (a_is_signs : PySem.W.nsIn K mainGlobals "is_signs" = some (some (.ref f_is_signs)))
    (l_is_signs : K.lookup f_is_signs = some ⟨oc_is_signs, od_is_signs, .func (PySem.W.fnOf "is_signs" "is_signs" (defArgs s_is_signs) (defBody s_is_signs) (defScope s_is_signs) .none kV_is_signs dc_is_signs pm_is_signs an_is_signs cd_is_signs ct_is_signs), sl_is_signs⟩)
    (c_is_signs : PySem.W.codeIn K cd_is_signs "is_signs" = true)
    (k_is_signs : PySem.W.keepIn K (.ref f_is_signs) = true)
    (a_is_string_over : PySem.W.nsIn K mainGlobals "is_string_over" = some (some (.ref f_is_string_over)))
    (l_is_string_over : K.lookup f_is_string_over = some ⟨oc_is_string_over, od_is_string_over, .func (PySem.W.fnOf "is_string_over" "is_string_over" (defArgs s_is_string_over) (defBody s_is_string_over) (defScope s_is_string_over) .none kV_is_string_over dc_is_string_over pm_is_string_over an_is_string_over cd_is_string_over ct_is_string_over), sl_is_string_over⟩)
    (c_is_string_over : PySem.W.codeIn K cd_is_string_over "is_string_over" = true)
    (k_is_string_over : PySem.W.keepIn K (.ref f_is_string_over) = true)
    (a_is_word : PySem.W.nsIn K mainGlobals "is_word" = some (some (.ref f_is_word)))
    (l_is_word : K.lookup f_is_word = some ⟨oc_is_word, od_is_word, .func (PySem.W.fnOf "is_word" "is_word" (defArgs s_is_word) (defBody s_is_word) (defScope s_is_word) .none kV_is_word dc_is_word pm_is_word an_is_word cd_is_word ct_is_word), sl_is_word⟩)
    (c_is_word : PySem.W.codeIn K cd_is_word "is_word" = true)
    (k_is_word : PySem.W.keepIn K (.ref f_is_word) = true)
    (a_first_wrong : PySem.W.nsIn K mainGlobals "first_wrong" = some (some (.ref f_first_wrong)))
    (l_first_wrong : K.lookup f_first_wrong = some ⟨oc_first_wrong, od_first_wrong, .func (PySem.W.fnOf "first_wrong" "first_wrong" (defArgs s_first_wrong) (defBody s_first_wrong) (defScope s_first_wrong) .none kV_first_wrong dc_first_wrong pm_first_wrong an_first_wrong cd_first_wrong ct_first_wrong), sl_first_wrong⟩)
    (c_first_wrong : PySem.W.codeIn K cd_first_wrong "first_wrong" = true)
    (k_first_wrong : PySem.W.keepIn K (.ref f_first_wrong) = true)
    (a_check_signs : PySem.W.nsIn K mainGlobals "check_signs" = some (some (.ref f_check_signs)))
    (l_check_signs : K.lookup f_check_signs = some ⟨oc_check_signs, od_check_signs, .func (PySem.W.fnOf "check_signs" "check_signs" (defArgs s_check_signs) (defBody s_check_signs) (defScope s_check_signs) .none kV_check_signs dc_check_signs pm_check_signs an_check_signs cd_check_signs ct_check_signs), sl_check_signs⟩)
    (c_check_signs : PySem.W.codeIn K cd_check_signs "check_signs" = true)
    (k_check_signs : PySem.W.keepIn K (.ref f_check_signs) = true)
    (a_is_arc : PySem.W.nsIn K mainGlobals "is_arc" = some (some (.ref f_is_arc)))
    (l_is_arc : K.lookup f_is_arc = some ⟨oc_is_arc, od_is_arc, .func (PySem.W.fnOf "is_arc" "is_arc" (defArgs s_is_arc) (defBody s_is_arc) (defScope s_is_arc) .none kV_is_arc dc_is_arc pm_is_arc an_is_arc cd_is_arc ct_is_arc), sl_is_arc⟩)
    (c_is_arc : PySem.W.codeIn K cd_is_arc "is_arc" = true)
    (k_is_arc : PySem.W.keepIn K (.ref f_is_arc) = true)
    (a_Loom_init : PySem.W.findIn K (.ref C_Loom) "__init__" = some (some (.ref f_Loom_init)))
    (i_Loom_init : PySem.W.isFn K (.ref f_Loom_init) = true)
    (l_Loom_init : K.lookup f_Loom_init = some ⟨oc_Loom_init, od_Loom_init, .func (PySem.W.fnOf "__init__" "Loom.__init__" (defArgs s_Loom_init) (defBody s_Loom_init) (defScope s_Loom_init) .none kV_Loom_init dc_Loom_init pm_Loom_init an_Loom_init cd_Loom_init ct_Loom_init), sl_Loom_init⟩)
    (c_Loom_init : PySem.W.codeIn K cd_Loom_init "Loom.__init__" = true)
    (k_Loom_init : PySem.W.keepIn K (.ref f_Loom_init) = true)
    (a_Loom_eq : PySem.W.findIn K (.ref C_Loom) "__eq__" = some (some (.ref f_Loom_eq)))
    (l_Loom_eq : K.lookup f_Loom_eq = some ⟨oc_Loom_eq, od_Loom_eq, .func (PySem.W.fnOf "__eq__" "Loom.__eq__" (defArgs s_Loom_eq) (defBody s_Loom_eq) (defScope s_Loom_eq) .none kV_Loom_eq dc_Loom_eq pm_Loom_eq an_Loom_eq cd_Loom_eq ct_Loom_eq), sl_Loom_eq⟩)
    (c_Loom_eq : PySem.W.codeIn K cd_Loom_eq "Loom.__eq__" = true)
    (k_Loom_eq : PySem.W.keepIn K (.ref f_Loom_eq) = true)
    (a_numbers_up_to : PySem.W.nsIn K mainGlobals "numbers_up_to" = some (some (.ref f_numbers_up_to)))
    (l_numbers_up_to : K.lookup f_numbers_up_to = some ⟨oc_numbers_up_to, od_numbers_up_to, .func (PySem.W.fnOf "numbers_up_to" "numbers_up_to" (defArgs s_numbers_up_to) (defBody s_numbers_up_to) (defScope s_numbers_up_to) .none kV_numbers_up_to dc_numbers_up_to pm_numbers_up_to an_numbers_up_to cd_numbers_up_to ct_numbers_up_to), sl_numbers_up_to⟩)
    (c_numbers_up_to : PySem.W.codeIn K cd_numbers_up_to "numbers_up_to" = true)
    (k_numbers_up_to : PySem.W.keepIn K (.ref f_numbers_up_to) = true)
    (a_write_row : PySem.W.nsIn K mainGlobals "write_row" = some (some (.ref f_write_row)))
    (l_write_row : K.lookup f_write_row = some ⟨oc_write_row, od_write_row, .func (PySem.W.fnOf "write_row" "write_row" (defArgs s_write_row) (defBody s_write_row) (defScope s_write_row) .none kV_write_row dc_write_row pm_write_row an_write_row cd_write_row ct_write_row), sl_write_row⟩)
    (c_write_row : PySem.W.codeIn K cd_write_row "write_row" = true)
    (k_write_row : PySem.W.keepIn K (.ref f_write_row) = true)
    (a_read_row : PySem.W.nsIn K mainGlobals "read_row" = some (some (.ref f_read_row)))
    (l_read_row : K.lookup f_read_row = some ⟨oc_read_row, od_read_row, .func (PySem.W.fnOf "read_row" "read_row" (defArgs s_read_row) (defBody s_read_row) (defScope s_read_row) .none kV_read_row dc_read_row pm_read_row an_read_row cd_read_row ct_read_row), sl_read_row⟩)
    (c_read_row : PySem.W.codeIn K cd_read_row "read_row" = true)
    (k_read_row : PySem.W.keepIn K (.ref f_read_row) = true)
    (a_l_pool : PySem.W.nsIn K mainGlobals "_law_pool" = some (some (.ref f_l_pool)))
    (l_l_pool : K.lookup f_l_pool = some ⟨oc_l_pool, od_l_pool, .func (PySem.W.fnOf "_law_pool" "_law_pool" (defArgs s_l_pool) (defBody s_l_pool) (defScope s_l_pool) .none kV_l_pool dc_l_pool pm_l_pool an_l_pool cd_l_pool ct_l_pool), sl_l_pool⟩)
    (c_l_pool : PySem.W.codeIn K cd_l_pool "_law_pool" = true)
    (k_l_pool : PySem.W.keepIn K (.ref f_l_pool) = true)
    (a_l_draw : PySem.W.nsIn K mainGlobals "_law_draw" = some (some (.ref f_l_draw)))
    (l_l_draw : K.lookup f_l_draw = some ⟨oc_l_draw, od_l_draw, .func (PySem.W.fnOf "_law_draw" "_law_draw" (defArgs s_l_draw) (defBody s_l_draw) (defScope s_l_draw) .none kV_l_draw dc_l_draw pm_l_draw an_l_draw cd_l_draw ct_l_draw), sl_l_draw⟩)
    (c_l_draw : PySem.W.codeIn K cd_l_draw "_law_draw" = true)
    (k_l_draw : PySem.W.keepIn K (.ref f_l_draw) = true)
    (a_l_pick : PySem.W.nsIn K mainGlobals "_law_pick" = some (some (.ref f_l_pick)))
    (l_l_pick : K.lookup f_l_pick = some ⟨oc_l_pick, od_l_pick, .func (PySem.W.fnOf "_law_pick" "_law_pick" (defArgs s_l_pick) (defBody s_l_pick) (defScope s_l_pick) .none kV_l_pick dc_l_pick pm_l_pick an_l_pick cd_l_pick ct_l_pick), sl_l_pick⟩)
    (c_l_pick : PySem.W.codeIn K cd_l_pick "_law_pick" = true)
    (k_l_pick : PySem.W.keepIn K (.ref f_l_pick) = true)
    (a_l_line : PySem.W.nsIn K mainGlobals "_law_line" = some (some (.ref f_l_line)))
    (l_l_line : K.lookup f_l_line = some ⟨oc_l_line, od_l_line, .func (PySem.W.fnOf "_law_line" "_law_line" (defArgs s_l_line) (defBody s_l_line) (defScope s_l_line) .none kV_l_line dc_l_line pm_l_line an_l_line cd_l_line ct_l_line), sl_l_line⟩)
    (c_l_line : PySem.W.codeIn K cd_l_line "_law_line" = true)
    (k_l_line : PySem.W.keepIn K (.ref f_l_line) = true)
    (a_l_due : PySem.W.nsIn K mainGlobals "_law_due" = some (some (.ref f_l_due)))
    (l_l_due : K.lookup f_l_due = some ⟨oc_l_due, od_l_due, .func (PySem.W.fnOf "_law_due" "_law_due" (defArgs s_l_due) (defBody s_l_due) (defScope s_l_due) .none kV_l_due dc_l_due pm_l_due an_l_due cd_l_due ct_l_due), sl_l_due⟩)
    (c_l_due : PySem.W.codeIn K cd_l_due "_law_due" = true)
    (k_l_due : PySem.W.keepIn K (.ref f_l_due) = true)
    (a_l_read : PySem.W.nsIn K mainGlobals "_law_read" = some (some (.ref f_l_read)))
    (l_l_read : K.lookup f_l_read = some ⟨oc_l_read, od_l_read, .func (PySem.W.fnOf "_law_read" "_law_read" (defArgs s_l_read) (defBody s_l_read) (defScope s_l_read) .none kV_l_read dc_l_read pm_l_read an_l_read cd_l_read ct_l_read), sl_l_read⟩)
    (c_l_read : PySem.W.codeIn K cd_l_read "_law_read" = true)
    (k_l_read : PySem.W.keepIn K (.ref f_l_read) = true)
    (a_l_written : PySem.W.nsIn K mainGlobals "_law_written" = some (some (.ref f_l_written)))
    (l_l_written : K.lookup f_l_written = some ⟨oc_l_written, od_l_written, .func (PySem.W.fnOf "_law_written" "_law_written" (defArgs s_l_written) (defBody s_l_written) (defScope s_l_written) .none kV_l_written dc_l_written pm_l_written an_l_written cd_l_written ct_l_written), sl_l_written⟩)
    (c_l_written : PySem.W.codeIn K cd_l_written "_law_written" = true)
    (k_l_written : PySem.W.keepIn K (.ref f_l_written) = true)
    (a_l_spoiled : PySem.W.nsIn K mainGlobals "_law_spoiled" = some (some (.ref f_l_spoiled)))
    (l_l_spoiled : K.lookup f_l_spoiled = some ⟨oc_l_spoiled, od_l_spoiled, .func (PySem.W.fnOf "_law_spoiled" "_law_spoiled" (defArgs s_l_spoiled) (defBody s_l_spoiled) (defScope s_l_spoiled) .none kV_l_spoiled dc_l_spoiled pm_l_spoiled an_l_spoiled cd_l_spoiled ct_l_spoiled), sl_l_spoiled⟩)
    (c_l_spoiled : PySem.W.codeIn K cd_l_spoiled "_law_spoiled" = true)
    (k_l_spoiled : PySem.W.keepIn K (.ref f_l_spoiled) = true)
    (a_l_same_lists : PySem.W.nsIn K mainGlobals "_law_same_lists" = some (some (.ref f_l_same_lists)))
    (l_l_same_lists : K.lookup f_l_same_lists = some ⟨oc_l_same_lists, od_l_same_lists, .func (PySem.W.fnOf "_law_same_lists" "_law_same_lists" (defArgs s_l_same_lists) (defBody s_l_same_lists) (defScope s_l_same_lists) .none kV_l_same_lists dc_l_same_lists pm_l_same_lists an_l_same_lists cd_l_same_lists ct_l_same_lists), sl_l_same_lists⟩)
    (c_l_same_lists : PySem.W.codeIn K cd_l_same_lists "_law_same_lists" = true)
    (k_l_same_lists : PySem.W.keepIn K (.ref f_l_same_lists) = true)
    (a_law : PySem.W.nsIn K mainGlobals "law" = some (some (.ref f_law)))
    (l_law : K.lookup f_law = some ⟨oc_law, od_law, .func (PySem.W.fnOf "law" "law" (defArgs s_law) (defBody s_law) (defScope s_law) .none kV_law dc_law pm_law an_law cd_law ct_law), sl_law⟩)
    (c_law : PySem.W.codeIn K cd_law "law" = true)
    (k_law : PySem.W.keepIn K (.ref f_law) = true)
    (pg_Loom : PySem.W.plainGet K C_Loom Str.empty = true)
    (hd_Loom : PySem.W.hasDictIn K C_Loom = true)
    (po_Loom : PySem.W.plainOver K C_Loom = true)
    (sa_Loom : PySem.W.findIn K (.ref C_Loom) "__setattr__" = some (some (.builtin "object.__setattr__")))
    (mk_Loom : PySem.W.makesIn K C_Loom = true)
    (kc_Loom : PySem.W.keepIn K (.ref C_Loom) = true)
    (na_Loom_signs : PySem.W.findIn K (.ref C_Loom) "signs" = some none)
    (na_Loom_arcs : PySem.W.findIn K (.ref C_Loom) "arcs" = some none)
    (kc_ReadError : PySem.W.keepIn K (.ref C_ReadError) = true)
    (e1_ReadError : PySem.W.findIn K (.ref C_ReadError) "__getattribute__" = some (some (.builtin "BaseException.__getattribute__")))
    (e2_ReadError : PySem.W.findIn K (.ref C_ReadError) "__getattr__" = some none)
    (e3_ReadError : PySem.W.subIn K (.ref C_ReadError) (.type "BaseException") = some true)
    (e4_ReadError : PySem.W.hasDictIn K C_ReadError = true)
    (e5_ReadError : PySem.W.findIn K (.ref C_ReadError) "__class__" = some (some (.builtin "object.__class__")))
    (e8_ReadError : PySem.W.mroIn K C_ReadError (.type "object") = some true)
    (ty_ReadError : PySem.W.typeIn K (.ref C_ReadError) = some (.type "type"))
    (in_ReadError : PySem.W.excIn K C_ReadError [.type "Exception", .type "BaseException", .type "object"] "Exception.__new__" = true)
    (kc_InvalidRow : PySem.W.keepIn K (.ref C_InvalidRow) = true)
    (e1_InvalidRow : PySem.W.findIn K (.ref C_InvalidRow) "__getattribute__" = some (some (.builtin "BaseException.__getattribute__")))
    (e2_InvalidRow : PySem.W.findIn K (.ref C_InvalidRow) "__getattr__" = some none)
    (e3_InvalidRow : PySem.W.subIn K (.ref C_InvalidRow) (.type "BaseException") = some true)
    (e4_InvalidRow : PySem.W.hasDictIn K C_InvalidRow = true)
    (e5_InvalidRow : PySem.W.findIn K (.ref C_InvalidRow) "__class__" = some (some (.builtin "object.__class__")))
    (e8_InvalidRow : PySem.W.mroIn K C_InvalidRow (.type "object") = some true)
    (ty_InvalidRow : PySem.W.typeIn K (.ref C_InvalidRow) = some (.type "type"))
    (xi_InvalidRow : K.lookup C_InvalidRow = some (excClassObj nm_InvalidRow q_InvalidRow C_InvalidRow ns_InvalidRow bs_InvalidRow [.ref C_ReadError, .type "Exception", .type "BaseException", .type "object"] true sn_InvalidRow sub_InvalidRow ab_InvalidRow col_InvalidRow dd_InvalidRow m0_InvalidRow m1_InvalidRow m2_InvalidRow m3_InvalidRow m5_InvalidRow "Exception.__new__"))
    (tf_InvalidRow : PySem.W.typeIn K (.ref f_InvalidRow_init) = some (.type "function"))
    (sa_InvalidRow : PySem.W.findIn K (.ref C_InvalidRow) "__setattr__" = some (some (.builtin "object.__setattr__")))
    (no_InvalidRow_at : PySem.W.findIn K (.ref C_InvalidRow) "at" = some none)
    (kc_InvalidPage : PySem.W.keepIn K (.ref C_InvalidPage) = true)
    (e1_InvalidPage : PySem.W.findIn K (.ref C_InvalidPage) "__getattribute__" = some (some (.builtin "BaseException.__getattribute__")))
    (e2_InvalidPage : PySem.W.findIn K (.ref C_InvalidPage) "__getattr__" = some none)
    (e3_InvalidPage : PySem.W.subIn K (.ref C_InvalidPage) (.type "BaseException") = some true)
    (e4_InvalidPage : PySem.W.hasDictIn K C_InvalidPage = true)
    (e5_InvalidPage : PySem.W.findIn K (.ref C_InvalidPage) "__class__" = some (some (.builtin "object.__class__")))
    (e8_InvalidPage : PySem.W.mroIn K C_InvalidPage (.type "object") = some true)
    (ty_InvalidPage : PySem.W.typeIn K (.ref C_InvalidPage) = some (.type "type"))
    (xi_InvalidPage : K.lookup C_InvalidPage = some (excClassObj nm_InvalidPage q_InvalidPage C_InvalidPage ns_InvalidPage bs_InvalidPage [.ref C_ReadError, .type "Exception", .type "BaseException", .type "object"] true sn_InvalidPage sub_InvalidPage ab_InvalidPage col_InvalidPage dd_InvalidPage m0_InvalidPage m1_InvalidPage m2_InvalidPage m3_InvalidPage m5_InvalidPage "Exception.__new__"))
    (tf_InvalidPage : PySem.W.typeIn K (.ref f_InvalidPage_init) = some (.type "function"))
    (sa_InvalidPage : PySem.W.findIn K (.ref C_InvalidPage) "__setattr__" = some (some (.builtin "object.__setattr__")))
    (no_InvalidPage_line : PySem.W.findIn K (.ref C_InvalidPage) "line" = some none)
    (e6 : PySem.W.specialIn K (.builtin "object.__class__") "__get__" = some (some (.builtin "getset_descriptor.__get__")))
    (e7 : PySem.W.takesIn K (.builtin "object.__class__") = some true)
    (ic_Loom : PySem.W.findIn K (.ref C_Loom) "__class__" = some (some (.builtin "object.__class__")))
    (ig : PySem.W.specialIn K (.builtin "object.__class__") "__get__" = some (some (.builtin "getset_descriptor.__get__")))
    (it : PySem.W.takesIn K (.builtin "object.__class__") = some true)
    (im_Loom : PySem.W.mroIn K C_Loom (.type "object") = some true)
    (sl_Loom : PySem.W.subIn K (.ref C_Loom) (.type "list") = some false)
    (st_Loom : PySem.W.subIn K (.ref C_Loom) (.type "tuple") = some false)
    (cl_InvalidRow : PySem.W.isClsIn K C_InvalidRow = true)
    (ss_InvalidRow : PySem.W.subIn K (.ref C_InvalidRow) (.ref C_InvalidRow) = some true)
    (nx_InvalidRow_at : PySem.W.findIn K (.ref C_InvalidRow) "at" = some none)
    (cl_InvalidPage : PySem.W.isClsIn K C_InvalidPage = true)
    (ss_InvalidPage : PySem.W.subIn K (.ref C_InvalidPage) (.ref C_InvalidPage) = some true)
    (nx_InvalidPage_line : PySem.W.findIn K (.ref C_InvalidPage) "line" = some none)
    (z_abs : PySem.W.nsIn K mainGlobals "abs" = some none)
    (z_all : PySem.W.nsIn K mainGlobals "all" = some none)
    (z_bool : PySem.W.nsIn K mainGlobals "bool" = some none)
    (z_enumerate : PySem.W.nsIn K mainGlobals "enumerate" = some none)
    (z_int : PySem.W.nsIn K mainGlobals "int" = some none)
    (z_isinstance : PySem.W.nsIn K mainGlobals "isinstance" = some none)
    (z_len : PySem.W.nsIn K mainGlobals "len" = some none)
    (z_list : PySem.W.nsIn K mainGlobals "list" = some none)
    (z_range : PySem.W.nsIn K mainGlobals "range" = some none)
    (z_str : PySem.W.nsIn K mainGlobals "str" = some none)
    (z_tuple : PySem.W.nsIn K mainGlobals "tuple" = some none)
    (z_zip : PySem.W.nsIn K mainGlobals "zip" = some none)
    (g_MOST_SIGNS : PySem.W.nsIn K mainGlobals "MOST_SIGNS" = some (some (.int 4 t_MOST_SIGNS)))
    (g_LONGEST_WORD : PySem.W.nsIn K mainGlobals "LONGEST_WORD" = some (some (.int 12 t_LONGEST_WORD)))
    (g_LAST_STATE : PySem.W.nsIn K mainGlobals "LAST_STATE" = some (some (.int 63 t_LAST_STATE)))
    (g_MOST_ARCS : PySem.W.nsIn K mainGlobals "MOST_ARCS" = some (some (.int 200 t_MOST_ARCS)))
    (g_MOST_ITEMS : PySem.W.nsIn K mainGlobals "MOST_ITEMS" = some (some (.int 2000 t_MOST_ITEMS)))
    (g_EMPTY_ROW : PySem.W.nsIn K mainGlobals "EMPTY_ROW" = some (some (.str "-" t_EMPTY_ROW)))
    : ∃ fd : FuncData, (∀ (s : Shared) (v : Value), BindsTo s fd ⟨[v], []⟩ [("_law_script", v)]) ∧ ∀ base : Heap, K.In base → base.Ns mainGlobals mg → FnOk l.prog w K mg base CX0 8 fa fd P_law (spLaw K) := by
  have e := hfa.symm.trans (PySem.W.mg_of X G a_law)
  cases e
  have F_InvalidLoom_init := fun_mk (st := s_InvalidLoom_init) l_InvalidLoom_init c_InvalidLoom_init k_InvalidLoom_init
  have b_InvalidLoom_init := F_InvalidLoom_init.binds (ps := P_InvalidLoom_init) fun _ _ _ _ _ _ us hl => match us, hl with | [_, _, _], _ => rfl
  have F_InvalidRow_init := fun_mk (st := s_InvalidRow_init) l_InvalidRow_init c_InvalidRow_init k_InvalidRow_init
  have b_InvalidRow_init := F_InvalidRow_init.binds (ps := P_InvalidRow_init) fun _ _ _ _ _ _ us hl => match us, hl with | [_, _], _ => rfl
  have F_InvalidPage_init := fun_mk (st := s_InvalidPage_init) l_InvalidPage_init c_InvalidPage_init k_InvalidPage_init
  have b_InvalidPage_init := F_InvalidPage_init.binds (ps := P_InvalidPage_init) fun _ _ _ _ _ _ us hl => match us, hl with | [_, _], _ => rfl
  have F_is_number := fun_mk (st := s_is_number) l_is_number c_is_number k_is_number
  have b_is_number := F_is_number.binds (ps := P_is_number) fun _ _ _ _ _ _ us hl => match us, hl with | [_, _, _], _ => rfl
  have F_is_sequence := fun_mk (st := s_is_sequence) l_is_sequence c_is_sequence k_is_sequence
  have b_is_sequence := F_is_sequence.binds (ps := P_is_sequence) fun _ _ _ _ _ _ us hl => match us, hl with | [_, _, _], _ => rfl
  have F_is_signs := fun_mk (st := s_is_signs) l_is_signs c_is_signs k_is_signs
  have b_is_signs := F_is_signs.binds (ps := P_is_signs) fun _ _ _ _ _ _ us hl => match us, hl with | [_], _ => rfl
  have F_is_string_over := fun_mk (st := s_is_string_over) l_is_string_over c_is_string_over k_is_string_over
  have b_is_string_over := F_is_string_over.binds (ps := P_is_string_over) fun _ _ _ _ _ _ us hl => match us, hl with | [_, _, _, _], _ => rfl
  have F_is_word := fun_mk (st := s_is_word) l_is_word c_is_word k_is_word
  have b_is_word := F_is_word.binds (ps := P_is_word) fun _ _ _ _ _ _ us hl => match us, hl with | [_, _], _ => rfl
  have F_first_wrong := fun_mk (st := s_first_wrong) l_first_wrong c_first_wrong k_first_wrong
  have b_first_wrong := F_first_wrong.binds (ps := P_first_wrong) fun _ _ _ _ _ _ us hl => match us, hl with | [_, _, _, _, _], _ => rfl
  have F_check_signs := fun_mk (st := s_check_signs) l_check_signs c_check_signs k_check_signs
  have b_check_signs := F_check_signs.binds (ps := P_check_signs) fun _ _ _ _ _ _ us hl => match us, hl with | [_], _ => rfl
  have F_is_arc := fun_mk (st := s_is_arc) l_is_arc c_is_arc k_is_arc
  have b_is_arc := F_is_arc.binds (ps := P_is_arc) fun _ _ _ _ _ _ us hl => match us, hl with | [_, _], _ => rfl
  have F_Loom_init := fun_mk (st := s_Loom_init) l_Loom_init c_Loom_init k_Loom_init
  have b_Loom_init := F_Loom_init.binds (ps := P_Loom_init) fun _ _ _ _ _ _ us hl => match us, hl with | [_, _, _], _ => rfl
  have F_Loom_eq := fun_mk (st := s_Loom_eq) l_Loom_eq c_Loom_eq k_Loom_eq
  have b_Loom_eq := F_Loom_eq.binds (ps := P_Loom_eq) fun _ _ _ _ _ _ us hl => match us, hl with | [_, _], _ => rfl
  have F_numbers_up_to := fun_mk (st := s_numbers_up_to) l_numbers_up_to c_numbers_up_to k_numbers_up_to
  have b_numbers_up_to := F_numbers_up_to.binds (ps := P_numbers_up_to) fun _ _ _ _ _ _ us hl => match us, hl with | [_], _ => rfl
  have F_write_row := fun_mk (st := s_write_row) l_write_row c_write_row k_write_row
  have b_write_row := F_write_row.binds (ps := P_write_row) fun _ _ _ _ _ _ us hl => match us, hl with | [_], _ => rfl
  have F_read_row := fun_mk (st := s_read_row) l_read_row c_read_row k_read_row
  have b_read_row := F_read_row.binds (ps := P_read_row) fun _ _ _ _ _ _ us hl => match us, hl with | [_], _ => rfl
  have F_l_pool := fun_mk (st := s_l_pool) l_l_pool c_l_pool k_l_pool
  have b_l_pool := F_l_pool.binds (ps := P_l_pool) fun _ _ _ _ _ _ us hl => match us, hl with | [_], _ => rfl
  have F_l_draw := fun_mk (st := s_l_draw) l_l_draw c_l_draw k_l_draw
  have b_l_draw := F_l_draw.binds (ps := P_l_draw) fun _ _ _ _ _ _ us hl => match us, hl with | [_, _], _ => rfl
  have F_l_pick := fun_mk (st := s_l_pick) l_l_pick c_l_pick k_l_pick
  have b_l_pick := F_l_pick.binds (ps := P_l_pick) fun _ _ _ _ _ _ us hl => match us, hl with | [_, _], _ => rfl
  have F_l_line := fun_mk (st := s_l_line) l_l_line c_l_line k_l_line
  have b_l_line := F_l_line.binds (ps := P_l_line) fun _ _ _ _ _ _ us hl => match us, hl with | [_], _ => rfl
  have F_l_due := fun_mk (st := s_l_due) l_l_due c_l_due k_l_due
  have b_l_due := F_l_due.binds (ps := P_l_due) fun _ _ _ _ _ _ us hl => match us, hl with | [_], _ => rfl
  have F_l_read := fun_mk (st := s_l_read) l_l_read c_l_read k_l_read
  have b_l_read := F_l_read.binds (ps := P_l_read) fun _ _ _ _ _ _ us hl => match us, hl with | [_], _ => rfl
  have F_l_written := fun_mk (st := s_l_written) l_l_written c_l_written k_l_written
  have b_l_written := F_l_written.binds (ps := P_l_written) fun _ _ _ _ _ _ us hl => match us, hl with | [_], _ => rfl
  have F_l_spoiled := fun_mk (st := s_l_spoiled) l_l_spoiled c_l_spoiled k_l_spoiled
  have b_l_spoiled := F_l_spoiled.binds (ps := P_l_spoiled) fun _ _ _ _ _ _ us hl => match us, hl with | [_, _], _ => rfl
  have F_l_same_lists := fun_mk (st := s_l_same_lists) l_l_same_lists c_l_same_lists k_l_same_lists
  have b_l_same_lists := F_l_same_lists.binds (ps := P_l_same_lists) fun _ _ _ _ _ _ us hl => match us, hl with | [_, _], _ => rfl
  have F_law := fun_mk (st := s_law) l_law c_law k_law
  have b_law := F_law.binds (ps := P_law) fun _ _ _ _ _ _ us hl => match us, hl with | [_], _ => rfl
  exact ⟨_, fun s v => .of_eq rfl, fun base _ _ => ok_law {
    f_InvalidLoom_init := _
    fd_InvalidLoom_init := _
    F_InvalidLoom_init := F_InvalidLoom_init
    b_InvalidLoom_init := b_InvalidLoom_init
    f_InvalidRow_init := _
    fd_InvalidRow_init := _
    F_InvalidRow_init := F_InvalidRow_init
    b_InvalidRow_init := b_InvalidRow_init
    f_InvalidPage_init := _
    fd_InvalidPage_init := _
    F_InvalidPage_init := F_InvalidPage_init
    b_InvalidPage_init := b_InvalidPage_init
    f_is_number := _
    fd_is_number := _
    F_is_number := F_is_number
    b_is_number := b_is_number
    m_is_number := PySem.W.mg_of X G a_is_number
    f_is_sequence := _
    fd_is_sequence := _
    F_is_sequence := F_is_sequence
    b_is_sequence := b_is_sequence
    m_is_sequence := PySem.W.mg_of X G a_is_sequence
    f_is_signs := _
    fd_is_signs := _
    F_is_signs := F_is_signs
    b_is_signs := b_is_signs
    m_is_signs := PySem.W.mg_of X G a_is_signs
    f_is_string_over := _
    fd_is_string_over := _
    F_is_string_over := F_is_string_over
    b_is_string_over := b_is_string_over
    m_is_string_over := PySem.W.mg_of X G a_is_string_over
    f_is_word := _
    fd_is_word := _
    F_is_word := F_is_word
    b_is_word := b_is_word
    m_is_word := PySem.W.mg_of X G a_is_word
    f_first_wrong := _
    fd_first_wrong := _
    F_first_wrong := F_first_wrong
    b_first_wrong := b_first_wrong
    m_first_wrong := PySem.W.mg_of X G a_first_wrong
    f_check_signs := _
    fd_check_signs := _
    F_check_signs := F_check_signs
    b_check_signs := b_check_signs
    m_check_signs := PySem.W.mg_of X G a_check_signs
    f_is_arc := _
    fd_is_arc := _
    F_is_arc := F_is_arc
    b_is_arc := b_is_arc
    m_is_arc := PySem.W.mg_of X G a_is_arc
    f_Loom_init := _
    fd_Loom_init := _
    F_Loom_init := F_Loom_init
    b_Loom_init := b_Loom_init
    f_Loom_eq := _
    fd_Loom_eq := _
    F_Loom_eq := F_Loom_eq
    b_Loom_eq := b_Loom_eq
    f_numbers_up_to := _
    fd_numbers_up_to := _
    F_numbers_up_to := F_numbers_up_to
    b_numbers_up_to := b_numbers_up_to
    m_numbers_up_to := PySem.W.mg_of X G a_numbers_up_to
    f_write_row := _
    fd_write_row := _
    F_write_row := F_write_row
    b_write_row := b_write_row
    m_write_row := PySem.W.mg_of X G a_write_row
    f_read_row := _
    fd_read_row := _
    F_read_row := F_read_row
    b_read_row := b_read_row
    m_read_row := PySem.W.mg_of X G a_read_row
    f_l_pool := _
    fd_l_pool := _
    F_l_pool := F_l_pool
    b_l_pool := b_l_pool
    m_l_pool := PySem.W.mg_of X G a_l_pool
    f_l_draw := _
    fd_l_draw := _
    F_l_draw := F_l_draw
    b_l_draw := b_l_draw
    m_l_draw := PySem.W.mg_of X G a_l_draw
    f_l_pick := _
    fd_l_pick := _
    F_l_pick := F_l_pick
    b_l_pick := b_l_pick
    m_l_pick := PySem.W.mg_of X G a_l_pick
    f_l_line := _
    fd_l_line := _
    F_l_line := F_l_line
    b_l_line := b_l_line
    m_l_line := PySem.W.mg_of X G a_l_line
    f_l_due := _
    fd_l_due := _
    F_l_due := F_l_due
    b_l_due := b_l_due
    m_l_due := PySem.W.mg_of X G a_l_due
    f_l_read := _
    fd_l_read := _
    F_l_read := F_l_read
    b_l_read := b_l_read
    m_l_read := PySem.W.mg_of X G a_l_read
    f_l_written := _
    fd_l_written := _
    F_l_written := F_l_written
    b_l_written := b_l_written
    m_l_written := PySem.W.mg_of X G a_l_written
    f_l_spoiled := _
    fd_l_spoiled := _
    F_l_spoiled := F_l_spoiled
    b_l_spoiled := b_l_spoiled
    m_l_spoiled := PySem.W.mg_of X G a_l_spoiled
    f_l_same_lists := _
    fd_l_same_lists := _
    F_l_same_lists := F_l_same_lists
    b_l_same_lists := b_l_same_lists
    m_l_same_lists := PySem.W.mg_of X G a_l_same_lists
    f_law := _
    fd_law := _
    F_law := F_law
    b_law := b_law
    m_law := PySem.W.mg_of X G a_law
    n_abs := PySem.W.mg_none_of X G z_abs
    n_all := PySem.W.mg_none_of X G z_all
    n_bool := PySem.W.mg_none_of X G z_bool
    n_enumerate := PySem.W.mg_none_of X G z_enumerate
    n_int := PySem.W.mg_none_of X G z_int
    n_isinstance := PySem.W.mg_none_of X G z_isinstance
    n_len := PySem.W.mg_none_of X G z_len
    n_list := PySem.W.mg_none_of X G z_list
    n_range := PySem.W.mg_none_of X G z_range
    n_str := PySem.W.mg_none_of X G z_str
    n_tuple := PySem.W.mg_none_of X G z_tuple
    n_zip := PySem.W.mg_none_of X G z_zip
    t_MOST_SIGNS := t_MOST_SIGNS
    g_MOST_SIGNS := PySem.W.mg_of X G g_MOST_SIGNS
    t_LONGEST_WORD := t_LONGEST_WORD
    g_LONGEST_WORD := PySem.W.mg_of X G g_LONGEST_WORD
    t_LAST_STATE := t_LAST_STATE
    g_LAST_STATE := PySem.W.mg_of X G g_LAST_STATE
    t_MOST_ARCS := t_MOST_ARCS
    g_MOST_ARCS := PySem.W.mg_of X G g_MOST_ARCS
    t_MOST_ITEMS := t_MOST_ITEMS
    g_MOST_ITEMS := PySem.W.mg_of X G g_MOST_ITEMS
    t_EMPTY_ROW := t_EMPTY_ROW
    g_EMPTY_ROW := PySem.W.mg_of X G g_EMPTY_ROW
    C_Loom := C_Loom
    M_Loom := ⟨mk_Loom, a_Loom_init, i_Loom_init, kc_Loom⟩
    cl_Loom := ⟨pg_Loom, hd_Loom, po_Loom, sa_Loom⟩
    g_Loom := PySem.W.mg_of X G a_CLoom
    na_Loom_signs := na_Loom_signs
    na_Loom_arcs := na_Loom_arcs
    C_ReadError := C_ReadError
    g_ReadError := PySem.W.mg_of X G a_CReadError
    kc_ReadError := kc_ReadError
    E_ReadError := ⟨e1_ReadError, e2_ReadError, e3_ReadError, e4_ReadError, e5_ReadError, e6, e7, e8_ReadError⟩
    ty_ReadError := ty_ReadError
    in_ReadError := in_ReadError
    C_InvalidRow := C_InvalidRow
    g_InvalidRow := PySem.W.mg_of X G a_CInvalidRow
    kc_InvalidRow := kc_InvalidRow
    E_InvalidRow := ⟨e1_InvalidRow, e2_InvalidRow, e3_InvalidRow, e4_InvalidRow, e5_InvalidRow, e6, e7, e8_InvalidRow⟩
    ty_InvalidRow := ty_InvalidRow
    X_InvalidRow := { gC := PySem.W.mg_of X G a_CInvalidRow, cls := ⟨_, _, _, _, _, _, _, _, _, _, _, _, _, _, _, xi_InvalidRow, by first | rfl | decide +kernel⟩, sa := sa_InvalidRow, ga := e1_InvalidRow, gg := e2_InvalidRow, no := fun f hf => by rw [List.mem_singleton.mp hf]; assumption, iC := a_InvalidRow_init, tC := tf_InvalidRow, kC := kc_InvalidRow, exC := e3_InvalidRow, tyC := ty_InvalidRow, hdC := e4_InvalidRow, fn := ⟨_, _, _, _, _, _, _, _, _, l_InvalidRow_init, c_InvalidRow_init⟩ }
    C_InvalidPage := C_InvalidPage
    g_InvalidPage := PySem.W.mg_of X G a_CInvalidPage
    kc_InvalidPage := kc_InvalidPage
    E_InvalidPage := ⟨e1_InvalidPage, e2_InvalidPage, e3_InvalidPage, e4_InvalidPage, e5_InvalidPage, e6, e7, e8_InvalidPage⟩
    ty_InvalidPage := ty_InvalidPage
    X_InvalidPage := { gC := PySem.W.mg_of X G a_CInvalidPage, cls := ⟨_, _, _, _, _, _, _, _, _, _, _, _, _, _, _, xi_InvalidPage, by first | rfl | decide +kernel⟩, sa := sa_InvalidPage, ga := e1_InvalidPage, gg := e2_InvalidPage, no := fun f hf => by rw [List.mem_singleton.mp hf]; assumption, iC := a_InvalidPage_init, tC := tf_InvalidPage, kC := kc_InvalidPage, exC := e3_InvalidPage, tyC := ty_InvalidPage, hdC := e4_InvalidPage, fn := ⟨_, _, _, _, _, _, _, _, _, l_InvalidPage_init, c_InvalidPage_init⟩ }
    ic_Loom := ic_Loom
    ig := ig
    it := it
    im_Loom := im_Loom
    sl_Loom := sl_Loom
    st_Loom := st_Loom
    cl_InvalidRow := cl_InvalidRow
    ss_InvalidRow := ss_InvalidRow
    nx_InvalidRow_at := nx_InvalidRow_at
    cl_InvalidPage := cl_InvalidPage
    ss_InvalidPage := ss_InvalidPage
    nx_InvalidPage_line := nx_InvalidPage_line }⟩
theorem walk {l : PySem.W.OpenLaw} {q : Program} {loose : List Str} {XP : (Str → Option Value) → Heap → Prop} {YP : World → Heap → Prop} {d : DefRec} {K : Params → PySem.W.Frag} (hn : l.most = some 63) (hdf : d.params.defaults = [])
    (hY : ∀ (w : World) (h : Heap), YP w h → (K w.params).In h)
    (F : ∀ (w : World) (mg : Str → Option Value) (fa : Addr) (h : Heap), (K w.params).In h → h.Ns mainGlobals mg → mg d.name = some (.ref fa) →
      ∃ fd : FuncData, (∀ (s : Shared) (u : Value), BindsTo s fd ⟨[u], []⟩ [("_law_script", u)]) ∧ ∀ base : Heap, (K w.params).In base → base.Ns mainGlobals mg → FnOk l.prog w (K w.params) mg base CX0 8 fa fd P_law (spLaw (K w.params))) :
    PySem.W.WalkO q loose XP YP l.row.toRowW d [] (fun f vs => PySem.call f vs) :=
  L2.walk_of (n := 63) (k := 8) (x := "_law_script") (CX := fun _ => CX0) (sp := fun w => spLaw (K w.params)) hn (by decide) hdf ⟨rfl, by decide, by decide⟩ hY F (fun _ _ a ns hl _ hS => ⟨a, ns, rfl, hS, hl, fun _ => rfl⟩) fun _ _ _ _ _ z => z
end J

open PySem PySem.W PyProof.Rows in
set_option maxRecDepth 100000 in
set_option maxHeartbeats 0 in
theorem PySem.Challenge.cw_onewayread_k78_rows_written_and_read_holds : PySem.Challenge.rw_onewayread_k78_rows_written_and_read.Holds := by
  w_on; o_law; k_head; (case hw => w_witness2)
  k_fill
  refine J.walk (l := PySem.Challenge.rw_onewayread_k78_rows_written_and_read) rfl rfl (fun w h Y => PySem.W.kIn_of Y) ?F
  case F =>
    intro w mg fa h KX G hmg
    refine' J.all_mk KX G hmg ?a_CReadError ?a_CLoom ?a_CInvalidRow ?a_CInvalidPage ?a_CInvalidLoom ?a_InvalidLoom_init ?i_InvalidLoom_init ?l_InvalidLoom_init ?c_InvalidLoom_init ?k_InvalidLoom_init ?a_InvalidRow_init ?i_InvalidRow_init ?l_InvalidRow_init ?c_InvalidRow_init ?k_InvalidRow_init ?a_InvalidPage_init ?i_InvalidPage_init ?l_InvalidPage_init ?c_InvalidPage_init ?k_InvalidPage_init ?a_is_number ?l_is_number ?c_is_number ?k_is_number ?a_is_sequence ?l_is_sequence ?c_is_sequence ?k_is_sequence ?a_is_signs ?l_is_signs ?c_is_signs ?k_is_signs ?a_is_string_over ?l_is_string_over ?c_is_string_over ?k_is_string_over ?a_is_word ?l_is_word ?c_is_word ?k_is_word ?a_first_wrong ?l_first_wrong ?c_first_wrong ?k_first_wrong ?a_check_signs ?l_check_signs ?c_check_signs ?k_check_signs ?a_is_arc ?l_is_arc ?c_is_arc ?k_is_arc ?a_Loom_init ?i_Loom_init ?l_Loom_init ?c_Loom_init ?k_Loom_init ?a_Loom_eq ?l_Loom_eq ?c_Loom_eq ?k_Loom_eq ?a_numbers_up_to ?l_numbers_up_to ?c_numbers_up_to ?k_numbers_up_to ?a_write_row ?l_write_row ?c_write_row ?k_write_row ?a_read_row ?l_read_row ?c_read_row ?k_read_row ?a_l_pool ?l_l_pool ?c_l_pool ?k_l_pool ?a_l_draw ?l_l_draw ?c_l_draw ?k_l_draw ?a_l_pick ?l_l_pick ?c_l_pick ?k_l_pick ?a_l_line ?l_l_line ?c_l_line ?k_l_line ?a_l_due ?l_l_due ?c_l_due ?k_l_due ?a_l_read ?l_l_read ?c_l_read ?k_l_read ?a_l_written ?l_l_written ?c_l_written ?k_l_written ?a_l_spoiled ?l_l_spoiled ?c_l_spoiled ?k_l_spoiled ?a_l_same_lists ?l_l_same_lists ?c_l_same_lists ?k_l_same_lists ?a_law ?l_law ?c_law ?k_law ?pg_Loom ?hd_Loom ?po_Loom ?sa_Loom ?mk_Loom ?kc_Loom ?na_Loom_signs ?na_Loom_arcs ?kc_ReadError ?e1_ReadError ?e2_ReadError ?e3_ReadError ?e4_ReadError ?e5_ReadError ?e8_ReadError ?ty_ReadError ?in_ReadError ?kc_InvalidRow ?e1_InvalidRow ?e2_InvalidRow ?e3_InvalidRow ?e4_InvalidRow ?e5_InvalidRow ?e8_InvalidRow ?ty_InvalidRow ?xi_InvalidRow ?tf_InvalidRow ?sa_InvalidRow ?no_InvalidRow_at ?kc_InvalidPage ?e1_InvalidPage ?e2_InvalidPage ?e3_InvalidPage ?e4_InvalidPage ?e5_InvalidPage ?e8_InvalidPage ?ty_InvalidPage ?xi_InvalidPage ?tf_InvalidPage ?sa_InvalidPage ?no_InvalidPage_line ?e6 ?e7 ?ic_Loom ?ig ?it ?im_Loom ?sl_Loom ?st_Loom ?cl_InvalidRow ?ss_InvalidRow ?nx_InvalidRow_at ?cl_InvalidPage ?ss_InvalidPage ?nx_InvalidPage_line ?z_abs ?z_all ?z_bool ?z_enumerate ?z_int ?z_isinstance ?z_len ?z_list ?z_range ?z_str ?z_tuple ?z_zip ?g_MOST_SIGNS ?g_LONGEST_WORD ?g_LAST_STATE ?g_MOST_ARCS ?g_MOST_ITEMS ?g_EMPTY_ROW
    (case a_CReadError => k_is)
    (case a_CLoom => k_is)
    (case a_CInvalidRow => k_is)
    (case a_CInvalidPage => k_is)
    (case a_CInvalidLoom => k_is)
    (case a_InvalidLoom_init => k_is)
    (case i_InvalidLoom_init => k_is)
    (case l_InvalidLoom_init => k_is)
    (case c_InvalidLoom_init => k_is)
    (case k_InvalidLoom_init => k_is)
    (case a_InvalidRow_init => k_is)
    (case i_InvalidRow_init => k_is)
    (case l_InvalidRow_init => k_is)
    (case c_InvalidRow_init => k_is)
    (case k_InvalidRow_init => k_is)
    (case a_InvalidPage_init => k_is)
    (case i_InvalidPage_init => k_is)
    (case l_InvalidPage_init => k_is)
    (case c_InvalidPage_init => k_is)
    (case k_InvalidPage_init => k_is)
    (case a_is_number => k_is)
    (case l_is_number => k_is)
    (case c_is_number => k_is)
    (case k_is_number => k_is)
    (case a_is_sequence => k_is)
    (case l_is_sequence => k_is)
    (case c_is_sequence => k_is)
    (case k_is_sequence => k_is)
    (case a_is_signs => k_is)
    (case l_is_signs => k_is)
    (case c_is_signs => k_is)
    (case k_is_signs => k_is)
    (case a_is_string_over => k_is)
    (case l_is_string_over => k_is)
    (case c_is_string_over => k_is)
    (case k_is_string_over => k_is)
    (case a_is_word => k_is)
    (case l_is_word => k_is)
    (case c_is_word => k_is)
    (case k_is_word => k_is)
    (case a_first_wrong => k_is)
    (case l_first_wrong => k_is)
    (case c_first_wrong => k_is)
    (case k_first_wrong => k_is)
    (case a_check_signs => k_is)
    (case l_check_signs => k_is)
    (case c_check_signs => k_is)
    (case k_check_signs => k_is)
    (case a_is_arc => k_is)
    (case l_is_arc => k_is)
    (case c_is_arc => k_is)
    (case k_is_arc => k_is)
    (case a_Loom_init => k_is)
    (case i_Loom_init => k_is)
    (case l_Loom_init => k_is)
    (case c_Loom_init => k_is)
    (case k_Loom_init => k_is)
    (case a_Loom_eq => k_is)
    (case l_Loom_eq => k_is)
    (case c_Loom_eq => k_is)
    (case k_Loom_eq => k_is)
    (case a_numbers_up_to => k_is)
    (case l_numbers_up_to => k_is)
    (case c_numbers_up_to => k_is)
    (case k_numbers_up_to => k_is)
    (case a_write_row => k_is)
    (case l_write_row => k_is)
    (case c_write_row => k_is)
    (case k_write_row => k_is)
    (case a_read_row => k_is)
    (case l_read_row => k_is)
    (case c_read_row => k_is)
    (case k_read_row => k_is)
    (case a_l_pool => k_is)
    (case l_l_pool => k_is)
    (case c_l_pool => k_is)
    (case k_l_pool => k_is)
    (case a_l_draw => k_is)
    (case l_l_draw => k_is)
    (case c_l_draw => k_is)
    (case k_l_draw => k_is)
    (case a_l_pick => k_is)
    (case l_l_pick => k_is)
    (case c_l_pick => k_is)
    (case k_l_pick => k_is)
    (case a_l_line => k_is)
    (case l_l_line => k_is)
    (case c_l_line => k_is)
    (case k_l_line => k_is)
    (case a_l_due => k_is)
    (case l_l_due => k_is)
    (case c_l_due => k_is)
    (case k_l_due => k_is)
    (case a_l_read => k_is)
    (case l_l_read => k_is)
    (case c_l_read => k_is)
    (case k_l_read => k_is)
    (case a_l_written => k_is)
    (case l_l_written => k_is)
    (case c_l_written => k_is)
    (case k_l_written => k_is)
    (case a_l_spoiled => k_is)
    (case l_l_spoiled => k_is)
    (case c_l_spoiled => k_is)
    (case k_l_spoiled => k_is)
    (case a_l_same_lists => k_is)
    (case l_l_same_lists => k_is)
    (case c_l_same_lists => k_is)
    (case k_l_same_lists => k_is)
    (case a_law => k_is)
    (case l_law => k_is)
    (case c_law => k_is)
    (case k_law => k_is)
    (case pg_Loom => k_is)
    (case hd_Loom => k_is)
    (case po_Loom => k_is)
    (case sa_Loom => k_is)
    (case mk_Loom => k_is)
    (case kc_Loom => k_is)
    (case na_Loom_signs => k_is)
    (case na_Loom_arcs => k_is)
    (case kc_ReadError => k_is)
    (case e1_ReadError => k_is)
    (case e2_ReadError => k_is)
    (case e3_ReadError => k_is)
    (case e4_ReadError => k_is)
    (case e5_ReadError => k_is)
    (case e8_ReadError => k_is)
    (case ty_ReadError => k_is)
    (case in_ReadError => k_exc)
    (case kc_InvalidRow => k_is)
    (case e1_InvalidRow => k_is)
    (case e2_InvalidRow => k_is)
    (case e3_InvalidRow => k_is)
    (case e4_InvalidRow => k_is)
    (case e5_InvalidRow => k_is)
    (case e8_InvalidRow => k_is)
    (case ty_InvalidRow => k_is)
    (case xi_InvalidRow => k_is)
    (case tf_InvalidRow => k_is)
    (case sa_InvalidRow => k_is)
    (case no_InvalidRow_at => k_is)
    (case kc_InvalidPage => k_is)
    (case e1_InvalidPage => k_is)
    (case e2_InvalidPage => k_is)
    (case e3_InvalidPage => k_is)
    (case e4_InvalidPage => k_is)
    (case e5_InvalidPage => k_is)
    (case e8_InvalidPage => k_is)
    (case ty_InvalidPage => k_is)
    (case xi_InvalidPage => k_is)
    (case tf_InvalidPage => k_is)
    (case sa_InvalidPage => k_is)
    (case no_InvalidPage_line => k_is)
    (case e6 => k_is)
    (case e7 => k_is)
    (case ic_Loom => k_is)
    (case ig => k_is)
    (case it => k_is)
    (case im_Loom => k_is)
    (case sl_Loom => k_is)
    (case st_Loom => k_is)
    (case cl_InvalidRow => k_is)
    (case ss_InvalidRow => k_is)
    (case nx_InvalidRow_at => k_is)
    (case cl_InvalidPage => k_is)
    (case ss_InvalidPage => k_is)
    (case nx_InvalidPage_line => k_is)
    (case z_abs => k_is)
    (case z_all => k_is)
    (case z_bool => k_is)
    (case z_enumerate => k_is)
    (case z_int => k_is)
    (case z_isinstance => k_is)
    (case z_len => k_is)
    (case z_list => k_is)
    (case z_range => k_is)
    (case z_str => k_is)
    (case z_tuple => k_is)
    (case z_zip => k_is)
    (case g_MOST_SIGNS => k_is)
    (case g_LONGEST_WORD => k_is)
    (case g_LAST_STATE => k_is)
    (case g_MOST_ARCS => k_is)
    (case g_MOST_ITEMS => k_is)
    (case g_EMPTY_ROW => k_is)
